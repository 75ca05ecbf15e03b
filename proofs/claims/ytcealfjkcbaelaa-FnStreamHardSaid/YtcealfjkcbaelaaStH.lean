import Derived.Test.YtcealfjkcbaelaaTkA
import Derived.Test.YtcealfjkcbaelaaTkO
import Derived.Test.YtcealfjkcbaelaaTkX
/-
  A newline that has to stay, between two streams: plain.
-/
set_option linter.unusedVariables false
set_option linter.unusedSimpArgs false
namespace Go.Proofs.Ytcealfjkcbaelaa.Tk
open Go.RowKit P1 Rn

theorem glo_app : ∀ (s t : List Tok) (d N : Nat), glo d s = some N → glo d (s ++ t) = some N
  | [], t, d, N, h => by obtain ⟨rfl, rfl⟩ := glo_nil h; exact glo_zero _
  | r :: s, t, d, N, h => by
    by_cases h0 : d = 0
    · subst h0; rw [glo_zero] at h ⊢; exact h
    · obtain ⟨M, rfl, hM⟩ := glo_cons (by omega) h
      have ih := glo_app s t _ M hM
      simp [glo, h0, ih]
theorem lkN_app {h : Tok} (hn : isN h.1 = true) (Y : List Tok) (L : Nat) : ∀ (l : List Tok) (i : Nat) (acc : Int), L ≤ i + l.length → (lkN L (l ++ h :: Y) i acc).1 = (lkN L l i acc).1
  | [], i, acc, hl => by
    simp only [List.length_nil, Nat.add_zero] at hl
    rw [List.nil_append, lkN_new (by omega) hn]; rfl
  | r :: l, i, acc, hl => by
    simp only [List.length_cons] at hl
    have ih := lkN_app hn Y L l (i + 1) (acc + szT r) (by omega)
    simp only [List.cons_append, lkN]
    split
    · rfl
    · split
      · rfl
      · exact ih
theorem str_fuel (W : Int) : ∀ (f g : Nat) (l : List Tok) (s : St) (ns : List Int) (a : Nat), l.length ≤ f → l.length ≤ g → str W f l s ns a = str W g l s ns a
  | f, g, [], s, ns, a, _, _ => by rw [str_nil, str_nil]
  | 0, g, r :: l, s, ns, a, h, _ => by simp at h
  | f + 1, 0, r :: l, s, ns, a, _, h => by simp at h
  | f + 1, g + 1, r :: l, s, ns, a, hf, hg => by
    simp only [List.length_cons] at hf hg
    have ih := fun s ns a => str_fuel W f g l s ns a (by omega) (by omega)
    have ih2 := fun s ns a => str_fuel W f g ((r :: l).drop (gL (r :: l))) s ns a (by rw [List.length_drop, List.length_cons]; unfold gL; omega) (by rw [List.length_drop, List.length_cons]; unfold gL; omega)
    simp only [str, ih, ih2]
/-- lines ahead of a state -/
def ah (p : List (Int × ByteArray)) (s : St) : St := { s with rows := p ++ s.rows }
theorem str_ah (W : Int) (p : List (Int × ByteArray)) : ∀ (f : Nat) (l : List Tok) (s : St) (ns : List Int) (a : Nat), (str W f l (ah p s) ns a).1 = ah p (str W f l s ns a).1
  | 0, l, s, ns, a => rfl
  | f + 1, [], s, ns, a => by rw [str_nil, str_nil]
  | f + 1, r :: l, s, ns, a => by
    have e1 : (ah p s).put r.2.2 = ah p (s.put r.2.2) := rfl
    have e2 : (ah p s).line (ns.headD 0) = ah p (s.line (ns.headD 0)) := by simp [St.line, ah]
    have e3 : ∀ t, (ah p s).put t = ah p (s.put t) := fun t => rfl
    have e4 : fitT W (ah p s) (r :: l) = fitT W s (r :: l) := rfl
    have ih := fun l s ns a => str_ah W p f l s ns a
    simp only [str, e2, e3, e4]
    repeat' split
    all_goals exact ih _ _ _ _
theorem str_one (W : Int) : ∀ (f : Nat) (l : List Tok) (s : St) (ns : List Int) (a b : Nat), (str W f l s ns a).1 = (str W f l s ns b).1
  | 0, l, s, ns, a, b => rfl
  | f + 1, [], s, ns, a, b => by rw [str_nil, str_nil]
  | f + 1, r :: l, s, ns, a, b => by
    have ih := fun l s ns a b => str_one W f l s ns a b
    simp only [str]
    repeat' split
    all_goals exact ih _ _ _ _ _
theorem fin_ah (p : List (Int × ByteArray)) (s : St) : (ah p s).fin = p ++ s.fin := by simp [ah, St.fin]

/-- a stream, and behind it a newline: the newline is met in the state behind the stream -/
theorem str_cat (W : Int) {h : Tok} (hn : isN h.1 = true) (Y : List Tok) (base : List Int) : ∀ (f : Nat) (l : List Tok) (st : List Int) (s : St) (pre : List Int) (a F G : Nat), l.length ≤ f → run st l = some [] → Cl l → pre.length = c7 st → (l ++ h :: Y).length ≤ F → (h :: Y).length ≤ G →
    (str W F (l ++ h :: Y) s (pre ++ base) a).1 = (str W G (h :: Y) (str W f l s (pre ++ base) a).1 base a).1
  | f, [], st, s, pre, a, F, G, _, hr, _, hp, hF, hG => by
    simp only [Tk.run, Option.some.injEq] at hr
    subst hr
    have : pre = [] := List.length_eq_zero_iff.1 hp
    subst this
    rw [str_nil]
    exact congrArg (·.1) (str_fuel W F G (h :: Y) s base a hF hG)
  | 0, r :: l, st, s, pre, a, F, G, hf, _, _, _, _, _ => by simp at hf
  | f + 1, r :: l, st, s, pre, a, 0, G, _, _, _, _, hF, _ => by simp at hF
  | f + 1, r :: l, st, s, pre, a, F + 1, G, hf, hr, hc, hp, hF, hG => by
    simp only [List.length_cons] at hf
    have hFF : (l ++ h :: Y).length ≤ F := by simp only [List.cons_append, List.length_cons] at hF; omega
    obtain ⟨hkt, st', hs, hr'⟩ := run_cons hr
    have hcl : Cl l := hc.drop 1
    have one := fun (s : St) (ns : List Int) (b : Nat) => str_one W G (h :: Y) s ns b a
    rw [List.cons_append]
    by_cases h1 : r.1 = 1
    · rw [str_text h1, str_text h1]
      rw [stp_same hs (by omega) (by omega)] at hr'
      exact str_cat W hn Y base f l st _ pre a F G (by omega) hr' hcl hp hFF hG
    cases hnr : isN r.1 with
    | true =>
      have hkk : 2 ≤ r.1 ∧ r.1 ≤ 4 := by simpa [isN] using hnr
      rw [str_new hnr, str_new hnr]
      rw [stp_same hs (by omega) (by omega)] at hr'
      exact str_cat W hn Y base f l st _ pre a F G (by omega) hr' hcl hp hFF hG
    | false =>
    by_cases h7 : r.1 = 7
    · rw [str_in h7, str_in h7]
      rw [stp_push hs (.inr h7)] at hr'
      rw [← List.cons_append]
      exact str_cat W hn Y base f l (r.1 :: st) _ (((pre ++ base).headD 0 + r.2.1) :: pre) a F G (by omega) hr' hcl (by simp only [List.length_cons, c7, hp]; rw [if_pos h7]; omega) hFF hG
    by_cases h8 : r.1 = 8
    · obtain ⟨z, hz, hzk⟩ := stp_pop hs (.inr h8)
      subst hz
      obtain rfl : z = 7 := by omega
      rw [str_out h8, str_out h8]
      simp only [c7] at hp
      cases pre with
      | nil => simp at hp; omega
      | cons x pre =>
        simp only [List.cons_append, List.tail_cons]
        exact str_cat W hn Y base f l st' _ pre a F G (by omega) hr' hcl (by simp at hp; omega) hFF hG
    by_cases h5 : r.1 = 5
    · obtain ⟨N, hN⟩ := hc 0 (by simp) h5
      have hN' : glo 1 ((r :: l).drop 1) = some N := hN
      have hg : gL (r :: l) = N + 1 := gL_eq hN'
      have hNl : N ≤ l.length := by have := glo_len _ _ _ hN'; simpa using this
      have hg2 : gL (r :: (l ++ h :: Y)) = N + 1 := gL_eq (by have := glo_app l (h :: Y) 1 N (by simpa using hN'); simpa using this)
      have hft : fitT W s (r :: (l ++ h :: Y)) = fitT W s (r :: l) := by
        unfold fitT
        rw [hg, hg2, ← List.cons_append, lkN_app hn Y (N + 1) (r :: l) 0 0 (by simp only [List.length_cons]; omega)]
      cases hf2 : fitT W s (r :: l) with
      | true =>
        rw [str_fit h5 hf2, str_fit h5 (by rw [hft, hf2]), hg, hg2]
        have ed : (r :: (l ++ h :: Y)).drop (N + 1) = (r :: l).drop (N + 1) ++ h :: Y := by
          rw [← List.cons_append, List.drop_append_of_le_length (by simp only [List.length_cons]; omega)]
        have et : (r :: (l ++ h :: Y)).take (N + 1) = (r :: l).take (N + 1) := by
          rw [← List.cons_append, List.take_append_of_le_length (by simp only [List.length_cons]; omega)]
        rw [ed, et]
        rw [stp_push hs (.inl h5)] at hr'
        have hr2 := run_group l [5] st N (by decide) rfl (by rw [show c5 [5] = 1 from rfl]; simpa using hN') (by rw [h5] at hr'; exact hr')
        have ih := fun b => str_cat W hn Y base f ((r :: l).drop (N + 1)) st (s.put (flT ((r :: l).take (N + 1)))) pre b F G (by rw [List.length_drop, List.length_cons]; omega) (by simpa using hr2) (hc.drop _) hp (by rw [List.length_append, List.length_drop, List.length_cons]; rw [List.length_append] at hFF; omega) hG
        rw [ih, one, str_one W f ((r :: l).drop (N + 1)) _ _ _ (max a (nxt (N + 1) (r :: l) 0))]
      | false =>
        rw [str_open h5 hf2, str_open h5 (by rw [hft, hf2])]
        rw [stp_push hs (.inl h5)] at hr'
        have ih := fun b => str_cat W hn Y base f l (r.1 :: st) s pre b F G (by omega) hr' hcl (by simp only [c7, hp]; rw [if_neg (by omega)]; omega) hFF hG
        rw [ih, one, str_one W f l _ _ _ (max a (nxt (gL (r :: l)) (r :: l) 0))]
    · have h6 : r.1 = 6 := by
        rcases (show r.1 = 6 ∨ r.1 ≠ 6 by omega) with h | h
        · exact h
        · exfalso
          unfold kt at hkt
          rw [if_neg h1, if_neg h7] at hkt
          simp only [Bool.and_eq_true, decide_eq_true_eq] at hkt
          have : ¬ (2 ≤ r.1 ∧ r.1 ≤ 4) := fun e => by rw [show isN r.1 = true by simp [isN, e.1, e.2]] at hnr; cases hnr
          omega
      obtain ⟨z, hz, hzk⟩ := stp_pop hs (.inl h6)
      subst hz
      rw [str_else h1 hnr h7 h8 h5, str_else h1 hnr h7 h8 h5]
      exact str_cat W hn Y base f l st' _ pre a F G (by omega) hr' hcl (by simp only [c7, if_neg (show ¬ z = 7 by omega)] at hp; omega) hFF hG

theorem tkv_hard {X : List Tok} (h : tkv X = true) (hl : X.length ≤ 90) : tkv (X ++ (4, 0, ⟨#[]⟩) :: X) = true := by
  have e : run [] (X ++ (4, 0, ⟨#[]⟩) :: X) = some [] := by
    rw [run_app, (tkv_run h).2]
    show run [] ((4, 0, ⟨#[]⟩) :: X) = some []
    have e2 : run [] ((4, 0, ⟨#[]⟩) :: X) = run [] X := rfl
    rw [e2]; exact (tkv_run h).2
  unfold tkv
  rw [e]
  simp; omega
/-- a stream twice, with a newline that has to stay between -/
theorem sr_hard {W : Int} {X : List Tok} {L : List (Int × ByteArray)} (h : srR W X = (L, true)) (hl : X.length ≤ 90) : srR W (X ++ (4, 0, ⟨#[]⟩) :: X) = (L ++ L, true) := by
  have hw : Cst.wv W = true := by
    cases hw : Cst.wv W with
    | true => rfl
    | false => rw [Sq.sr_no hw] at h; injection h with _ h
  have hv : tkv X = true := by
    cases hv : tkv X with
    | true => rfl
    | false => rw [Sq.sr_bad hv] at h; injection h with _ h
  rw [Sq.sr_yes hw hv] at h
  injection h with h _
  rw [Sq.sr_yes hw (tkv_hard hv hl)]
  congr 1
  have hr := (tkv_run hv).2
  have hc := str_cat W (h := (4, 0, ⟨#[]⟩)) (by decide) X [0] X.length X [] St.zero [] 0 (X ++ (4, 0, ⟨#[]⟩) :: X).length (X.length + 1) (Nat.le_refl _) hr (Cl.of hv) rfl (Nat.le_refl _) (Nat.le_refl _)
  unfold srS at h ⊢
  simp only [List.nil_append] at hc
  rw [hc]
  obtain ⟨S, hS⟩ : ∃ S, (str W X.length X St.zero [0] 0).1 = S := ⟨_, rfl⟩
  rw [hS] at h ⊢
  rw [str_new (show isN ((4, 0, ⟨#[]⟩) : Tok).1 = true by decide)]
  have e : S.line (([0] : List Int).headD 0) = (ah L { St.zero with flags := S.flags }) := by
    rw [← h]; simp [St.line, ah, St.fin, St.zero]
  rw [e, str_ah, fin_ah]
  congr 1
  have hfl : ∀ (f : Nat) (l : List Tok) (s : St) (ns : List Int) (a : Nat) (g : List Bool), (str W f l { s with flags := g } ns a).1 = { (str W f l s ns a).1 with flags := g } := by
    intro f
    induction f with
    | zero => intro l s ns a g; rfl
    | succ f ih =>
      intro l s ns a g
      cases l with
      | nil => rw [str_nil, str_nil]
      | cons r l =>
        have e3 : ∀ t, St.put { s with flags := g } t = { s.put t with flags := g } := fun t => rfl
        have e2 : ∀ i, St.line { s with flags := g } i = { s.line i with flags := g } := fun i => rfl
        have e4 : fitT W { s with flags := g } (r :: l) = fitT W s (r :: l) := rfl
        simp only [str, e2, e3, e4]
        repeat' split
        all_goals exact ih _ _ _ _ _
  rw [hfl, hS, ← h]
  try rfl

end Go.Proofs.Ytcealfjkcbaelaa.Tk

