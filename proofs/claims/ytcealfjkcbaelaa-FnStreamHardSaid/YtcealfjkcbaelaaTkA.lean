import Derived.Test.YtcealfjkcbaelaaTkG
import Derived.Test.YtcealfjkcbaelaaRnA
/-
  What a group needs is at most the bytes of all that is behind it; nothing here speaks of the program.
-/
set_option linter.unusedVariables false
set_option linter.unusedSimpArgs false
namespace Go.Proofs.Ytcealfjkcbaelaa.Tk
open Go.RowKit P1

/-- the bytes of the texts and of the spaces -/
def rst : List Tok → Int
  | [] => 0
  | r :: l => (if r.1 = 1 ∨ r.1 = 2 then szT r else 0) + rst l
theorem szT_nn (r : Tok) : 0 ≤ szT r := by unfold szT; split <;> omega
theorem rst_nn : ∀ l : List Tok, 0 ≤ rst l
  | [] => Int.le_refl _
  | r :: l => by
    have h1 := rst_nn l
    have h2 := szT_nn r
    simp only [rst]; split <;> omega
theorem rst_drop {l : List Tok} {k : Nat} (h : k < l.length) : rst (l.drop k) = (if l[k].1 = 1 ∨ l[k].1 = 2 then szT l[k] else 0) + rst (l.drop (k + 1)) := by
  rw [drop_cons' h]; rfl
theorem rst_le (l : List Tok) (h : ∀ r ∈ l, r.2.2.size ≤ 12) : rst l ≤ 12 * (l.length : Int) := by
  induction l with
  | nil => exact Int.le_refl _
  | cons r l ih =>
    have h1 := h r (by simp)
    have h2 := ih (fun q hq => h q (by simp [hq]))
    have h3 : szT r ≤ 12 := by unfold szT; split <;> omega
    simp only [rst, List.length_cons]
    split <;> omega
theorem kt_none {r : Tok} (h : kt r.1 r.2.1 r.2.2 = true) (h12 : ¬ (r.1 = 1 ∨ r.1 = 2)) : szT r = 0 := by
  have ht : r.2.2 = ⟨#[]⟩ := by
    unfold kt at h
    rw [if_neg (by omega)] at h
    split at h
    · simp only [Bool.and_eq_true, decide_eq_true_eq] at h; exact h.1
    · simp only [Bool.and_eq_true, decide_eq_true_eq] at h; exact h.2.1
  unfold szT
  rw [if_neg (by omega), ht]; rfl
theorem lkN_le {L : Nat} : ∀ (s : List Tok) (i : Nat) (acc : Int), 0 ≤ acc → (∀ r ∈ s, kt r.1 r.2.1 r.2.2 = true) → (lkN L s i acc).1 ≤ acc + rst s
  | [], i, acc, _, _ => by simp [lkN, rst]
  | r :: s, i, acc, h0, hk => by
    have hn := rst_nn (r :: s)
    by_cases h1 : i < L ∧ r.1 = 4
    · rw [lkN_hard h1.1 h1.2]; show (-1 : Int) ≤ _; omega
    · by_cases h2 : ¬ i < L ∧ isN r.1 = true
      · rw [lkN_new h2.1 h2.2]; show acc ≤ _; omega
      · have e : lkN L (r :: s) i acc = lkN L s (i + 1) (acc + szT r) := by simp only [lkN]; rw [if_neg h1, if_neg h2]
        have hs := szT_nn r
        have ih := lkN_le s (i + 1) (acc + szT r) (L := L) (by omega) (fun q hq => hk q (by simp [hq]))
        rw [e]
        simp only [rst]
        by_cases h12 : r.1 = 1 ∨ r.1 = 2
        · rw [if_pos h12]; omega
        · rw [if_neg h12]; have := kt_none (hk r (by simp)) h12; omega
theorem kt_all {l : List Tok} (h : tkv l = true) : ∀ r ∈ l, kt r.1 r.2.1 r.2.2 = true := fun r hr => by
  obtain ⟨q, hq, rfl⟩ := List.getElem_of_mem hr
  exact tkv_kt h hq
theorem room_le {l : List Tok} (h : tkv l = true) {i : Nat} (hi : i < l.length) : roomT l i hi ≤ rst (l.drop i) := by
  have hk := kt_all h
  unfold roomT
  split
  · have := lkN_le (L := gL (l.drop i)) (l.drop i) 0 0 (Int.le_refl _) (fun r hr => hk r (List.mem_of_mem_drop hr))
    omega
  · rw [rst_drop hi]
    have h1 := rst_nn (l.drop (i + 1))
    by_cases h12 : l[i].1 = 1 ∨ l[i].1 = 2
    · rw [if_pos h12]; omega
    · rw [if_neg h12, kt_none (hk _ (List.getElem_mem hi)) h12]; omega
theorem room_bd {l : List Tok} (h : tkv l = true) {i : Nat} (hi : i < l.length) : -1 ≤ roomT l i hi ∧ roomT l i hi ≤ 2400 := by
  have h1 := room_le h hi
  have h2 := rst_le (l.drop i) (fun r hr => kt_size (kt_all h r (List.mem_of_mem_drop hr)))
  have h3 := tkv_len h
  rw [List.length_drop] at h2
  refine ⟨?_, by omega⟩
  unfold roomT
  split
  · have : ∀ (s : List Tok) (i : Nat) (acc : Int), 0 ≤ acc → -1 ≤ (lkN (gL (l.drop i)) s i acc).1 ∨ True := fun _ _ _ _ => .inr trivial
    have : ∀ (L : Nat) (s : List Tok) (i : Nat) (acc : Int), 0 ≤ acc → -1 ≤ (lkN L s i acc).1 := by
      intro L s
      induction s with
      | nil => intro i acc h; show (-1 : Int) ≤ acc; omega
      | cons r s ih =>
        intro i acc h
        have := szT_nn r
        simp only [lkN]
        split
        · exact Int.le_refl _
        · split
          · show (-1 : Int) ≤ acc; omega
          · exact ih _ _ (by omega)
    exact this _ _ _ _ (Int.le_refl _)
  · have := szT_nn l[i]; omega

end Go.Proofs.Ytcealfjkcbaelaa.Tk

/-
  How far is looked ahead, and what a stream of tokens is laid out to, as plain functions.
-/
set_option linter.unusedVariables false
set_option linter.unusedSimpArgs false
namespace Go.Proofs.Ytcealfjkcbaelaa.Tk
open Go.RowKit P1 Rn

/-- where the look ahead from a group of L tokens ends -/
def nxt (L : Nat) : List Tok → Nat → Nat
  | [], i => i
  | r :: s, i => if (i < L ∧ r.1 = 4) ∨ (¬ i < L ∧ isN r.1 = true) then i else nxt L s (i + 1)
theorem nxt_ge (L : Nat) : ∀ (s : List Tok) (i : Nat), i ≤ nxt L s i
  | [], i => Nat.le_refl _
  | r :: s, i => by
    simp only [nxt]
    split
    · exact Nat.le_refl _
    · have := nxt_ge L s (i + 1); omega
theorem nxt_le (L : Nat) : ∀ (s : List Tok) (i : Nat), nxt L s i ≤ i + s.length
  | [], i => Nat.le_refl _
  | r :: s, i => by
    simp only [nxt, List.length_cons]
    split
    · omega
    · have := nxt_le L s (i + 1); omega
theorem lkN_nxt (L : Nat) : ∀ (s : List Tok) (i : Nat) (acc : Int), (lkN L s i acc).2.getD (i + s.length) = nxt L s i
  | [], i, acc => rfl
  | r :: s, i, acc => by
    by_cases h1 : i < L ∧ r.1 = 4
    · rw [lkN_hard h1.1 h1.2]; simp only [nxt]; rw [if_pos (Or.inl h1)]; rfl
    · by_cases h2 : ¬ i < L ∧ isN r.1 = true
      · rw [lkN_new h2.1 h2.2]; simp only [nxt]; rw [if_pos (Or.inr h2)]; rfl
      · have e : lkN L (r :: s) i acc = lkN L s (i + 1) (acc + szT r) := by simp only [lkN]; rw [if_neg h1, if_neg h2]
        rw [e]; simp only [nxt]; rw [if_neg (by rintro (h | h); exact h1 h; exact h2 h), ← lkN_nxt L s (i + 1) (acc + szT r), List.length_cons]
        congr 1; omega
/-- every group closes -/
def Cl (l : List Tok) : Prop := ∀ i, (h : i < l.length) → l[i].1 = 5 → ∃ N, glo 1 (l.drop (i + 1)) = some N
theorem Cl.of {l : List Tok} (h : tkv l = true) : Cl l := fun i hi h5 => glo_valid h hi h5
theorem Cl.drop {l : List Tok} (h : Cl l) (k : Nat) : Cl (l.drop k) := fun i hi h5 => by
  rw [List.getElem_drop] at h5
  obtain ⟨N, hN⟩ := h (k + i) (by rw [List.length_drop] at hi; omega) h5
  exact ⟨N, by rw [List.drop_drop, show k + (i + 1) = k + i + 1 by omega]; exact hN⟩
theorem glo_len : ∀ (s : List Tok) (d N : Nat), glo d s = some N → N ≤ s.length
  | [], d, N, h => by have := (glo_nil h).2; omega
  | r :: s, d, N, h => by
    by_cases h0 : d = 0
    · subst h0; rw [glo_zero] at h; injection h with h; omega
    · obtain ⟨M, rfl, hM⟩ := glo_cons (by omega) h
      have := glo_len s _ M hM
      simp only [List.length_cons]; omega
/-- the text of flattened tokens -/
def flT : List Tok → ByteArray
  | [] => ⟨#[]⟩
  | r :: l => (if r.1 = 2 then ⟨#[32]⟩ else ⟨#[]⟩) ++ r.2.2 ++ flT l
theorem flT_app (p q : List Tok) : flT (p ++ q) = flT p ++ flT q := by
  induction p with
  | nil => exact (ByteArray.empty_append).symm
  | cons r p ih => simp only [List.cons_append, flT, ih, ByteArray.append_assoc]
theorem flT_size (l : List Tok) (h : ∀ r ∈ l, r.2.2.size ≤ 12) : (flT l).size ≤ 13 * l.length := by
  induction l with
  | nil => exact Nat.le_refl _
  | cons r l ih =>
    have h1 := h r (by simp)
    have h2 := ih (fun q hq => h q (by simp [hq]))
    simp only [flT, ByteArray.size_append, List.length_cons]
    have : (if r.1 = 2 then (⟨#[32]⟩ : ByteArray) else ⟨#[]⟩).size ≤ 1 := by split <;> decide
    omega
theorem put_put (s : St) (a b : ByteArray) : (s.put a).put b = s.put (a ++ b) := by simp [St.put, ByteArray.append_assoc]
/-- whether a group is flattened -/
def fitT (W : Int) (s : St) (l : List Tok) : Bool := decide (0 ≤ (lkN (gL l) l 0 0).1) && decide (s.used + (lkN (gL l) l 0 0).1 ≤ W)
/-- the state of a stream behind some tokens, the sums of the nests that are open (the innermost first), and how far was looked ahead -/
def str (W : Int) : Nat → List Tok → St → List Int → Nat → St × Nat
  | 0, _, s, _, a => (s, a)
  | _ + 1, [], s, _, a => (s, a)
  | f + 1, r :: l, s, ns, a =>
    if r.1 = 1 then str W f l (s.put r.2.2) ns a
    else if isN r.1 = true then str W f l (s.line (ns.headD 0)) ns a
    else if r.1 = 7 then str W f l s ((ns.headD 0 + r.2.1) :: ns) a
    else if r.1 = 8 then str W f l s ns.tail a
    else if r.1 = 5 then
      (if fitT W s (r :: l) = true then str W f ((r :: l).drop (gL (r :: l))) (s.put (flT ((r :: l).take (gL (r :: l))))) ns (max a (nxt (gL (r :: l)) (r :: l) 0))
       else str W f l s ns (max a (nxt (gL (r :: l)) (r :: l) 0)))
    else str W f l s ns a
section
variable {W : Int} {f : Nat} {r : Tok} {l : List Tok} {s : St} {ns : List Int} {a : Nat}
theorem str_nil : str W f [] s ns a = (s, a) := by cases f <;> rfl
theorem str_text (h : r.1 = 1) : str W (f + 1) (r :: l) s ns a = str W f l (s.put r.2.2) ns a := by simp only [str]; rw [if_pos h]
theorem str_new (h : isN r.1 = true) : str W (f + 1) (r :: l) s ns a = str W f l (s.line (ns.headD 0)) ns a := by
  have h1 : r.1 ≠ 1 := fun e => by rw [e] at h; exact absurd h (by decide)
  simp only [str]; rw [if_neg h1, if_pos h]
theorem str_in (h : r.1 = 7) : str W (f + 1) (r :: l) s ns a = str W f l s ((ns.headD 0 + r.2.1) :: ns) a := by
  simp only [str]; rw [if_neg (by omega), if_neg (by rw [h]; decide), if_pos h]
theorem str_out (h : r.1 = 8) : str W (f + 1) (r :: l) s ns a = str W f l s ns.tail a := by
  simp only [str]; rw [if_neg (by omega), if_neg (by rw [h]; decide), if_neg (by omega), if_pos h]
theorem str_fit (h : r.1 = 5) (hf : fitT W s (r :: l) = true) : str W (f + 1) (r :: l) s ns a = str W f ((r :: l).drop (gL (r :: l))) (s.put (flT ((r :: l).take (gL (r :: l))))) ns (max a (nxt (gL (r :: l)) (r :: l) 0)) := by
  simp only [str]; rw [if_neg (by omega), if_neg (by rw [h]; decide), if_neg (by omega), if_neg (by omega), if_pos h, if_pos hf]
theorem str_open (h : r.1 = 5) (hf : fitT W s (r :: l) = false) : str W (f + 1) (r :: l) s ns a = str W f l s ns (max a (nxt (gL (r :: l)) (r :: l) 0)) := by
  simp only [str]; rw [if_neg (by omega), if_neg (by rw [h]; decide), if_neg (by omega), if_neg (by omega), if_pos h, if_neg (by rw [hf]; decide)]
theorem str_else (h1 : r.1 ≠ 1) (hn : isN r.1 = false) (h7 : r.1 ≠ 7) (h8 : r.1 ≠ 8) (h5 : r.1 ≠ 5) : str W (f + 1) (r :: l) s ns a = str W f l s ns a := by
  simp only [str]; rw [if_neg h1, if_neg (by rw [hn]; decide), if_neg h7, if_neg h8, if_neg h5]
end
def srS (W : Int) (l : List Tok) : St := (str W l.length l St.zero [0] 0).1
def srR (W : Int) (l : List Tok) : List (Int × ByteArray) × Bool := if (decide (0 ≤ W) && decide (W ≤ 200)) && tkv l then ((srS W l).fin, true) else ([], false)

end Go.Proofs.Ytcealfjkcbaelaa.Tk

/-
  What holds at each token of a stream that is laid out: plain.
-/
set_option linter.unusedVariables false
set_option linter.unusedSimpArgs false
namespace Go.Proofs.Ytcealfjkcbaelaa.Tk
open Go.RowKit P1 Rn

/-- the kinds 7 in a stack -/
def c7 : List Int → Nat
  | [] => 0
  | x :: r => (if x = 7 then 1 else 0) + c7 r
theorem run_cons {st : List Int} {r : Tok} {l : List Tok} (h : run st (r :: l) = some []) : kt r.1 r.2.1 r.2.2 = true ∧ ∃ st', stp st r.1 = some st' ∧ run st' l = some [] := by
  simp only [run] at h
  split at h
  · rename_i hk
    split at h
    · cases h
    · rename_i st' hs; exact ⟨hk, st', hs, h⟩
  · cases h
theorem stp_push {st : List Int} {k : Int} {st' : List Int} (h : stp st k = some st') (hk : k = 5 ∨ k = 7) : st' = k :: st := by
  unfold stp at h; rw [if_pos hk] at h
  split at h
  · injection h with h; exact h.symm
  · cases h
theorem stp_pop {st : List Int} {k : Int} {st' : List Int} (h : stp st k = some st') (hk : k = 6 ∨ k = 8) : ∃ x, st = x :: st' ∧ x + 1 = k := by
  unfold stp at h; rw [if_neg (by omega), if_pos hk] at h
  split at h
  · cases h
  · rename_i x q
    split at h
    · rename_i e; injection h with h; exact ⟨x, by rw [h], e⟩
    · cases h
theorem stp_same {st : List Int} {k : Int} {st' : List Int} (h : stp st k = some st') (h1 : ¬ (k = 5 ∨ k = 7)) (h2 : ¬ (k = 6 ∨ k = 8)) : st' = st := by
  unfold stp at h; rw [if_neg h1, if_neg h2] at h
  injection h with h; exact h.symm
/-- behind a group what was open is open -/
theorem run_group : ∀ (s : List Tok) (top st : List Int) (N : Nat), 0 < c5 top → top.getLast? = some 5 → glo (c5 top) s = some N → run (top ++ st) s = some [] → run st (s.drop N) = some []
  | [], top, st, N, hd, _, hg, _ => by have := (glo_nil hg).1; omega
  | r :: s, top, st, N, hd, hlast, hg, h => by
    obtain ⟨M, rfl, hM⟩ := glo_cons hd hg
    obtain ⟨_, st', hs, hr⟩ := run_cons h
    by_cases h57 : r.1 = 5 ∨ r.1 = 7
    · have e := stp_push hs h57
      have hc : c5 (r.1 :: top) = nx (c5 top) r.1 := by
        simp only [c5, nx]
        by_cases h5 : r.1 = 5
        · rw [if_pos h5, if_pos h5]; omega
        · rw [if_neg h5, if_neg h5, if_neg (by omega)]; omega
      have hl : (r.1 :: top).getLast? = some 5 := by
        cases top with
        | nil => simp at hlast
        | cons x q => rw [List.getLast?_cons_cons]; exact hlast
      rw [e, ← List.cons_append] at hr
      rw [List.drop_succ_cons]
      exact run_group s (r.1 :: top) st M (by simp only [c5]; omega) hl (by rw [hc]; exact hM) hr
    · by_cases h68 : r.1 = 6 ∨ r.1 = 8
      · obtain ⟨x, hx, hxk⟩ := stp_pop hs h68
        cases top with
        | nil => simp at hlast
        | cons y q =>
          rw [List.cons_append] at hx
          injection hx with e1 e2
          subst e1
          rw [← e2] at hr
          rw [List.drop_succ_cons]
          rcases h68 with h6 | h8
          · have hy : y = 5 := by omega
            subst hy
            have hn : nx (c5 (5 :: q)) r.1 = c5 q := by simp only [nx, c5]; rw [if_neg (by omega), if_pos h6]; simp
            rw [hn] at hM
            cases q with
            | nil =>
              have : M = 0 := by
                have e : c5 [] = 0 := rfl
                rw [e, glo_zero] at hM; injection hM with hM; exact hM.symm
              subst this
              exact hr
            | cons z q' =>
              rw [List.getLast?_cons_cons] at hlast
              by_cases h0 : c5 (z :: q') = 0
              · exfalso
                have : ∀ (q : List Int), q.getLast? = some 5 → 0 < c5 q := by
                  intro q
                  induction q with
                  | nil => intro h; simp at h
                  | cons a b ih =>
                    intro h
                    cases b with
                    | nil => simp at h; subst h; simp [c5]
                    | cons c d => rw [List.getLast?_cons_cons] at h; have := ih h; simp only [c5] at this ⊢; omega
                have := this _ hlast
                omega
              · exact run_group s (z :: q') st M (by omega) hlast hM hr
          · have hy : y = 7 := by omega
            subst hy
            have hn : nx (c5 (7 :: q)) r.1 = c5 q := by simp only [nx, c5]; rw [if_neg (by omega), if_neg (by omega)]; simp
            rw [hn] at hM
            have hq : 0 < c5 q := by simp [c5] at hd; exact hd
            have hl2 : q.getLast? = some 5 := by
              cases q with
              | nil => simp [c5] at hq
              | cons z q' => rw [List.getLast?_cons_cons] at hlast; exact hlast
            exact run_group s q st M hq hl2 hM hr
      · have e := stp_same hs h57 h68
        rw [e] at hr
        have hn : nx (c5 top) r.1 = c5 top := by simp only [nx]; rw [if_neg (by omega), if_neg (by omega)]
        rw [hn] at hM
        rw [List.drop_succ_cons]
        exact run_group s top st M hd hlast hM hr

/-- what holds at token J: what is left comes to R -/
structure SI (W : Int) (l : List Tok) (R : St × Nat) (J : Nat) (s : St) (ns : List Int) (a : Nat) : Prop where
  le : J ≤ l.length
  res : ∃ f, l.length - J ≤ f ∧ str W f (l.drop J) s ns a = R
  stk : ∃ st, run st (l.drop J) = some [] ∧ ns.length = 1 + c7 st
  nb : ∀ x ∈ ns, 0 ≤ x ∧ x ≤ 9 * (J : Int)
  rows : s.rows.length ≤ J
  ind : 0 ≤ s.ind ∧ s.ind ≤ 9 * (J : Int)
  txt : s.txt.size ≤ 13 * J
  flags : s.flags = []
theorem SI.start {W : Int} {l : List Tok} (h : tkv l = true) : SI W l (str W l.length l St.zero [0] 0) 0 St.zero [0] 0 := by
  have hr : run [] l = some [] := by simp only [tkv, Bool.and_eq_true, decide_eq_true_eq] at h; exact h.2
  exact ⟨Nat.zero_le _, ⟨l.length, by omega, rfl⟩, ⟨[], hr, rfl⟩, by simp, Nat.le_refl _, by decide, by decide, rfl⟩
section
variable {W : Int} {l : List Tok} {R : St × Nat} {J : Nat} {s : St} {ns : List Int} {a : Nat}
theorem run_short : ∀ (l : List Tok) (st : List Int), Tk.run st l = some [] → st.length ≤ l.length
  | [], st, h => by simp only [Tk.run, Option.some.injEq] at h; rw [h]; exact Nat.le_refl _
  | r :: l, st, h => by
    obtain ⟨_, st', hs, hr⟩ := run_cons h
    have ih := run_short l st' hr
    simp only [List.length_cons]
    by_cases h57 : r.1 = 5 ∨ r.1 = 7
    · rw [stp_push hs h57] at ih; simp only [List.length_cons] at ih; omega
    · by_cases h68 : r.1 = 6 ∨ r.1 = 8
      · obtain ⟨x, hx, _⟩ := stp_pop hs h68; rw [hx]; simp only [List.length_cons]; omega
      · rw [stp_same hs h57 h68] at ih; omega
theorem c7_le : ∀ st : List Int, c7 st ≤ st.length
  | [] => Nat.le_refl _
  | x :: r => by have := c7_le r; simp only [c7, List.length_cons]; split <;> omega
theorem SI.nlen (h : SI W l R J s ns a) : ns.length ≤ l.length + 1 := by
  obtain ⟨st, h1, h2⟩ := h.stk
  have := run_short _ _ h1
  have := c7_le st
  rw [List.length_drop] at *
  omega
theorem SI.done (h : SI W l R J s ns a) (hJ : l.length ≤ J) : R = (s, a) := by
  obtain ⟨f, _, e⟩ := h.res
  rw [List.drop_eq_nil_of_le hJ, str_nil] at e
  exact e.symm
theorem SI.step (h : SI W l R J s ns a) (hJ : J < l.length) : ∃ f, l.length - J ≤ f + 1 ∧ str W (f + 1) (l[J] :: l.drop (J + 1)) s ns a = R := by
  obtain ⟨f, hf, e⟩ := h.res
  rw [drop_cons' hJ] at e
  obtain ⟨g, rfl⟩ : ∃ g, f = g + 1 := ⟨f - 1, by omega⟩
  exact ⟨g, hf, e⟩
theorem SI.stack (h : SI W l R J s ns a) (hJ : J < l.length) : ∃ st, run st (l[J] :: l.drop (J + 1)) = some [] ∧ ns.length = 1 + c7 st := by
  obtain ⟨st, h1, h2⟩ := h.stk
  rw [drop_cons' hJ] at h1
  exact ⟨st, h1, h2⟩
theorem SI.ne (h : SI W l R J s ns a) : ∃ x q, ns = x :: q ∧ 0 ≤ x ∧ x ≤ 9 * (J : Int) := by
  obtain ⟨st, _, h2⟩ := h.stk
  cases ns with
  | nil => simp only [List.length_nil] at h2; omega
  | cons x q => have := h.nb x (by simp); exact ⟨x, q, rfl, this.1, this.2⟩
theorem nb_mono (h : ∀ x ∈ ns, 0 ≤ x ∧ x ≤ 9 * (J : Int)) {K : Nat} (hK : J ≤ K) : ∀ x ∈ ns, 0 ≤ x ∧ x ≤ 9 * (K : Int) := fun x hx => by have := h x hx; omega
theorem SI.kt (h : SI W l R J s ns a) (hJ : J < l.length) : kt l[J].1 l[J].2.1 l[J].2.2 = true := by
  obtain ⟨st, h1, _⟩ := h.stack hJ
  exact (run_cons h1).1
theorem SI.text (h : SI W l R J s ns a) (hJ : J < l.length) (hk : l[J].1 = 1) : SI W l R (J + 1) (s.put l[J].2.2) ns a := by
  obtain ⟨f, hf, e⟩ := h.step hJ
  obtain ⟨st, h1, h2⟩ := h.stack hJ
  obtain ⟨hkt, st', hs, hr⟩ := run_cons h1
  rw [stp_same hs (by omega) (by omega)] at hr
  rw [str_text hk] at e
  have ht := kt_size hkt
  have h3 := h.ind
  exact ⟨hJ, ⟨f, by omega, e⟩, ⟨st, hr, h2⟩, nb_mono h.nb (by omega), by have := h.rows; simp [St.put]; omega, ⟨h3.1, by simp only [St.put]; omega⟩, by have := h.txt; simp only [St.put, ByteArray.size_append]; omega, h.flags⟩
theorem SI.line (h : SI W l R J s ns a) (hJ : J < l.length) (hk : isN l[J].1 = true) : SI W l R (J + 1) (s.line (ns.headD 0)) ns a := by
  obtain ⟨f, hf, e⟩ := h.step hJ
  obtain ⟨st, h1, h2⟩ := h.stack hJ
  obtain ⟨hkt, st', hs, hr⟩ := run_cons h1
  have hkk : 2 ≤ l[J].1 ∧ l[J].1 ≤ 4 := by simpa [isN] using hk
  rw [stp_same hs (by omega) (by omega)] at hr
  rw [str_new hk] at e
  obtain ⟨x, q, hx, hx0, hx1⟩ := h.ne
  have hi : ns.headD 0 = x := by rw [hx]; rfl
  exact ⟨hJ, ⟨f, by omega, e⟩, ⟨st, hr, h2⟩, nb_mono h.nb (by omega), by have := h.rows; simp [St.line]; omega, by rw [hi]; exact ⟨hx0, by simp only [St.line]; omega⟩, by simp only [St.line]; exact Nat.zero_le _, h.flags⟩
theorem SI.inn (h : SI W l R J s ns a) (hJ : J < l.length) (hk : l[J].1 = 7) : SI W l R (J + 1) s ((ns.headD 0 + l[J].2.1) :: ns) a := by
  obtain ⟨f, hf, e⟩ := h.step hJ
  obtain ⟨st, h1, h2⟩ := h.stack hJ
  obtain ⟨hkt, st', hs, hr⟩ := run_cons h1
  rw [stp_push hs (.inr hk)] at hr
  rw [str_in hk] at e
  obtain ⟨x, q, hx, hx0, hx1⟩ := h.ne
  have hi : ns.headD 0 = x := by rw [hx]; rfl
  have hn : 0 ≤ l[J].2.1 ∧ l[J].2.1 ≤ 9 := by
    unfold Tk.kt at hkt
    rw [if_neg (by omega), if_pos hk] at hkt
    simp only [Bool.and_eq_true, decide_eq_true_eq] at hkt
    exact hkt.2
  have h3 := h.ind
  refine ⟨hJ, ⟨f, by omega, e⟩, ⟨_, hr, by simp only [List.length_cons, c7, h2]; rw [if_pos hk]; omega⟩, fun y hy => ?_, by have := h.rows; omega, ⟨h3.1, by omega⟩, by have := h.txt; omega, h.flags⟩
  rcases List.mem_cons.1 hy with rfl | hy
  · rw [hi]; omega
  · exact nb_mono h.nb (show J ≤ J + 1 by omega) y hy
theorem SI.out (h : SI W l R J s ns a) (hJ : J < l.length) (hk : l[J].1 = 8) : SI W l R (J + 1) s ns.tail a ∧ ∃ x y q, ns = x :: y :: q := by
  obtain ⟨f, hf, e⟩ := h.step hJ
  obtain ⟨st, h1, h2⟩ := h.stack hJ
  obtain ⟨hkt, st', hs, hr⟩ := run_cons h1
  obtain ⟨z, hz, hzk⟩ := stp_pop hs (.inr hk)
  subst hz
  obtain rfl : z = 7 := by omega
  rw [str_out hk] at e
  obtain ⟨x, q, rfl, hx0, hx1⟩ := h.ne
  have h3 := h.ind
  simp only [List.length_cons, c7] at h2
  refine ⟨⟨hJ, ⟨f, by omega, e⟩, ⟨st', hr, by simp only [List.tail_cons]; simp at h2; omega⟩, fun y hy => ?_, by have := h.rows; omega, ⟨h3.1, by omega⟩, by have := h.txt; omega, h.flags⟩, ?_⟩
  · have := h.nb y (by simp only [List.tail_cons] at hy; simp [hy]); omega
  · cases q with
    | nil => simp at h2
    | cons y q => exact ⟨x, y, q, rfl⟩
theorem SI.open (h : SI W l R J s ns a) (hJ : J < l.length) (hk : l[J].1 = 5) (hf : fitT W s (l.drop J) = false) : SI W l R (J + 1) s ns (max a (nxt (gL (l.drop J)) (l.drop J) 0)) := by
  obtain ⟨f, hf', e⟩ := h.step hJ
  obtain ⟨st, h1, h2⟩ := h.stack hJ
  obtain ⟨hkt, st', hs, hr⟩ := run_cons h1
  rw [stp_push hs (.inl hk)] at hr
  rw [drop_cons' hJ] at hf
  rw [str_open hk hf, ← drop_cons' hJ] at e
  have h3 := h.ind
  exact ⟨hJ, ⟨f, by omega, e⟩, ⟨_, hr, by simp only [c7, h2]; rw [if_neg (by omega)]; omega⟩, nb_mono h.nb (by omega), by have := h.rows; omega, ⟨h3.1, by omega⟩, by have := h.txt; omega, h.flags⟩
theorem SI.close (h : SI W l R J s ns a) (hJ : J < l.length) (hk : l[J].1 = 6) : SI W l R (J + 1) s ns a := by
  obtain ⟨f, hf', e⟩ := h.step hJ
  obtain ⟨st, h1, h2⟩ := h.stack hJ
  obtain ⟨hkt, st', hs, hr⟩ := run_cons h1
  obtain ⟨z, hz, hzk⟩ := stp_pop hs (.inl hk)
  subst hz
  rw [str_else (by omega) (by rw [hk]; decide) (by omega) (by omega) (by omega)] at e
  have h3 := h.ind
  exact ⟨hJ, ⟨f, by omega, e⟩, ⟨st', hr, by simp only [c7, if_neg (show ¬ z = 7 by omega)] at h2; omega⟩, nb_mono h.nb (by omega), by have := h.rows; omega, ⟨h3.1, by omega⟩, by have := h.txt; omega, h.flags⟩
theorem SI.fit (h : SI W l R J s ns a) (hJ : J < l.length) (hk : l[J].1 = 5) {N : Nat} (hN : glo 1 (l.drop (J + 1)) = some N) (hf : fitT W s (l.drop J) = true) :
    SI W l R (J + (N + 1)) (s.put (flT ((l.drop J).take (N + 1)))) ns (max a (nxt (N + 1) (l.drop J) 0)) := by
  obtain ⟨f, hf', e⟩ := h.step hJ
  obtain ⟨st, h1, h2⟩ := h.stack hJ
  obtain ⟨hkt, st', hs, hr⟩ := run_cons h1
  rw [stp_push hs (.inl hk)] at hr
  rw [drop_cons' hJ] at hf
  have hg : gL (l[J] :: l.drop (J + 1)) = N + 1 := gL_eq hN
  rw [str_fit hk hf, hg, ← drop_cons' hJ, List.drop_drop] at e
  have hr2 := run_group (l.drop (J + 1)) [5] st N (by decide) rfl (by rw [show c5 [5] = 1 from rfl]; exact hN) (by rw [hk] at hr; exact hr)
  rw [List.drop_drop] at hr2
  have hNl := glo_len _ _ _ hN
  rw [List.length_drop] at hNl
  have h3 := h.ind
  have hall : ∀ r ∈ (l.drop J).take (N + 1), r.2.2.size ≤ 12 := by
    have : ∀ (s : List Tok) (st : List Int), run st s = some [] → ∀ r ∈ s, r.2.2.size ≤ 12 := by
      intro s
      induction s with
      | nil => intro st _ r hr; simp at hr
      | cons q s ih =>
        intro st h r hr
        obtain ⟨hkq, st', _, h'⟩ := run_cons h
        rcases List.mem_cons.1 hr with rfl | hr
        · exact kt_size hkq
        · exact ih st' h' r hr
    rw [← drop_cons' hJ] at h1
    exact fun r hr => this _ _ h1 r (List.mem_of_mem_take hr)
  have hsz := flT_size _ hall
  have hlt : ((l.drop J).take (N + 1)).length ≤ N + 1 := by rw [List.length_take]; omega
  refine ⟨by omega, ⟨f, by omega, e⟩, ⟨st, by rw [show J + (N + 1) = J + 1 + N by omega]; exact hr2, h2⟩, nb_mono h.nb (by omega), by have := h.rows; simp only [St.put]; omega, ⟨h3.1, by simp only [St.put]; omega⟩, ?_, h.flags⟩
  have := h.txt
  simp only [St.put, ByteArray.size_append]
  omega
end

end Go.Proofs.Ytcealfjkcbaelaa.Tk

