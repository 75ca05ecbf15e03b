import Derived.Test.YtcpbhkgdeaanmaaNfFa
import Derived.Test.YtcpbhkgdeaanmaaNfD0
import Derived.Test.YtcpbhkgdeaanmaaNfGx
import Derived.Test.YtcpbhkgdeaanmaaNfNo
/-
  The normal form of a normal form is the same document; nothing here speaks of the program's own passes.
-/
set_option linter.unusedVariables false
set_option linter.unusedSimpArgs false
namespace Go.Proofs.Ytcpbhkgdeaanmaa.Nf
open P1

/-! ## nests at the newlines -/

def isNl (o : Int) : Prop := o = 3 ∨ o = 4 ∨ o = 5
def pf : F → Prop
  | .nil => True
  | .cons o n t k r => (if o = 6 then ∃ (i : Nat) (d : D), isNl d.1 ∧ d.2.2.2 = .nil ∧ (o, n, t, k) = nests i d else pf k) ∧ pf r
def pfD (d : D) : Prop := pf (consD d .nil)
theorem pf_consD (d : D) (r : F) : pf (consD d r) ↔ pfD d ∧ pf r := by
  show (_ ∧ pf r) ↔ ((_ ∧ pf .nil) ∧ pf r)
  constructor
  · rintro ⟨h1, h2⟩; exact ⟨⟨h1, trivial⟩, h2⟩
  · rintro ⟨⟨h1, _⟩, h2⟩; exact ⟨h1, h2⟩
theorem pf_app {f g : F} : pf (f.app g) ↔ pf f ∧ pf g := by
  induction f with
  | nil => exact ⟨fun h => ⟨trivial, h⟩, fun h => h.2⟩
  | cons o n t k r _ ih =>
    show (_ ∧ pf (r.app g)) ↔ ((_ ∧ pf r) ∧ pf g)
    rw [ih]
    exact ⟨fun ⟨a, b, c⟩ => ⟨⟨a, b⟩, c⟩, fun ⟨⟨a, b⟩, c⟩ => ⟨a, b, c⟩⟩
theorem pfD_not6 {o n : Int} {t : ByteArray} {k : F} (h6 : o ≠ 6) : pfD (o, n, t, k) ↔ pf k := by
  show ((if o = 6 then _ else pf k) ∧ True) ↔ pf k
  rw [if_neg h6]
  exact ⟨fun h => h.1, fun h => ⟨h, trivial⟩⟩
theorem nests_pf {d : D} (hd : isNl d.1) (hk : d.2.2.2 = .nil) (i : Nat) : pfD (nests i d) := by
  obtain ⟨x, hx⟩ : ∃ x, nests i d = x := ⟨_, rfl⟩
  by_cases h6 : (nests i d).1 = 6
  · show (if (nests i d).1 = 6 then _ else _) ∧ True
    rw [if_pos h6]
    exact ⟨⟨i, d, hd, hk, rfl⟩, trivial⟩
  · have hi : i = 0 := by
      cases i with
      | zero => rfl
      | succ i =>
        exfalso
        apply h6
        have hz : ∀ (m j : Nat) (e : D), j ≤ m → e.1 = 6 → (nests j e).1 = 6 := by
          intro m
          induction m with
          | zero => intro j e hj he; rw [nests, dif_neg (by omega)]; exact he
          | succ m ih =>
            intro j e hj he
            rw [nests]
            split
            · exact ih _ _ (by omega) rfl
            · exact he
        rw [nests, dif_pos (by omega)]
        exact hz _ _ _ (Nat.le_refl _) rfl
    subst hi
    have e : nests 0 d = d := by rw [nests, dif_neg (by omega)]
    rw [e]
    obtain ⟨o, n, t, k⟩ := d
    simp only at hk
    subst hk
    have h : isNl o := hd
    exact (pfD_not6 (by unfold isNl at h; omega)).2 trivial
theorem push_pf : ∀ (f : F) (i : Nat), nice f = true → pf (pushL f i) := by
  intro f
  induction f with
  | nil => intro i _; trivial
  | cons o n t k r ihk ihr =>
    intro i h
    have hD : niceD (o, n, t, k) = true := by simp only [nice, Bool.and_eq_true] at h; exact Bool.and_eq_true_iff.2 h.1
    have hr : nice r = true := by simp only [nice, Bool.and_eq_true] at h; exact h.2
    have hk := (nice_kids hD).2
    rw [pushL, pf_consD]
    refine ⟨?_, ihr i hr⟩
    by_cases h6 : o = 6
    · rw [if_pos h6]
      obtain ⟨a, ha⟩ := kids_one hD (Or.inl h6)
      have h1 := ihk (i + n.toNat) hk
      rw [ha] at h1 ⊢
      have e : pushL (consD a .nil) (i + n.toNat) = consD (pushOf (i + n.toNat) a) .nil := rfl
      rw [e] at h1 ⊢
      exact h1
    · rw [if_neg h6]
      by_cases hl : o = 3 ∨ o = 4 ∨ o = 5
      · rw [if_pos hl]
        have hkn : k = .nil := kids_none hD h6 (by omega) (by omega)
        exact nests_pf (d := (o, n, t, k)) hl hkn i
      · rw [if_neg hl]
        exact (pfD_not6 h6).2 (ihk i hk)
theorem pf_push : ∀ f : F, pf f → nice f = true → pushL f 0 = f := by
  intro f
  induction f with
  | nil => intro _ _; rfl
  | cons o n t k r ihk ihr =>
    intro h hn
    have hD : niceD (o, n, t, k) = true := by simp only [nice, Bool.and_eq_true] at hn; exact Bool.and_eq_true_iff.2 hn.1
    have hr : nice r = true := by simp only [nice, Bool.and_eq_true] at hn; exact hn.2
    have e : pushL (.cons o n t k r) 0 = consD (pushD 0 o n t k) (pushL r 0) := rfl
    rw [e, ihr h.2 hr]
    have e2 : pushD 0 o n t k = (o, n, t, k) := by
      by_cases h6 : o = 6
      · have h1 := h.1
        rw [if_pos h6] at h1
        obtain ⟨i, d, hd, hk, hx⟩ := h1
        have h2 : pushOf 0 (o, n, t, k) = (o, n, t, k) := by
          rw [hx, nests_push i i 0 d (Nat.le_refl _), Nat.zero_add]
          obtain ⟨o', n', t', k'⟩ := d
          simp only at hk
          subst hk
          show pushD i o' n' t' .nil = _
          have hd' : isNl o' := hd
          unfold pushD
          rw [if_neg (by unfold isNl at hd'; omega), if_pos (show o' = 3 ∨ o' = 4 ∨ o' = 5 from hd')]
        exact h2
      · by_cases hl : o = 3 ∨ o = 4 ∨ o = 5
        · unfold pushD
          rw [if_neg h6, if_pos hl, nests, dif_neg (by omega)]
        · have h1 := h.1
          rw [if_neg h6] at h1
          unfold pushD
          rw [if_neg h6, if_neg hl, ihk h1 (nice_kids hD).2]
    rw [e2]; rfl
theorem nests_cntF (m : Int → Bool) (h6 : m 6 = false) (i : Nat) (d : D) : cntF m (consD (nests i d) .nil) = cntF m (consD d .nil) := nests_ops m h6 i i d (Nat.le_refl _)

/-! ## documents without a kind of node -/

theorem gr_id : ∀ f : F, cntF (fun x => x == 8) f = 0 → chL grR f = f := by
  intro f
  induction f with
  | nil => intro _; rfl
  | cons o n t k r ihk ihr =>
    intro h
    have e : cntF (fun x => x == 8) (.cons o n t k r) = (if (o == 8) = true then 1 else 0) + cntF (fun x => x == 8) k + cntF (fun x => x == 8) r := rfl
    rw [e] at h
    have h8 : o ≠ 8 := by intro h8; subst h8; simp at h
    show consD (grR o n t (chL grR k)) (chL grR r) = consD (o, n, t, k) r
    rw [ihk (by omega), ihr (by omega)]
    unfold grR
    rw [if_neg (fun h => h8 h.1)]
theorem row_id : ∀ f : F, cntF (fun x => x == 7) f = 0 → mapL (rowD fzR) f = f := by
  intro f
  induction f with
  | nil => intro _; rfl
  | cons o n t k r ihk ihr =>
    intro h
    have e : cntF (fun x => x == 7) (.cons o n t k r) = (if (o == 7) = true then 1 else 0) + cntF (fun x => x == 7) k + cntF (fun x => x == 7) r := rfl
    rw [e] at h
    have h7 : o ≠ 7 := by intro h7; subst h7; simp at h
    show consD (catAll (fzR (psD fzR o n t k))) (mapL (rowD fzR) r) = consD (o, n, t, k) r
    rw [ihr (by omega)]
    unfold psD
    rw [if_neg h7, pr_map, ihk (by omega)]; rfl
theorem pf_nest {o n : Int} {t : ByteArray} {k : F} (h : pfD (o, n, t, k)) (h6 : o = 6) : (∃ (i : Nat) (d : D), isNl d.1 ∧ d.2.2.2 = .nil ∧ (o, n, t, k) = nests i d) ∧ ∀ m : Int → Bool, m 6 = false → m 3 = false → m 4 = false → m 5 = false → cntF m k = 0 := by
  have h1 := h.1
  rw [if_pos h6] at h1
  refine ⟨h1, fun m a6 a3 a4 a5 => ?_⟩
  obtain ⟨i, d, hd, hk, hx⟩ := h1
  have hc := nests_cntF m a6 i d
  rw [← hx] at hc
  have e1 : cntF m (consD (o, n, t, k) .nil) = (if m o then 1 else 0) + cntF m k + 0 := rfl
  have e2 : cntF m (consD d .nil) = (if m d.1 then 1 else 0) + cntF m d.2.2.2 + 0 := rfl
  have e3 : m d.1 = false := by rcases hd with h | h | h <;> rw [h] <;> assumption
  rw [e1, e2, hk, e3] at hc
  have e4 : cntF m .nil = 0 := rfl
  rw [e4] at hc
  simp at hc
  omega

/-! ## groups -/

theorem gr_pf : ∀ f : F, pf f → pf (chL grR f) := by
  intro f
  induction f with
  | nil => intro _; trivial
  | cons o n t k r ihk ihr =>
    intro h
    show pf (consD (grR o n t (chL grR k)) (chL grR r))
    rw [pf_consD]
    refine ⟨?_, ihr h.2⟩
    have hp : pfD (o, n, t, k) := ⟨h.1, trivial⟩
    by_cases h6 : o = 6
    · obtain ⟨_, hc⟩ := pf_nest hp h6
      rw [gr_id k (hc _ (by decide) (by decide) (by decide) (by decide))]
      unfold grR
      rw [if_neg (fun h => by omega)]
      exact hp
    · have hk : pf (chL grR k) := ihk ((pfD_not6 h6).1 hp)
      obtain ⟨K, hK⟩ : ∃ K, chL grR k = K := ⟨_, rfl⟩
      rw [hK] at hk ⊢
      unfold grR
      split
      · rename_i hc
        cases K with
        | nil => exact (pfD_not6 (by decide)).2 trivial
        | cons o1 n1 t1 k1 r1 => exact ⟨hk.1, trivial⟩
      · exact (pfD_not6 h6).2 hk
def gf : F → Prop
  | .nil => True
  | .cons o n t k r => (o = 8 → (hd k).1 ≠ 8 ∧ nlF k ≠ 0 ∧ hrF k = 0) ∧ gf k ∧ gf r
theorem gf_fix : ∀ f : F, gf f → chL grR f = f := by
  intro f
  induction f with
  | nil => intro _; rfl
  | cons o n t k r ihk ihr =>
    intro h
    show consD (grR o n t (chL grR k)) (chL grR r) = consD (o, n, t, k) r
    rw [ihk h.2.1, ihr h.2.2]
    unfold grR
    rw [if_neg (fun hc => by obtain ⟨a, b, c⟩ := h.1 hc.1; rcases hc.2 with h | h | h; exact a h; exact b h; omega)]
theorem gr_gf : ∀ f : F, gf (chL grR f) := by
  intro f
  induction f with
  | nil => trivial
  | cons o n t k r ihk ihr =>
    show gf (consD (grR o n t (chL grR k)) (chL grR r))
    obtain ⟨K, hK⟩ : ∃ K, chL grR k = K := ⟨_, rfl⟩
    rw [hK] at ihk ⊢
    unfold grR
    split
    · cases K with
      | nil => exact ⟨fun h => absurd h (by decide), trivial, ihr⟩
      | cons o1 n1 t1 k1 r1 => exact ⟨ihk.1, ihk.2.1, ihr⟩
    · rename_i hc
      refine ⟨fun h8 => ⟨fun h => hc ⟨h8, .inl h⟩, fun h => hc ⟨h8, .inr (.inl h)⟩, ?_⟩, ihk, ihr⟩
      show hrF K = 0
      cases h : hrF K with
      | zero => rfl
      | succ q => exact absurd ⟨h8, .inr (.inr (by omega))⟩ hc


/-! ## texts joined -/

theorem text_kids {d : D} (h : niceD d = true) (h2 : d.1 = 2) : d.2.2.2 = .nil := by
  obtain ⟨o, n, t, k⟩ := d
  simp only at h2
  subst h2
  exact kids_none h (by omega) (by omega) (by omega)
theorem fz_pf : ∀ (f : F) (d : D), niceD d = true → nice f = true → pfD d → pf f → pf (fz d f) := by
  intro f
  induction f with
  | nil => intro d _ _ hd _; exact hd
  | cons o n t k r _ ih =>
    intro d hd hn hpd hpf
    have hD : niceD (o, n, t, k) = true := by simp only [nice, Bool.and_eq_true] at hn; exact Bool.and_eq_true_iff.2 hn.1
    have hr : nice r = true := by simp only [nice, Bool.and_eq_true] at hn; exact hn.2
    have hp : pfD (o, n, t, k) := ⟨hpf.1, trivial⟩
    by_cases hfit : fits d o t = true
    · rw [fz_yes hfit]
      refine ih _ (nice_join hd hD hfit) hr ?_ hpf.2
      obtain ⟨a1, _, _⟩ := fits_iff.1 hfit
      rw [text_kids hd a1]
      exact (pfD_not6 (by omega)).2 trivial
    · rw [fz_no (by simpa using hfit), pf_consD]
      exact ⟨hpd, ih _ hD hr hp hpf.2⟩
theorem cat_pf : ∀ P : F, P ≠ .nil → pf P → pfD (catAll P) := by
  intro P
  induction P with
  | nil => intro h _; exact absurd rfl h
  | cons o n t k r _ ih =>
    intro _ h
    by_cases he : r = .nil
    · subst he; exact h
    · have e : catAll (.cons o n t k r) = catD (o, n, t, k) (catAll r) := catAll_cons (o, n, t, k) he
      rw [e]
      refine (pfD_not6 (by decide)).2 ?_
      rw [pf_consD]
      exact ⟨⟨h.1, trivial⟩, ih he h.2⟩
theorem row_pf : ∀ f : F, nice f = true → pf f → pf (pr fzR f).1 ∧ pf (pr fzR f).2 := by
  intro f
  induction f with
  | nil => intro _ _; exact ⟨trivial, trivial⟩
  | cons o n t k r ihk ihr =>
    intro hn h
    have hD : niceD (o, n, t, k) = true := by simp only [nice, Bool.and_eq_true] at hn; exact Bool.and_eq_true_iff.2 hn.1
    have hr : nice r = true := by simp only [nice, Bool.and_eq_true] at hn; exact hn.2
    have hp : pfD (o, n, t, k) := ⟨h.1, trivial⟩
    obtain ⟨b1, b2⟩ := ihr hr h.2
    have hps : pf (psD fzR o n t k) := by
      unfold psD
      by_cases h6 : o = 6
      · obtain ⟨_, hc⟩ := pf_nest hp h6
        rw [if_neg (by omega), pr_map, row_id k (hc _ (by decide) (by decide) (by decide) (by decide))]
        exact hp
      · obtain ⟨a1, a2⟩ := ihk (nice_kids hD).2 ((pfD_not6 h6).1 hp)
        split
        · exact a1
        · exact (pfD_not6 h6).2 a2
    rw [pr_cons]
    refine ⟨pf_app.2 ⟨hps, b1⟩, (pf_consD _ _).2 ⟨?_, b2⟩⟩
    have hnp := (row_parts fzR_ok hD).1
    have hne := ps_ne fzR hD
    have hne2 := (fzR_keep hnp hne).2.2
    refine cat_pf _ hne2 ?_
    generalize psD fzR o n t k = P at hps hnp hne
    cases P with
    | nil => exact absurd rfl hne
    | cons o1 n1 t1 k1 r1 =>
      have hD1 : niceD (o1, n1, t1, k1) = true := by simp only [nice, Bool.and_eq_true] at hnp; exact Bool.and_eq_true_iff.2 hnp.1
      have hr1 : nice r1 = true := by simp only [nice, Bool.and_eq_true] at hnp; exact hnp.2
      exact fz_pf r1 (o1, n1, t1, k1) hD1 hr1 ⟨hps.1, trivial⟩ hps.2

/-! counts that joining keeps -/

theorem fz_eq (m : Int → Bool) (h2 : m 2 = false) : ∀ (f : F) (d : D), niceD d = true → nice f = true → cntF m (fz d f) = cntF m (consD d f) := by
  intro f
  induction f with
  | nil => intro d _ _; rfl
  | cons o n t k r _ ih =>
    intro d hd hn
    have hD : niceD (o, n, t, k) = true := by simp only [nice, Bool.and_eq_true] at hn; exact Bool.and_eq_true_iff.2 hn.1
    have hr : nice r = true := by simp only [nice, Bool.and_eq_true] at hn; exact hn.2
    have e : cntF m (consD d (.cons o n t k r)) = (if m d.1 then 1 else 0) + cntF m d.2.2.2 + ((if m o then 1 else 0) + cntF m k + cntF m r) := rfl
    by_cases hf : fits d o t = true
    · obtain ⟨_, a2, _⟩ := fits_iff.1 hf
      have hk : k = .nil := text_kids hD a2
      rw [fz_yes hf, ih _ (nice_join hd hD hf) hr, e, hk, a2, h2]
      have e1 : cntF m (consD (d.1, d.2.1, d.2.2.1 ++ t, d.2.2.2) r) = (if m d.1 then 1 else 0) + cntF m d.2.2.2 + cntF m r := rfl
      have e2 : cntF m .nil = 0 := rfl
      rw [e1, e2]
      simp
    · rw [fz_no (by simpa using hf), e]
      have h1 := ih (o, n, t, k) hD hr
      have e1 : cntF m (consD (o, n, t, k) r) = (if m o then 1 else 0) + cntF m k + cntF m r := rfl
      have e2 : cntF m (consD d (fz (o, n, t, k) r)) = (if m d.1 then 1 else 0) + cntF m d.2.2.2 + cntF m (fz (o, n, t, k) r) := rfl
      omega
theorem fzR_eq (m : Int → Bool) (h2 : m 2 = false) {P : F} (h : nice P = true) : cntF m (fzR P) = cntF m P := by
  cases P with
  | nil => rfl
  | cons o n t k r =>
    have hD : niceD (o, n, t, k) = true := by simp only [nice, Bool.and_eq_true] at h; exact Bool.and_eq_true_iff.2 h.1
    have hr : nice r = true := by simp only [nice, Bool.and_eq_true] at h; exact h.2
    exact fz_eq m h2 r (o, n, t, k) hD hr
theorem row_eq (m : Int → Bool) (h2 : m 2 = false) (h7 : m 7 = false) : ∀ f : F, nice f = true → cntF m (pr fzR f).1 = cntF m f ∧ cntF m (pr fzR f).2 = cntF m f := by
  intro f
  induction f with
  | nil => intro _; exact ⟨rfl, rfl⟩
  | cons o n t k r ihk ihr =>
    intro h
    have hD : niceD (o, n, t, k) = true := by simp only [nice, Bool.and_eq_true] at h; exact Bool.and_eq_true_iff.2 h.1
    have hr : nice r = true := by simp only [nice, Bool.and_eq_true] at h; exact h.2
    obtain ⟨a1, a2⟩ := ihk (nice_kids hD).2
    obtain ⟨b1, b2⟩ := ihr hr
    have hps : cntF m (psD fzR o n t k) = (if m o then 1 else 0) + cntF m k := by
      unfold psD
      split
      · rename_i h; rw [a1, h, h7]; simp
      · rw [cnt_cons, a2]; rfl
    have hnp := (row_parts fzR_ok hD).1
    have hq := fzR_eq m h2 hnp
    have hne : fzR (psD fzR o n t k) ≠ .nil := (fzR_keep hnp (ps_ne fzR hD)).2.2
    have hc := cat_ops m h7 _ hne
    rw [pr_cons]
    refine ⟨?_, ?_⟩
    · show cntF m ((psD fzR o n t k).app (pr fzR r).1) = _
      rw [cntF_app', cnt_cons, hps, b1]
    · have e : cntF m (consD (rowD fzR o n t k) (pr fzR r).2) = cntF m (consD (catAll (fzR (psD fzR o n t k))) .nil) + cntF m (pr fzR r).2 := by
        show (if m (catAll (fzR (psD fzR o n t k))).1 then 1 else 0) + cntF m (catAll (fzR (psD fzR o n t k))).2.2.2 + cntF m (pr fzR r).2 = (if m (catAll (fzR (psD fzR o n t k))).1 then 1 else 0) + cntF m (catAll (fzR (psD fzR o n t k))).2.2.2 + 0 + cntF m (pr fzR r).2
        rw [Nat.add_zero]
      show cntF m (consD (rowD fzR o n t k) (pr fzR r).2) = _
      rw [e, hc, hq, hps, b2, cnt_cons]
theorem catAll_op {P : F} (h : 2 ≤ P.len) : (catAll P).1 = 7 := by
  cases P with
  | nil => simp [F.len] at h
  | cons o n t k r =>
    have hr : r.len ≠ 0 := by simp only [F.len] at h; omega
    show (if r.len = 0 then ((o, n, t, k) : D) else _).1 = 7
    rw [if_neg hr]
theorem fz_op (f : F) (d : D) (hf : f ≠ .nil) : (catAll (fz d f)).1 = 7 ∨ (catAll (fz d f)).1 = 2 := by
  by_cases h : 2 ≤ (fz d f).len
  · exact .inl (catAll_op h)
  · cases f with
    | nil => exact absurd rfl hf
    | cons o n t k r =>
      by_cases hfit : fits d o t = true
      · rw [fz_yes hfit] at h ⊢
        obtain ⟨u, r', h1, _⟩ := fz_head r (d.1, d.2.1, d.2.2.1 ++ t, d.2.2.2)
        rw [h1] at h ⊢
        have hr' : r' = .nil := F.len_eq_zero (by simp only [F.len] at h; omega)
        subst hr'
        exact .inr (fits_iff.1 hfit).1
      · rw [fz_no (by simpa using hfit)] at h
        have := (fz_len r (o, n, t, k)).1
        simp only [consD, F.len] at h
        omega
theorem row_op {o n : Int} {t : ByteArray} {k : F} (h : niceD (o, n, t, k) = true) (h8 : o ≠ 8) : (rowD fzR o n t k).1 ≠ 8 := by
  show (catAll (fzR (psD fzR o n t k))).1 ≠ 8
  by_cases h7 : o = 7
  · have hl : 2 ≤ (psD fzR o n t k).len := by
      rw [ps_parts, len_mapL]
      subst h7
      have h1 := parts_len k (nice_kids h).2
      obtain ⟨x, y, hxy⟩ := kids_two h rfl
      have e2 : k.len = 2 := by rw [hxy]; rfl
      show 2 ≤ (parts0 k).len
      omega
    generalize psD fzR o n t k = P at hl
    cases P with
    | nil => simp [F.len] at hl
    | cons o1 n1 t1 k1 r1 =>
      have hr : r1 ≠ .nil := by intro e; subst e; simp [F.len] at hl
      rcases fz_op r1 (o1, n1, t1, k1) hr with h | h
      · show (catAll (fz (o1, n1, t1, k1) r1)).1 ≠ 8; rw [h]; decide
      · show (catAll (fz (o1, n1, t1, k1) r1)).1 ≠ 8; rw [h]; decide
  · unfold psD
    rw [if_neg h7]
    exact h8

theorem gf_consD (d : D) (r : F) : gf (consD d r) ↔ gf (consD d .nil) ∧ gf r :=
  ⟨fun h => ⟨⟨h.1, h.2.1, trivial⟩, h.2.2⟩, fun h => ⟨h.1.1, h.1.2.1, h.2⟩⟩
theorem gf_app {f g : F} : gf (f.app g) ↔ gf f ∧ gf g := by
  induction f with
  | nil => exact ⟨fun h => ⟨trivial, h⟩, fun h => h.2⟩
  | cons o n t k r _ ih =>
    show (_ ∧ gf k ∧ gf (r.app g)) ↔ ((_ ∧ gf k ∧ gf r) ∧ gf g)
    rw [ih]
    exact ⟨fun ⟨a, b, c, d⟩ => ⟨⟨a, b, c⟩, d⟩, fun ⟨⟨a, b, c⟩, d⟩ => ⟨a, b, c, d⟩⟩
theorem fz_gf : ∀ (f : F) (d : D), niceD d = true → nice f = true → gf (consD d .nil) → gf f → gf (fz d f) := by
  intro f
  induction f with
  | nil => intro d _ _ hd _; exact hd
  | cons o n t k r _ ih =>
    intro d hd hn hpd hpf
    have hD : niceD (o, n, t, k) = true := by simp only [nice, Bool.and_eq_true] at hn; exact Bool.and_eq_true_iff.2 hn.1
    have hr : nice r = true := by simp only [nice, Bool.and_eq_true] at hn; exact hn.2
    have hp : gf (consD (o, n, t, k) .nil) := ⟨hpf.1, hpf.2.1, trivial⟩
    by_cases hfit : fits d o t = true
    · rw [fz_yes hfit]
      refine ih _ (nice_join hd hD hfit) hr ?_ hpf.2.2
      exact hpd
    · rw [fz_no (by simpa using hfit), gf_consD]
      exact ⟨hpd, ih _ hD hr hp hpf.2.2⟩
theorem cat_gf : ∀ P : F, P ≠ .nil → gf P → gf (consD (catAll P) .nil) := by
  intro P
  induction P with
  | nil => intro h _; exact absurd rfl h
  | cons o n t k r _ ih =>
    intro _ h
    by_cases he : r = .nil
    · subst he; exact h
    · have e : catAll (.cons o n t k r) = catD (o, n, t, k) (catAll r) := catAll_cons (o, n, t, k) he
      rw [e]
      refine ⟨fun (h : (7 : Int) = 8) => absurd h (by decide), ?_, trivial⟩
      show gf (consD (o, n, t, k) (consD (catAll r) .nil))
      rw [gf_consD]
      exact ⟨⟨h.1, h.2.1, trivial⟩, ih he h.2.2⟩
theorem row_gf : ∀ f : F, nice f = true → gf f → gf (pr fzR f).1 ∧ gf (pr fzR f).2 := by
  intro f
  induction f with
  | nil => intro _ _; exact ⟨trivial, trivial⟩
  | cons o n t k r ihk ihr =>
    intro hn h
    have hD : niceD (o, n, t, k) = true := by simp only [nice, Bool.and_eq_true] at hn; exact Bool.and_eq_true_iff.2 hn.1
    have hr : nice r = true := by simp only [nice, Bool.and_eq_true] at hn; exact hn.2
    have hkn := (nice_kids hD).2
    obtain ⟨b1, b2⟩ := ihr hr h.2.2
    obtain ⟨a1, a2⟩ := ihk hkn h.2.1
    have hps : gf (psD fzR o n t k) := by
      unfold psD
      split
      · exact a1
      · refine ⟨fun h8 => ?_, a2, trivial⟩
        obtain ⟨c1, c2, c3⟩ := h.1 h8
        obtain ⟨x, hx⟩ := kids_one hD (Or.inr h8)
        have e1 : nlF (pr fzR k).2 = nlF k := (row_eq _ (by decide) (by decide) k hkn).2
        have e2 : hrF (pr fzR k).2 = hrF k := (row_eq _ (by decide) (by decide) k hkn).2
        refine ⟨?_, by rw [e1]; exact c2, by rw [e2]; exact c3⟩
        rw [pr_map]
        subst hx
        rw [nice_consD, Bool.and_eq_true] at hkn
        exact row_op (o := x.1) (n := x.2.1) (t := x.2.2.1) (k := x.2.2.2) hkn.1 c1
    rw [pr_cons]
    refine ⟨gf_app.2 ⟨hps, b1⟩, (gf_consD _ _).2 ⟨?_, b2⟩⟩
    have hnp := (row_parts fzR_ok hD).1
    have hne := ps_ne fzR hD
    have hne2 := (fzR_keep hnp hne).2.2
    refine cat_gf _ hne2 ?_
    generalize psD fzR o n t k = P at hps hnp hne
    cases P with
    | nil => exact absurd rfl hne
    | cons o1 n1 t1 k1 r1 =>
      have hD1 : niceD (o1, n1, t1, k1) = true := by simp only [nice, Bool.and_eq_true] at hnp; exact Bool.and_eq_true_iff.2 hnp.1
      have hr1 : nice r1 = true := by simp only [nice, Bool.and_eq_true] at hnp; exact hnp.2
      exact fz_gf r1 (o1, n1, t1, k1) hD1 hr1 ⟨hps.1, hps.2.1, trivial⟩ hps.2.2

end Go.Proofs.Ytcpbhkgdeaanmaa.Nf

/-
  NormalDoc again, and its empty parts.
-/
set_option linter.unusedVariables false
set_option linter.unusedSimpArgs false
namespace Go.Proofs.Ytcpbhkgdeaanmaa.Nf
open P1 CatD

theorem nice_d {d : D} (h : niceD d = true) : nice (consD d .nil) = true := by rw [nice_consD, h]; rfl
theorem no_fix {d : D} (hv : validD d.1 d.2.1 d.2.2.1 d.2.2.2 = true) : noD (noD d) = noD d ∧ (noD d = eD ∨ cntF isE (consD (noD d) .nil) = 0) := by
  obtain ⟨m1, _, _⟩ := no_1 hv
  obtain ⟨m2, _⟩ := no_2 hv
  obtain ⟨m3, _⟩ := no_3 hv
  obtain ⟨m4, _⟩ := no_4 hv
  obtain ⟨m5, _⟩ := no_5 hv
  have hn := (valid_nice hv).1
  have h1 : n1D d = eD ∨ cntF isE (consD (n1D d) .nil) = 0 := (em_again (o := d.1) (n := d.2.1) (t := d.2.2.1) (k := d.2.2.2) hn).1
  rcases h1 with h1 | h1
  · have e2 : n2D d = eD := by unfold n2D; rw [h1]; rfl
    have e3 : n3D d = eD := by unfold n3D; rw [e2]; rfl
    have e4 : n4D d = eD := by unfold n4D; rw [e3]; rfl
    have e5 : noD d = eD := by show ap (rowD fzR) (n4D d) = eD; rw [e4]; rfl
    rw [e5]
    exact ⟨rfl, .inl rfl⟩
  · have c2 : cntF isE (consD (n2D d) .nil) = 0 := (push_ops isE (by decide) (consD (n1D d) .nil) 0 (nice_d m1)).trans h1
    have p2 : pf (consD (n2D d) .nil) := push_pf (consD (n1D d) .nil) 0 (nice_d m1)
    have c3 : cntF isE (consD (n3D d) .nil) = 0 := (gr_cnt isE (by decide) (consD (n2D d) .nil) (nice_d m2)).trans c2
    have p3 : pf (consD (n3D d) .nil) := gr_pf (consD (n2D d) .nil) p2
    have g3 : gf (consD (n3D d) .nil) := gr_gf (consD (n2D d) .nil)
    have e4 : n4D d = n3D d := by
      have := em_id (consD (n3D d) .nil) (nice_d m3) c3
      exact congrArg hd this
    have er : consD (noD d) .nil = (pr fzR (consD (n3D d) .nil)).2 := by
      show consD (ap (rowD fzR) (n4D d)) .nil = _
      rw [e4, pr_map]; rfl
    have c5 : cntF isE (consD (noD d) .nil) = 0 := by rw [er]; exact (row_eq isE (by decide) (by decide) _ (nice_d m3)).2.trans c3
    have p5 : pf (consD (noD d) .nil) := by rw [er]; exact (row_pf _ (nice_d m3) p3).2
    have g5 : gf (consD (noD d) .nil) := by rw [er]; exact (row_gf _ (nice_d m3) g3).2
    have f1 : n1D (noD d) = noD d := congrArg hd (em_id _ (nice_d m5) c5)
    have f2 : n2D (noD d) = noD d := by
      unfold n2D
      rw [f1]
      exact congrArg hd (pf_push _ p5 (nice_d m5))
    have f3 : n3D (noD d) = noD d := by
      unfold n3D
      rw [f2]
      exact congrArg hd (gf_fix _ g5)
    have f4 : n4D (noD d) = noD d := by
      unfold n4D
      rw [f3]
      exact f1
    have f5 : noD (noD d) = noD d := by
      show ap (rowD fzR) (n4D (noD d)) = noD d
      rw [f4]
      have e6 : noD d = ap (rowD fzR) (n4D d) := rfl
      have h6 := fuse_again (consD (n4D d) .nil) (nice_d m4)
      have h7 := congrArg hd h6
      rw [e6]
      exact h7
    exact ⟨f5, .inr c5⟩
theorem no_all {o n : Int} {t : ByteArray} {k : F} (h : (noRes o n t k).1 = true) :
    noRes (noRes o n t k).2.1 (noRes o n t k).2.2.1 (noRes o n t k).2.2.2.1 (noRes o n t k).2.2.2.2 = noRes o n t k ∧
    (CntC.opsD 1 (noRes o n t k).2.1 (noRes o n t k).2.2.2.2 = 0 ∨ 1 + (noRes o n t k).2.2.2.2.cnt = 1) := by
  obtain ⟨h1, h2, h3⟩ := ch_ok (show (chR (o, n, t, k) (noD (o, n, t, k))).1 = true from h)
  have e : noRes o n t k = (true, noD (o, n, t, k)) := h3
  obtain ⟨f1, f2⟩ := no_fix (d := (o, n, t, k)) h1
  rw [e]
  obtain ⟨d, hd⟩ : ∃ d, noD (o, n, t, k) = d := ⟨_, rfl⟩
  have h2' : validD d.1 d.2.1 d.2.2.1 d.2.2.2 = true := by rw [← hd]; exact h2
  rw [hd] at f1 f2 ⊢
  refine ⟨?_, ?_⟩
  · show chR d (noD d) = _
    rw [f1]
    unfold chR
    rw [if_pos h2', if_pos h2']
  · rcases f2 with f2 | f2
    · refine .inr ?_
      rw [f2]; rfl
    · exact .inl f2

end Go.Proofs.Ytcpbhkgdeaanmaa.Nf

