import Derived.Test.YtafhefmjnjibdaaNfQ
/-
  PushNest as a plain function: pushing again changes nothing; groups and pairs stay; nothing here speaks of the program.
-/
set_option linter.unusedVariables false
set_option linter.unusedSimpArgs false
namespace Go.Proofs.Ytafhefmjnjibdaa.Nf
open P1

def pushOf (j : Nat) (d : D) : D := pushD j d.1 d.2.1 d.2.2.1 d.2.2.2
theorem pushL_consD (d : D) (r : F) (j : Nat) : pushL (consD d r) j = consD (pushOf j d) (pushL r j) := rfl
theorem push_six (j : Nat) (n : Int) (t : ByteArray) (d : D) (r : F) : pushD j 6 n t (consD d r) = pushOf (j + n.toNat) d := by
  unfold pushD; rw [if_pos rfl]; rfl

theorem nests_push : ∀ (m i j : Nat) (d : D), i ≤ m → pushOf j (nests i d) = pushOf (j + i) d := by
  intro m
  induction m with
  | zero =>
    intro i j d hi
    rw [nests, dif_neg (by omega), show j + i = j by omega]
  | succ m ih =>
    intro i j d hi
    rw [nests]
    split
    · rename_i h0
      obtain ⟨q, hq⟩ : ∃ q, min i 9 = q := ⟨_, rfl⟩
      rw [hq]
      rw [ih (i - q) j _ (by omega)]
      show pushD (j + (i - q)) 6 ((q : Nat) : Int) ⟨#[]⟩ (consD d .nil) = _
      rw [push_six, Int.toNat_natCast, show j + (i - q) + q = j + i by omega]
    · rw [show j + i = j by omega]

theorem push_again : ∀ (f : F) (i : Nat), nice f = true → pushL (pushL f i) 0 = pushL f i := by
  intro f
  induction f with
  | nil => intro i _; rfl
  | cons o n t k r ihk ihr =>
    intro i h
    have hD : niceD (o, n, t, k) = true := by simp only [nice, Bool.and_eq_true] at h; exact Bool.and_eq_true_iff.2 h.1
    have hr : nice r = true := by simp only [nice, Bool.and_eq_true] at h; exact h.2
    have hk : nice k = true := (nice_kids hD).2
    have e : pushL (.cons o n t k r) i = consD (pushD i o n t k) (pushL r i) := rfl
    rw [e, pushL_consD, ihr i hr]
    congr 1
    by_cases h6 : o = 6
    · obtain ⟨a, ha⟩ := kids_one hD (Or.inl h6)
      subst h6
      have h1 := ihk (i + n.toNat) hk
      rw [ha] at h1 ⊢
      rw [push_six]
      rw [pushL_consD, pushL_consD] at h1
      unfold consD at h1
      injection h1 with e1 e2 e3 e4
      exact Prod.ext e1 (Prod.ext e2 (Prod.ext e3 e4))
    · by_cases hl : o = 3 ∨ o = 4 ∨ o = 5
      · have e1 : pushD i o n t k = nests i (o, n, t, k) := by unfold pushD; rw [if_neg h6, if_pos hl]
        rw [e1, nests_push i i 0 _ (Nat.le_refl _), Nat.zero_add]
        show pushD i o n t k = _
        exact e1
      · have e1 : ∀ j K, pushD j o n t K = (o, n, t, pushL K j) := fun j K => by unfold pushD; rw [if_neg h6, if_neg hl]
        rw [e1]
        show pushD 0 o n t (pushL k i) = _
        rw [e1, ihk i hk]
theorem pushD_again {o n : Int} {t : ByteArray} {k : F} (h : niceD (o, n, t, k) = true) : pushOf 0 (pushD 0 o n t k) = pushD 0 o n t k := by
  have h1 := push_again (.cons o n t k .nil) 0 (by rw [show nice (.cons o n t k .nil) = (niceD (o, n, t, k) && nice .nil) from rfl, h]; rfl)
  have e : pushL (.cons o n t k .nil) 0 = consD (pushD 0 o n t k) .nil := rfl
  rw [e, pushL_consD] at h1
  unfold consD at h1
  injection h1 with e1 e2 e3 e4
  exact Prod.ext e1 (Prod.ext e2 (Prod.ext e3 e4))

theorem cnt_consD (m : Int → Bool) (d : D) (r : F) : cntF m (consD d r) = (if m d.1 then 1 else 0) + cntF m d.2.2.2 + cntF m r := rfl
theorem nests_ops (m : Int → Bool) (h6 : m 6 = false) : ∀ (q i : Nat) (d : D), i ≤ q → cntF m (consD (nests i d) .nil) = cntF m (consD d .nil) := by
  intro q
  induction q with
  | zero => intro i d hi; rw [nests, dif_neg (by omega)]
  | succ q ih =>
    intro i d hi
    rw [nests]
    split
    · rename_i h0
      rw [ih _ _ (by omega), cnt_consD]
      show (if m 6 then 1 else 0) + cntF m (consD d .nil) + cntF m .nil = _
      rw [h6]
      simp [cntF]
    · rfl
theorem push_ops (m : Int → Bool) (h6 : m 6 = false) : ∀ (f : F) (i : Nat), nice f = true → cntF m (pushL f i) = cntF m f := by
  intro f
  induction f with
  | nil => intro i _; rfl
  | cons o n t k r ihk ihr =>
    intro i h
    have hD : niceD (o, n, t, k) = true := by simp only [nice, Bool.and_eq_true] at h; exact Bool.and_eq_true_iff.2 h.1
    have hr : nice r = true := by simp only [nice, Bool.and_eq_true] at h; exact h.2
    have hk : nice k = true := (nice_kids hD).2
    have e : pushL (.cons o n t k r) i = consD (pushD i o n t k) (pushL r i) := rfl
    have hs : cntF m (consD (pushD i o n t k) .nil) = cntF m (.cons o n t k .nil) := by
      have h0 : cntF m .nil = 0 := rfl
      by_cases hh : o = 6
      · obtain ⟨a, ha⟩ := kids_one hD (Or.inl hh)
        subst hh
        have h1 := ihk (i + n.toNat) hk
        rw [ha] at h1 ⊢
        rw [push_six]
        rw [pushL_consD] at h1
        show _ = (if m 6 then 1 else 0) + cntF m (consD a .nil) + cntF m .nil
        rw [h6, ← h1]
        simp [h0, pushL]
      · by_cases hl : o = 3 ∨ o = 4 ∨ o = 5
        · rw [show pushD i o n t k = nests i (o, n, t, k) by unfold pushD; rw [if_neg hh, if_pos hl]]
          exact nests_ops m h6 i i _ (Nat.le_refl _)
        · rw [show pushD i o n t k = (o, n, t, pushL k i) by unfold pushD; rw [if_neg hh, if_neg hl]]
          show (if m o then 1 else 0) + cntF m (pushL k i) + cntF m .nil = (if m o then 1 else 0) + cntF m k + cntF m .nil
          rw [ihk i hk]
    rw [e]
    have h1 : cntF m (consD (pushD i o n t k) (pushL r i)) = cntF m (consD (pushD i o n t k) .nil) + cntF m (pushL r i) := by rw [cnt_consD, cnt_consD]; show _ = _ + _ + 0 + _; omega
    have h2 : cntF m (.cons o n t k r) = cntF m (.cons o n t k .nil) + cntF m r := by simp only [cntF]; omega
    rw [h1, h2, hs, ihr i hr]

end Go.Proofs.Ytafhefmjnjibdaa.Nf

