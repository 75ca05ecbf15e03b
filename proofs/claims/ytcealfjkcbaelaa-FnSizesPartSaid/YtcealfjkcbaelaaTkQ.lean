import Derived.Test.YtcealfjkcbaelaaTkG
/-
  What a group needs is at most the bytes of all that is behind it; nothing here speaks of the program.
-/
set_option linter.unusedVariables false
set_option linter.unusedSimpArgs false
namespace Go.Proofs.Ytcealfjkcbaelaa.Tk
open Go.RowKit P1

/-- the bytes of the texts and of the spaces -/
def rst : List Tok → Int
  | [] => 0
  | r :: l => (if r.1 = 1 ∨ r.1 = 2 then szT r else 0) + rst l
theorem szT_nn (r : Tok) : 0 ≤ szT r := by unfold szT; split <;> omega
theorem rst_nn : ∀ l : List Tok, 0 ≤ rst l
  | [] => Int.le_refl _
  | r :: l => by
    have h1 := rst_nn l
    have h2 := szT_nn r
    simp only [rst]; split <;> omega
theorem rst_drop {l : List Tok} {k : Nat} (h : k < l.length) : rst (l.drop k) = (if l[k].1 = 1 ∨ l[k].1 = 2 then szT l[k] else 0) + rst (l.drop (k + 1)) := by
  rw [drop_cons' h]; rfl
theorem rst_le (l : List Tok) (h : ∀ r ∈ l, r.2.2.size ≤ 12) : rst l ≤ 12 * (l.length : Int) := by
  induction l with
  | nil => exact Int.le_refl _
  | cons r l ih =>
    have h1 := h r (by simp)
    have h2 := ih (fun q hq => h q (by simp [hq]))
    have h3 : szT r ≤ 12 := by unfold szT; split <;> omega
    simp only [rst, List.length_cons]
    split <;> omega
theorem kt_none {r : Tok} (h : kt r.1 r.2.1 r.2.2 = true) (h12 : ¬ (r.1 = 1 ∨ r.1 = 2)) : szT r = 0 := by
  have ht : r.2.2 = ⟨#[]⟩ := by
    unfold kt at h
    rw [if_neg (by omega)] at h
    split at h
    · simp only [Bool.and_eq_true, decide_eq_true_eq] at h; exact h.1
    · simp only [Bool.and_eq_true, decide_eq_true_eq] at h; exact h.2.1
  unfold szT
  rw [if_neg (by omega), ht]; rfl
theorem lkN_le {L : Nat} : ∀ (s : List Tok) (i : Nat) (acc : Int), 0 ≤ acc → (∀ r ∈ s, kt r.1 r.2.1 r.2.2 = true) → (lkN L s i acc).1 ≤ acc + rst s
  | [], i, acc, _, _ => by simp [lkN, rst]
  | r :: s, i, acc, h0, hk => by
    have hn := rst_nn (r :: s)
    by_cases h1 : i < L ∧ r.1 = 4
    · rw [lkN_hard h1.1 h1.2]; show (-1 : Int) ≤ _; omega
    · by_cases h2 : ¬ i < L ∧ isN r.1 = true
      · rw [lkN_new h2.1 h2.2]; show acc ≤ _; omega
      · have e : lkN L (r :: s) i acc = lkN L s (i + 1) (acc + szT r) := by simp only [lkN]; rw [if_neg h1, if_neg h2]
        have hs := szT_nn r
        have ih := lkN_le s (i + 1) (acc + szT r) (L := L) (by omega) (fun q hq => hk q (by simp [hq]))
        rw [e]
        simp only [rst]
        by_cases h12 : r.1 = 1 ∨ r.1 = 2
        · rw [if_pos h12]; omega
        · rw [if_neg h12]; have := kt_none (hk r (by simp)) h12; omega
theorem kt_all {l : List Tok} (h : tkv l = true) : ∀ r ∈ l, kt r.1 r.2.1 r.2.2 = true := fun r hr => by
  obtain ⟨q, hq, rfl⟩ := List.getElem_of_mem hr
  exact tkv_kt h hq
theorem room_le {l : List Tok} (h : tkv l = true) {i : Nat} (hi : i < l.length) : roomT l i hi ≤ rst (l.drop i) := by
  have hk := kt_all h
  unfold roomT
  split
  · have := lkN_le (L := gL (l.drop i)) (l.drop i) 0 0 (Int.le_refl _) (fun r hr => hk r (List.mem_of_mem_drop hr))
    omega
  · rw [rst_drop hi]
    have h1 := rst_nn (l.drop (i + 1))
    by_cases h12 : l[i].1 = 1 ∨ l[i].1 = 2
    · rw [if_pos h12]; omega
    · rw [if_neg h12, kt_none (hk _ (List.getElem_mem hi)) h12]; omega
theorem room_own {l : List Tok} {i : Nat} (hi : i < l.length) (h : l[i].1 = 1 ∨ l[i].1 = 2) : roomT l i hi = szT l[i] := by
  unfold roomT; rw [if_neg (by omega)]
theorem room_bd {l : List Tok} (h : tkv l = true) {i : Nat} (hi : i < l.length) : -1 ≤ roomT l i hi ∧ roomT l i hi ≤ 2400 := by
  have h1 := room_le h hi
  have h2 := rst_le (l.drop i) (fun r hr => kt_size (kt_all h r (List.mem_of_mem_drop hr)))
  have h3 := tkv_len h
  rw [List.length_drop] at h2
  refine ⟨?_, by omega⟩
  unfold roomT
  split
  · have : ∀ (s : List Tok) (i : Nat) (acc : Int), 0 ≤ acc → -1 ≤ (lkN (gL (l.drop i)) s i acc).1 ∨ True := fun _ _ _ _ => .inr trivial
    have : ∀ (L : Nat) (s : List Tok) (i : Nat) (acc : Int), 0 ≤ acc → -1 ≤ (lkN L s i acc).1 := by
      intro L s
      induction s with
      | nil => intro i acc h; show (-1 : Int) ≤ acc; omega
      | cons r s ih =>
        intro i acc h
        have := szT_nn r
        simp only [lkN]
        split
        · exact Int.le_refl _
        · split
          · show (-1 : Int) ≤ acc; omega
          · exact ih _ _ (by omega)
    exact this _ _ _ _ (Int.le_refl _)
  · have := szT_nn l[i]; omega

end Go.Proofs.Ytcealfjkcbaelaa.Tk

