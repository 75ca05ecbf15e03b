import Derived.Test.YtgcaolofehgbeaaLayTP
/-
  What the width, the bytes beyond a width and the text of a valid layout have to do with one another, as plain data; nothing here speaks of the program.
-/
set_option linter.unusedVariables false
set_option linter.unusedSimpArgs false
namespace Go.Proofs.Ytgcaolofehgbeaa.P1
open Go.RowKit

theorem wid_ge (x : Int) : ∀ (l : List (Int × ByteArray)) (m : Int), (x < l.foldl (fun m r => max m (rowW r)) m) ↔ (x < m ∨ ∃ r ∈ l, x < rowW r) := by
  intro l
  induction l with
  | nil => intro m; simp
  | cons r l ih =>
    intro m
    rw [List.foldl_cons, ih]
    simp only [List.mem_cons, exists_eq_or_imp]
    constructor
    · rintro (h | h)
      · by_cases h2 : x < m
        · exact .inl h2
        · exact .inr (.inl (by omega))
      · exact .inr (.inr h)
    · rintro (h | h | h)
      · exact .inl (by omega)
      · exact .inl (by omega)
      · exact .inr h
theorem ov_ge (x : Int) : ∀ (l : List (Int × ByteArray)) (m : Int), 0 ≤ m → ((0 < l.foldl (fun m r => m + max 0 (rowW r - x)) m) ↔ (0 < m ∨ ∃ r ∈ l, x < rowW r)) ∧ m ≤ l.foldl (fun m r => m + max 0 (rowW r - x)) m := by
  intro l
  induction l with
  | nil => intro m hm; simp
  | cons r l ih =>
    intro m hm
    obtain ⟨h1, h2⟩ := ih (m + max 0 (rowW r - x)) (by omega)
    rw [List.foldl_cons]
    refine ⟨?_, by omega⟩
    rw [h1]
    simp only [List.mem_cons, exists_eq_or_imp]
    constructor
    · rintro (h | h)
      · by_cases h3 : 0 < m
        · exact .inl h3
        · exact .inr (.inl (by omega))
      · exact .inr (.inr h)
    · rintro (h | h | h)
      · exact .inl (by omega)
      · exact .inl (by omega)
      · exact .inr h
/-- some bytes lie beyond a width exactly where the longest line is longer -/
theorem over_wide {x : Int} (hx : 0 ≤ x) (l : List (Int × ByteArray)) : decide (0 < ov x l) = decide (x < wid l) := by
  have h1 := (ov_ge x l 0 (Int.le_refl _)).1
  have h2 := wid_ge x l 0
  have : (0 < ov x l) ↔ (x < wid l) := by
    unfold ov wid
    rw [h1, h2]
    constructor
    · rintro (h | h)
      · omega
      · exact .inr h
    · rintro (h | h)
      · omega
      · exact .inr h
  exact decide_eq_decide.2 this
theorem ov_mono (x : Int) : ∀ (l : List (Int × ByteArray)) (m m' : Int), m ≤ m' → l.foldl (fun m r => m + max 0 (rowW r - (x + 1))) m ≤ l.foldl (fun m r => m + max 0 (rowW r - x)) m' := by
  intro l
  induction l with
  | nil => intro m m' h; exact h
  | cons r l ih => intro m m' h; rw [List.foldl_cons, List.foldl_cons]; exact ih _ _ (by omega)
theorem ov_less (x : Int) (l : List (Int × ByteArray)) : ov (x + 1) l ≤ ov x l := ov_mono x l 0 0 (Int.le_refl _)

/-- newlines -/
def nl (l : List UInt8) : Nat := l.count 10
theorem nl_app (a b : List UInt8) : nl (a ++ b) = nl a + nl b := by simp [nl]
theorem nl_zero {l : List UInt8} (h : ∀ c ∈ l, c ≠ 10) : nl l = 0 := List.count_eq_zero.2 (fun hc => h 10 hc rfl)
theorem lb_ten : lb 10 = false := by decide
theorem nl_line {r : Int × ByteArray} (h : rv r = true) : nl (lnB r) = 0 := by
  have h2 := (rv_iff.1 h).2.2
  simp only [lt, Bool.and_eq_true, List.all_eq_true] at h2
  refine nl_zero fun c hc e => ?_
  subst e
  unfold lnB at hc
  by_cases h0 : r.2.size = 0
  · rw [ln_no h0] at hc; simp at hc
  · rw [ln_yes h0, ByteArray.data_append] at hc
    simp only [Array.toList_append, List.mem_append] at hc
    rcases hc with hc | hc
    · simp [sp] at hc
    · have := h2.2 10 hc
      rw [lb_ten] at this; cases this
theorem nl_text {l : List (Int × ByteArray)} (h : lv l = true) : nl (txB l) + 1 = l.length := by
  have key : ∀ k, 0 < k → k ≤ l.length → nl (txB (l.take k)) + 1 = k := by
    intro k
    induction k with
    | zero => intro h0; omega
    | succ k ih =>
      intro _ hk
      rcases Nat.eq_zero_or_pos k with rfl | h0
      · rw [txB_first (by omega), nl_line (lv_get h (by omega))]
      · rw [txB_take (by omega) h0, nl_app, nl_app, nl_line (lv_get h (by omega))]
        have := ih h0 (by omega)
        have e : nl [10] = 1 := by decide
        omega
  have h1 := key l.length (by have := (lv_len h).1; omega) (Nat.le_refl _)
  rwa [List.take_of_length_le (Nat.le_refl _)] at h1
theorem nl_take {l : List UInt8} {k : Nat} (h : k < l.length) : nl (l.take (k + 1)) = nl (l.take k) + (if l[k] = 10 then 1 else 0) := by
  have e : l.take (k + 1) = l.take k ++ [l[k]] := by simp
  rw [e, nl_app]
  congr 1
  by_cases h1 : l[k] = 10
  · rw [if_pos h1, h1]; decide
  · rw [if_neg h1]; simp [nl, List.count_cons, h1]
theorem nl_at {s : ByteArray} {k : Nat} (h : k < s.size) : nl (s.data.toList.take (k + 1)) = nl (s.data.toList.take k) + (if s[k] = 10 then 1 else 0) := by
  have := nl_take (l := s.data.toList) (k := k) (by simpa using h)
  rw [this]; rfl
theorem nl_le (l : List UInt8) : nl l ≤ l.length := List.count_le_length
theorem text_one {n : Int} {t : ByteArray} (h : rv (n, t) = true) : lt8 [(0, t)] = t := by
  have h2 := (rv_iff.1 h).2.2
  have hv : lv [(0, t)] = true := by
    rw [lv_of (by simp) (by simp) rfl]
    simp only [List.all_cons, List.all_nil, Bool.and_true]
    exact rv_iff.2 ⟨Int.le_refl _, by simp, h2⟩
  rw [lt8_yes hv]
  apply ba_ext
  show (txB [(0, t)]).toArray.toList = _
  rw [txB_one]
  unfold lnB
  by_cases h0 : t.size = 0
  · rw [ln_no h0]
    have : t.data.toList.length = 0 := by simpa using h0
    rw [List.eq_nil_of_length_eq_zero this]
  · rw [ln_yes h0, ByteArray.data_append]; simp [sp]

end Go.Proofs.Ytgcaolofehgbeaa.P1

