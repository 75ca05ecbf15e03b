import Derived.Test.YtcealfjkcbaelaaPl
/-
  What holds of nested and joined layouts, as plain data; nothing here speaks of the program.
-/
set_option linter.unusedVariables false
set_option linter.unusedSimpArgs false
namespace Go.Proofs.Ytcealfjkcbaelaa.P1
open Go.RowKit

theorem nestR_true {n : Int} {l X : List (Int × ByteArray)} (h : nestR n l = (X, true)) : lv l = true ∧ 0 ≤ n ∧ n ≤ 200 ∧ X = nestL n l ∧ lv X = true := by
  unfold nestR at h
  split at h
  · rename_i hc
    simp only [Prod.mk.injEq, and_true] at h
    exact ⟨hc.1, hc.2.1, hc.2.2.1, h.symm, by rw [← h]; exact hc.2.2.2⟩
  · simp at h
theorem nestR_false {n : Int} {l X : List (Int × ByteArray)} (h : nestR n l = (X, false)) : X = [] := by
  unfold nestR at h
  split at h
  · simp at h
  · simp only [Prod.mk.injEq, and_true] at h; exact h.symm
theorem catLR_true {a b X : List (Int × ByteArray)} (h : catLR a b = (X, true)) : lv a = true ∧ lv b = true ∧ X = catL a b ∧ lv X = true := by
  unfold catLR at h
  split at h
  · rename_i hc
    simp only [Prod.mk.injEq, and_true] at h
    exact ⟨hc.1, hc.2.1, h.symm, by rw [← h]; exact hc.2.2⟩
  · simp at h
theorem catLR_false {a b X : List (Int × ByteArray)} (h : catLR a b = (X, false)) : X = [] := by
  unfold catLR at h
  split at h
  · simp at h
  · simp only [Prod.mk.injEq, and_true] at h; exact h.symm

theorem nestL_nought (l : List (Int × ByteArray)) : nestL 0 l = l := by
  cases l with
  | nil => rfl
  | cons r l => simp [nestL]
theorem nestL_one {n : Int} {l : List (Int × ByteArray)} (h : l.length ≤ 1) : nestL n l = l := by
  cases l with
  | nil => rfl
  | cons r l =>
    cases l with
    | nil => rfl
    | cons => simp at h
theorem nestL_add (m n : Int) (l : List (Int × ByteArray)) : nestL m (nestL n l) = nestL (n + m) l := by
  cases l with
  | nil => rfl
  | cons r l => simp [nestL, Function.comp_def, Int.add_assoc]
theorem nestR_nought {l : List (Int × ByteArray)} (h : lv l = true) : nestR 0 l = (l, true) := by
  rw [nestR_yes h (by omega) (by omega) (by rw [nestL_nought]; exact h), nestL_nought]
theorem snoc_of {a : List (Int × ByteArray)} (h : 0 < a.length) : ∃ p q, a = p ++ [q] :=
  ⟨a.dropLast, a.getLast (List.length_pos_iff.1 h), (List.dropLast_concat_getLast _).symm⟩
theorem catL_snoc (p : List (Int × ByteArray)) (q r : Int × ByteArray) (k : List (Int × ByteArray)) : catL (p ++ [q]) (r :: k) = p ++ (q.1, q.2 ++ r.2) :: k := by simp [catL]
theorem catL_nest (n : Int) {a b : List (Int × ByteArray)} (ha : 0 < a.length) (hb : 0 < b.length) : catL (nestL n a) (nestL n b) = nestL n (catL a b) := by
  obtain ⟨p, q, rfl⟩ := snoc_of ha
  cases b with
  | nil => simp at hb
  | cons r k =>
    rw [catL_snoc]
    cases p with
    | nil =>
      have := catL_snoc [] q r (k.map fun r => (r.1 + n, r.2))
      simpa [nestL] using this
    | cons x p =>
      have := catL_snoc (x :: p.map fun r => (r.1 + n, r.2)) (q.1 + n, q.2) r (k.map fun r => (r.1 + n, r.2))
      simpa [nestL] using this
theorem catL_assoc {a b : List (Int × ByteArray)} (c : List (Int × ByteArray)) (ha : 0 < a.length) (hb : 0 < b.length) : catL (catL a b) c = catL a (catL b c) := by
  obtain ⟨p, q, rfl⟩ := snoc_of ha
  cases c with
  | nil => simp [catL]
  | cons s m =>
    obtain ⟨u, v, rfl⟩ := snoc_of hb
    cases u with
    | nil =>
      have h1 := catL_snoc p q v []
      have h2 := catL_snoc [] v s m
      have h3 := catL_snoc p (q.1, q.2 ++ v.2) s m
      have h4 := catL_snoc p q (v.1, v.2 ++ s.2) m
      simp only [List.nil_append] at h2 ⊢
      rw [h1, h2, h3, h4, ByteArray.append_assoc]
    | cons x u =>
      have h1 := catL_snoc p q x (u ++ [v])
      have h2 := catL_snoc (x :: u) v s m
      have h3 := catL_snoc (p ++ (q.1, q.2 ++ x.2) :: u) v s m
      have h4 := catL_snoc p q x (u ++ (v.1, v.2 ++ s.2) :: m)
      simp only [List.cons_append, List.append_assoc] at h1 h2 h3 h4 ⊢
      rw [h1, h2, h3, h4]
theorem catL_left {a : List (Int × ByteArray)} (h : lv a = true) : catL [(0, ⟨#[]⟩)] a = a := by
  have hl := lv_len h
  cases a with
  | nil => simp at hl
  | cons r k =>
    have h0 : r.1 = 0 := by
      simp only [lv, head0, Bool.and_eq_true, decide_eq_true_eq] at h; exact h.1.2
    have := catL_snoc [] (0, ⟨#[]⟩) r k
    simp only [List.nil_append] at this
    rw [this]
    obtain ⟨n, t⟩ := r
    simp only at h0
    subst h0
    have e : (⟨#[]⟩ : ByteArray) ++ t = t := by apply ByteArray.ext; simp
    rw [e]
theorem catL_right {a : List (Int × ByteArray)} (h : 0 < a.length) : catL a [(0, ⟨#[]⟩)] = a := by
  obtain ⟨p, q, rfl⟩ := snoc_of h
  rw [catL_snoc]
  have e : q.2 ++ (⟨#[]⟩ : ByteArray) = q.2 := by apply ByteArray.ext; simp
  rw [e]
theorem lv_empty : lv [(0, ⟨#[]⟩)] = true := by decide
theorem catLR_left {a : List (Int × ByteArray)} (h : lv a = true) : catLR [(0, ⟨#[]⟩)] a = (a, true) := by rw [catLR_yes lv_empty h (by rw [catL_left h]; exact h), catL_left h]
theorem catLR_right {a : List (Int × ByteArray)} (h : lv a = true) : catLR a [(0, ⟨#[]⟩)] = (a, true) := by
  have := lv_len h
  rw [catLR_yes h lv_empty (by rw [catL_right (by omega)]; exact h), catL_right (by omega)]

end Go.Proofs.Ytcealfjkcbaelaa.P1

