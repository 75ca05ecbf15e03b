/-
  What a text in quotes is read as; nothing here speaks of the program.
-/
import Derived.Test.YtpejdbgjcjehjaaParseP
set_option linter.unusedVariables false
set_option linter.unusedSimpArgs false
namespace Go.Proofs.Ytpejdbgjcjehjaa
open Go.RowKit P1

theorem cutQ_no : ∀ {l : List UInt8}, 34 ∉ l → cutQ (l ++ [34]) = some (l, [])
  | [], _ => by simp [cutQ]
  | c :: r, h => by
    have h1 : ¬ (c = 34) := fun e => h (by simp [e])
    have h2 : 34 ∉ r := fun e => h (by simp [e])
    rw [List.cons_append, cutQ, if_neg h1, cutQ_no h2]

theorem cutQ_has : ∀ {l : List UInt8}, 34 ∈ l → ∃ x c y, cutQ (l ++ [34]) = some (x, c :: y)
  | [], h => by simp at h
  | c :: r, h => by
    by_cases h1 : c = 34
    · rw [List.cons_append, cutQ, if_pos h1]
      cases r with
      | nil => exact ⟨_, _, _, rfl⟩
      | cons d r => exact ⟨_, _, _, rfl⟩
    · have h2 : 34 ∈ r := by
        rcases List.mem_cons.mp h with h | h
        · exact (h1 h.symm).elim
        · exact h
      obtain ⟨x, d, y, e⟩ := cutQ_has h2
      rw [List.cons_append, cutQ, if_neg h1, e]
      exact ⟨_, _, _, rfl⟩

theorem tv_quote {l : List UInt8} (h : 34 ∈ l) : tv l = false := by
  have h0 : tb 34 = false := by decide
  have h1 : l.all tb = false := by
    rw [Bool.eq_false_iff]
    intro ha
    have := List.all_eq_true.mp ha 34 h
    rw [h0] at this; cases this
  simp [tv, h1]

theorem valid_text {l : List UInt8} (h : tv l = true) : validD 2 0 ⟨l.toArray⟩ .nil = true := by
  simp [validD, okD, nodeB, kidsOf, textB, numB, F.len, F.ok, F.cnt, h]

theorem parse_quote (l : List UInt8) : parse true (34 :: (l ++ [34])) = if tv l = true then some (2, 0, ⟨l.toArray⟩, .nil) else none := by
  have hd : rdD true 40 (34 :: (l ++ [34])) = rdT true (l ++ [34]) := by rw [rdD]; simp
  unfold parse
  rw [hd]
  unfold rdT
  by_cases hq : 34 ∈ l
  · obtain ⟨x, c, y, e⟩ := cutQ_has hq
    rw [e, tv_quote hq]
    cases hx : tv x <;> simp [hx]
  · rw [cutQ_no hq]
    cases hx : tv l with
    | false => simp [hx]
    | true => simp [hx, valid_text hx]

end Go.Proofs.Ytpejdbgjcjehjaa
