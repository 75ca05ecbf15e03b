/-
  Nested and joined layouts as plain data; nothing here speaks of the program.
-/
import Derived.Test.YtjpgnhpfmdjamaaLayWP
set_option linter.unusedVariables false
set_option linter.unusedSimpArgs false
namespace Go.Proofs.Ytjpgnhpfmdjamaa.P1
open Go.RowKit

/-- a layout with n more spaces behind each newline -/
def nestL (n : Int) : List (Int × ByteArray) → List (Int × ByteArray)
  | [] => []
  | r :: l => r :: l.map fun r => (r.1 + n, r.2)
theorem nestL_length (n : Int) (l : List (Int × ByteArray)) : (nestL n l).length = l.length := by cases l <;> simp [nestL]
theorem nestL_zero (n : Int) {l : List (Int × ByteArray)} (h : 0 < (nestL n l).length) : (nestL n l)[0] = l[0]'(by rwa [nestL_length] at h) := by
  cases l with
  | nil => simp [nestL] at h
  | cons r l => rfl
theorem nestL_get (n : Int) {l : List (Int × ByteArray)} {k : Nat} (hk : k < l.length) (h0 : 0 < k) (h : k < (nestL n l).length) : (nestL n l)[k] = (l[k].1 + n, l[k].2) := by
  cases l with
  | nil => simp at hk
  | cons r l =>
    cases k with
    | zero => omega
    | succ k => simp [nestL]
/-- what NestLayout comes to -/
def nestR (n : Int) (l : List (Int × ByteArray)) : List (Int × ByteArray) × Bool := if lv l = true ∧ 0 ≤ n ∧ n ≤ 200 ∧ lv (nestL n l) = true then (nestL n l, true) else ([], false)
theorem nestR_yes {n : Int} {l : List (Int × ByteArray)} (h : lv l = true) (h0 : 0 ≤ n) (h1 : n ≤ 200) (h2 : lv (nestL n l) = true) : nestR n l = (nestL n l, true) := by unfold nestR; rw [if_pos ⟨h, h0, h1, h2⟩]
theorem nestR_no1 {n : Int} {l : List (Int × ByteArray)} (h : lv l = false) : nestR n l = ([], false) := by unfold nestR; rw [if_neg (by simp [h])]
theorem nestR_no2 {n : Int} (l : List (Int × ByteArray)) (h : n < 0 ∨ 200 < n) : nestR n l = ([], false) := by unfold nestR; rw [if_neg (by omega)]
theorem nestR_no3 {n : Int} {l : List (Int × ByteArray)} (h : lv (nestL n l) = false) : nestR n l = ([], false) := by unfold nestR; rw [if_neg (by simp [h])]

/-- two layouts, one behind the other -/
def catL : List (Int × ByteArray) → List (Int × ByteArray) → List (Int × ByteArray)
  | a, [] => a
  | a, r :: k => a.dropLast ++ (match a.getLast? with | none => [] | some q => [(q.1, q.2 ++ r.2)]) ++ k
theorem catL_set {a b : List (Int × ByteArray)} (ha : 0 < a.length) (hb : 0 < b.length) : catL a b = a.set (a.length - 1) ((a[a.length - 1]'(by omega)).1, (a[a.length - 1]'(by omega)).2 ++ b[0].2) ++ b.drop 1 := by
  cases b with
  | nil => simp at hb
  | cons r k =>
    have hne : a ≠ [] := List.length_pos_iff.1 ha
    obtain ⟨p, q, rfl⟩ : ∃ p q, a = p ++ [q] := ⟨a.dropLast, a.getLast hne, (List.dropLast_concat_getLast hne).symm⟩
    simp [catL]
/-- what CatLayouts comes to -/
def catLR (a b : List (Int × ByteArray)) : List (Int × ByteArray) × Bool := if lv a = true ∧ lv b = true ∧ lv (catL a b) = true then (catL a b, true) else ([], false)
theorem catLR_yes {a b : List (Int × ByteArray)} (h : lv a = true) (h1 : lv b = true) (h2 : lv (catL a b) = true) : catLR a b = (catL a b, true) := by unfold catLR; rw [if_pos ⟨h, h1, h2⟩]
theorem catLR_no1 {a : List (Int × ByteArray)} (h : lv a = false) (b : List (Int × ByteArray)) : catLR a b = ([], false) := by unfold catLR; rw [if_neg (by simp [h])]
theorem catLR_no2 (a : List (Int × ByteArray)) {b : List (Int × ByteArray)} (h : lv b = false) : catLR a b = ([], false) := by unfold catLR; rw [if_neg (by simp [h])]
theorem catLR_no3 {a b : List (Int × ByteArray)} (h : lv (catL a b) = false) : catLR a b = ([], false) := by unfold catLR; rw [if_neg (by simp [h])]

end Go.Proofs.Ytjpgnhpfmdjamaa.P1
