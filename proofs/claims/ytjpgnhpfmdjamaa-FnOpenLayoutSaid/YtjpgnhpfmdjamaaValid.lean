/-
  Which documents are valid, as plain tests; nothing here speaks of the program.
-/
import Derived.Test.YtjpgnhpfmdjamaaDocs
import Derived.Test.YtjpgnhpfmdjamaaPure1
set_option linter.unusedVariables false
set_option linter.unusedSimpArgs false
namespace Go.Proofs.Ytjpgnhpfmdjamaa
open Go.RowKit P1

/-- how many Kids a kind has -/
def kidsOf (o : Int) : Int := if o = 1 ∨ o = 2 ∨ o = 3 ∨ o = 4 ∨ o = 5 then 0 else if o = 6 ∨ o = 8 then 1 else if o = 7 then 2 else -1

/-- a node's own fields -/
def textB (o : Int) (t : ByteArray) : Bool := if o = 2 then tv t.data.toList else decide (t = ⟨#[]⟩)
def numB (o n : Int) : Bool := if o = 6 then decide (0 ≤ n) && decide (n ≤ 9) else decide (n = 0)
def nodeB (o n : Int) (t : ByteArray) (l : Nat) : Bool := decide ((l : Int) = kidsOf o) && textB o t && numB o n

namespace F
/-- every document of the list is well-formed, down to a depth -/
def ok : F → Nat → Bool
  | nil, _ => true
  | cons o n t k r, d => decide (0 < d) && nodeB o n t k.len && k.ok (d - 1) && r.ok d
/-- the nodes of a list -/
def cnt : F → Nat
  | nil => 0
  | cons _ _ _ k r => 1 + k.cnt + r.cnt

theorem ok_app (f g : F) (d : Nat) : (f.app g).ok d = (f.ok d && g.ok d) := by
  induction f with
  | nil => simp [app, ok]
  | cons o n t k r _ ih => simp [app, ok, ih, Bool.and_assoc]
theorem cnt_app (f g : F) : (f.app g).cnt = f.cnt + g.cnt := by
  induction f with
  | nil => simp [app, cnt]
  | cons o n t k r _ ih => simp [app, cnt, ih]; omega
theorem cnt_le_size (f : F) : f.cnt ≤ f.size := by
  induction f with
  | nil => simp [cnt, size]
  | cons o n t k r ihk ihr => simp [cnt, size]; omega
theorem len_le_cnt (f : F) : f.len ≤ f.cnt := by
  induction f with
  | nil => simp [cnt, len]
  | cons o n t k r _ ih => simp [cnt, len]; omega
end F

/-- a document, by its fields and Kids, is well-formed down to a depth -/
def okD (d : Nat) (o n : Int) (t : ByteArray) (k : F) : Bool := decide (0 < d) && nodeB o n t k.len && k.ok (d - 1)
/-- .. and valid -/
def validD (o n : Int) (t : ByteArray) (k : F) : Bool := okD 40 o n t k && decide (1 + k.cnt ≤ 80)

theorem ok_cons {o n : Int} {t : ByteArray} {k r : F} {d : Nat} : (F.cons o n t k r).ok d = (okD d o n t k && r.ok d) := rfl
theorem okD_zero (o n : Int) (t : ByteArray) (k : F) : okD 0 o n t k = false := by simp [okD]
theorem okD_bad {o n : Int} {t : ByteArray} {k : F} (h : nodeB o n t k.len = false) (d : Nat) : okD d o n t k = false := by simp [okD, h]
theorem okD_good {o n : Int} {t : ByteArray} {k : F} (h : nodeB o n t k.len = true) {d : Nat} (hd : 0 < d) : okD d o n t k = k.ok (d - 1) := by simp [okD, h, hd]

/-- The ways in which a node can be wrong, in the order in which they are asked. -/
theorem node_ways (o n : Int) (t : ByteArray) (l : Nat) :
    ((l : Int) ≠ kidsOf o ∧ nodeB o n t l = false) ∨
    ((l : Int) = kidsOf o ∧ o = 2 ∧ tv t.data.toList = false ∧ nodeB o n t l = false) ∨
    ((l : Int) = kidsOf o ∧ o ≠ 2 ∧ t ≠ ⟨#[]⟩ ∧ nodeB o n t l = false) ∨
    ((l : Int) = kidsOf o ∧ o = 2 ∧ tv t.data.toList = true ∧ n ≠ 0 ∧ nodeB o n t l = false) ∨
    ((l : Int) = kidsOf o ∧ o ≠ 2 ∧ t = ⟨#[]⟩ ∧ o ≠ 6 ∧ n ≠ 0 ∧ nodeB o n t l = false) ∨
    ((l : Int) = kidsOf o ∧ o = 6 ∧ t = ⟨#[]⟩ ∧ n < 0 ∧ nodeB o n t l = false) ∨
    ((l : Int) = kidsOf o ∧ o = 6 ∧ t = ⟨#[]⟩ ∧ 0 ≤ n ∧ 9 < n ∧ nodeB o n t l = false) ∨
    ((l : Int) = kidsOf o ∧ o = 2 ∧ tv t.data.toList = true ∧ n = 0 ∧ nodeB o n t l = true) ∨
    ((l : Int) = kidsOf o ∧ o ≠ 2 ∧ t = ⟨#[]⟩ ∧ o ≠ 6 ∧ n = 0 ∧ nodeB o n t l = true) ∨
    ((l : Int) = kidsOf o ∧ o = 6 ∧ t = ⟨#[]⟩ ∧ 0 ≤ n ∧ n ≤ 9 ∧ nodeB o n t l = true) := by
  unfold nodeB textB numB
  by_cases h1 : (l : Int) = kidsOf o
  · by_cases h2 : o = 2
    · subst h2
      cases h3 : tv t.data.toList
      · simp [h1]
      · by_cases h4 : n = 0 <;> simp [h1, h4]
    · by_cases h3 : t = ⟨#[]⟩
      · by_cases h4 : o = 6
        · subst h4
          by_cases h5 : n < 0
          · simp [h1, h3, h5]; omega
          · by_cases h6 : 9 < n
            · simp [h1, h3, h6]; omega
            · simp [h1, h3]; omega
        · by_cases h5 : n = 0 <;> simp [h1, h2, h3, h4, h5]
      · simp [h1, h2, h3]
  · simp [h1]

theorem kidsOf_ways (o : Int) : (o = 1 ∧ kidsOf o = 0) ∨ (o = 2 ∧ kidsOf o = 0) ∨ (o = 3 ∧ kidsOf o = 0) ∨ (o = 4 ∧ kidsOf o = 0) ∨ (o = 5 ∧ kidsOf o = 0) ∨ (o = 6 ∧ kidsOf o = 1) ∨ (o = 8 ∧ kidsOf o = 1) ∨ (o = 7 ∧ kidsOf o = 2) ∨
    (o ≠ 1 ∧ o ≠ 2 ∧ o ≠ 3 ∧ o ≠ 4 ∧ o ≠ 5 ∧ o ≠ 6 ∧ o ≠ 7 ∧ o ≠ 8 ∧ kidsOf o = -1) := by
  by_cases h1 : o = 1; · subst h1; simp [kidsOf]
  by_cases h2 : o = 2; · subst h2; simp [kidsOf]
  by_cases h3 : o = 3; · subst h3; simp [kidsOf]
  by_cases h4 : o = 4; · subst h4; simp [kidsOf]
  by_cases h5 : o = 5; · subst h5; simp [kidsOf]
  by_cases h6 : o = 6; · subst h6; simp [kidsOf]
  by_cases h7 : o = 7; · subst h7; simp [kidsOf]
  by_cases h8 : o = 8; · subst h8; simp [kidsOf]
  simp [kidsOf, h1, h2, h3, h4, h5, h6, h7, h8]

end Go.Proofs.Ytjpgnhpfmdjamaa
