/-
  Plain facts about the bytes and lengths of texts of documents; nothing here speaks of the program.
-/
import Derived.WalkKit
import Derived.Lib.IndexLaws
import Derived.Lib.IndexAny
import Derived.Lib.Hide
set_option linter.unusedVariables false
set_option linter.unusedSimpArgs false
namespace Go.Proofs.Ytjpgnhpfmdjamaa.P1

/-- A byte that a text of a document can have. -/
def tb (c : UInt8) : Bool := (97 ≤ c && c ≤ 122) || (48 ≤ c && c ≤ 57) || ([44, 58, 61, 123, 125, 40, 41, 91, 93] : List UInt8).contains c

/-- A text of a document. -/
def tv (l : List UInt8) : Bool := decide (1 ≤ l.length) && decide (l.length ≤ 12) && l.all tb

theorem tv_len {l : List UInt8} (h : tv l = true) : 1 ≤ l.length ∧ l.length ≤ 12 := by
  simp [tv] at h; exact h.1

theorem tv_short {l : List UInt8} (h : l.length < 1) : tv l = false := by
  simp [tv]; intro h1; omega
theorem tv_long {l : List UInt8} (h : 12 < l.length) : tv l = false := by
  simp [tv]; intro h1; omega
theorem tv_of {l : List UInt8} (h1 : 1 ≤ l.length) (h2 : l.length ≤ 12) : tv l = l.all tb := by
  simp [tv, h1, h2]

theorem u8_le (a b : UInt8) : decide (a ≤ b) = decide ((a.toNat : Int) ≤ (b.toNat : Int)) := by
  rw [Bool.eq_iff_iff]; simp [UInt8.le_iff_toNat_le]
theorem u8_beq (a b : UInt8) : (a == b) = ((a.toNat : Int) == (b.toNat : Int)) := by
  rw [Bool.eq_iff_iff]; simp only [beq_iff_eq, ← UInt8.toNat_inj]; omega

/-- The same by the number of the byte. -/
theorem tb_num (c : UInt8) : tb c = ((decide (97 ≤ (c.toNat : Int)) && decide ((c.toNat : Int) ≤ 122)) || (decide (48 ≤ (c.toNat : Int)) && decide ((c.toNat : Int) ≤ 57)) ||
    ((c.toNat : Int) == 44 || (c.toNat : Int) == 58 || (c.toNat : Int) == 61 || (c.toNat : Int) == 123 || (c.toNat : Int) == 125 || (c.toNat : Int) == 40 || (c.toNat : Int) == 41 || (c.toNat : Int) == 91 || (c.toNat : Int) == 93)) := by
  simp only [tb, u8_le, List.contains_cons, List.contains_nil, u8_beq, Bool.or_false, Bool.or_assoc]
  rfl

theorem tb_yes (c : UInt8) (h : (97 ≤ (c.toNat : Int) ∧ (c.toNat : Int) ≤ 122) ∨ (48 ≤ (c.toNat : Int) ∧ (c.toNat : Int) ≤ 57) ∨ (c.toNat : Int) = 44 ∨ (c.toNat : Int) = 58 ∨ (c.toNat : Int) = 61 ∨ (c.toNat : Int) = 123 ∨ (c.toNat : Int) = 125 ∨ (c.toNat : Int) = 40 ∨ (c.toNat : Int) = 41 ∨ (c.toNat : Int) = 91 ∨ (c.toNat : Int) = 93) : tb c = true := by
  rw [tb_num]; simp; omega

theorem tb_no (c : UInt8) (h1 : ¬ (97 ≤ (c.toNat : Int) ∧ (c.toNat : Int) ≤ 122)) (h2 : ¬ (48 ≤ (c.toNat : Int) ∧ (c.toNat : Int) ≤ 57)) (h3 : (c.toNat : Int) ≠ 44 ∧ (c.toNat : Int) ≠ 58 ∧ (c.toNat : Int) ≠ 61 ∧ (c.toNat : Int) ≠ 123 ∧ (c.toNat : Int) ≠ 125 ∧ (c.toNat : Int) ≠ 40 ∧ (c.toNat : Int) ≠ 41 ∧ (c.toNat : Int) ≠ 91 ∧ (c.toNat : Int) ≠ 93) : tb c = false := by
  rw [tb_num]; simp; omega

theorem tb_index (c : UInt8) (h1 : ¬ (97 ≤ (c.toNat : Int) ∧ (c.toNat : Int) ≤ 122)) (h2 : ¬ (48 ≤ (c.toNat : Int) ∧ (c.toNat : Int) ≤ 57)) :
    tb c = decide (0 ≤ Lib.indexByte [44, 58, 61, 123, 125, 40, 41, 91, 93] c) := by
  rw [← Lib.contains_iff_indexByte]
  have e1 : (decide (97 ≤ c) && decide (c ≤ 122)) = false := by
    rw [u8_le, u8_le]; simp; intro h; show 122 < (c.toNat : Int); omega
  have e2 : (decide (48 ≤ c) && decide (c ≤ 57)) = false := by
    rw [u8_le, u8_le]; simp; intro h; show 57 < (c.toNat : Int); omega
  simp only [tb, e1, e2, Bool.false_or]

theorem take_all_snoc (s : ByteArray) (k : Nat) (h : k < s.size) (p : UInt8 → Bool) :
    (s.data.toList.take (k + 1)).all p = ((s.data.toList.take k).all p && p s[k]) := by
  rw [List.take_succ_eq_append_getElem (by simpa using h)]
  simp only [List.all_append, List.all_cons, List.all_nil, Bool.and_true]; rfl

theorem all_stop (s : ByteArray) (k : Nat) (h : k < s.size) (p : UInt8 → Bool) (hp : p s[k] = false) : s.data.toList.all p = false := by
  have h1 : ((s.data.toList.take (k + 1)).all p) = false := by rw [take_all_snoc s k h]; simp [hp]
  rw [← List.take_append_drop (k + 1) s.data.toList, List.all_append, h1, Bool.false_and]

theorem signs_no (x : Int) (h : x ≠ 44 ∧ x ≠ 58 ∧ x ≠ 61 ∧ x ≠ 123 ∧ x ≠ 125 ∧ x ≠ 40 ∧ x ≠ 41 ∧ x ≠ 91 ∧ x ≠ 93) :
    (x == 44) = false ∧ (x == 58) = false ∧ (x == 61) = false ∧ (x == 123) = false ∧ (x == 125) = false ∧ (x == 40) = false ∧ (x == 41) = false ∧ (x == 91) = false ∧ (x == 93) = false := by
  simp; exact h

theorem byte_ways (x : Int) : (97 ≤ x ∧ x ≤ 122) ∨ (48 ≤ x ∧ x ≤ 57) ∨ x = 44 ∨ x = 58 ∨ x = 61 ∨ x = 123 ∨ x = 125 ∨ x = 40 ∨ x = 41 ∨ x = 91 ∨ x = 93 ∨
    ((x < 48 ∨ (57 < x ∧ x < 97) ∨ 122 < x) ∧ x ≠ 44 ∧ x ≠ 58 ∧ x ≠ 61 ∧ x ≠ 123 ∧ x ≠ 125 ∧ x ≠ 40 ∧ x ≠ 41 ∧ x ≠ 91 ∧ x ≠ 93) := by omega

end Go.Proofs.Ytjpgnhpfmdjamaa.P1
