import Derived.Test.YtjcaiecapapceaaFl
/-
 What flatSize, leadSize, FlatWidth and LeadWidth come to, of the program and of the model.
-/
set_option linter.unusedVariables false
set_option linter.unusedSimpArgs false
namespace Go.Proofs.Ytjcaiecapapceaa.Wid
open Go.RowKit P1 Cnt CntC Flat
def zf : F → Nat
 | .nil => 0
 | .cons o _ t k r => (if o == 3 then 1 else t.size) + zf k + zf r
def zD (o : Int) (t : ByteArray) (k : F) : Nat := (if o == 3 then 1 else t.size) + zf k
def noF : F → Bool
 | .nil => true
 | .cons o _ _ k r => (o != 5) && noF k && noF r
def noD (o : Int) (k : F) : Bool := (o != 5) && noF k
theorem noF_cnt (f : F) : noF f = decide (cntF (fun x => x == 5) f = 0) := by
 induction f with
 | nil => rfl
 | cons o n t k r ihk ihr =>
   simp only [noF, cntF, ihk, ihr]
   by_cases h : o = 5
   ·subst h; simp <;> omega
   ·have h1 : (o == 5) = false := by rw [beq_eq_false_iff_ne]; exact h
    have h2 : (o != 5) = true := by simp [bne, h1]
    simp only [h1, h2, Bool.true_and, Bool.false_eq_true, if_false]
    rw [Bool.eq_iff_iff]; simp only [Bool.and_eq_true, decide_eq_true_eq]; omega
theorem noD_ops (o : Int) (k : F) : noD o k = decide (opsD 5 o k = 0) := by
 rw [noD, noF_cnt, opsD_eq]
 by_cases h : o = 5
 ·subst h; simp
 ·have h1 : (o == 5) = false := by rw [beq_eq_false_iff_ne]; exact h
  have h2 : (o != 5) = true := by simp [bne, h1]
  simp only [h1, h2, Bool.true_and, Bool.false_eq_true, if_false]
  rw [Bool.eq_iff_iff]; simp only [decide_eq_true_eq]; omega
def nl (o : Int) : Bool := (o == 3) || (o == 4) || (o == 5)
def ldE : F → Bool
 | .nil => false
 | .cons o _ _ k r => (nl o || ldE k) || ldE r
def ldN : F → Nat
 | .nil => 0
 | .cons o _ t k r => (if nl o then 0 else t.size + ldN k) + (if nl o || ldE k then 0 else ldN r)
def eD (o : Int) (k : F) : Bool := nl o || ldE k
def nD (o : Int) (t : ByteArray) (k : F) : Nat := if nl o then 0 else t.size + ldN k
end Go.Proofs.Ytjcaiecapapceaa.Wid
