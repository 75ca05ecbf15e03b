import Derived.Test.YtmkibpimjaofgaaLwA
import Derived.Deep.RegionHeld3
import Derived.Test.YtmkibpimjaofgaaChecked
import Derived.ProofKit
import Derived.Lib.SmallJoins
import Derived.Deep.Slices
/-
  What CompareCosts and CostOf of the program and of the model come to.
-/
set_option linter.unusedVariables false
set_option linter.unusedSimpArgs false
namespace Go.Proofs.Ytmkibpimjaofgaa.Cst
open Go.RowKit P1 TextV LayV LayW

/-- the sign of a comparison -/
def sg (x y : Int) : Int := if x < y then -1 else if y < x then 1 else 0
/-- costs are compared: first what is beyond, then the lines -/
def cmpC (a b c d : Int) : Int := if sg a c ≠ 0 then sg a c else sg b d
theorem sg_lt {x y : Int} (h : x < y) : sg x y = -1 := if_pos h
theorem sg_gt {x y : Int} (h : y < x) : sg x y = 1 := by unfold sg; rw [if_neg (by omega), if_pos h]
theorem sg_eq {x y : Int} (h : x = y) : sg x y = 0 := by unfold sg; rw [if_neg (by omega), if_neg (by omega)]
theorem sg_bd (x y : Int) : -1 ≤ sg x y ∧ sg x y ≤ 1 := by unfold sg; split <;> (try split) <;> omega
theorem cmpC_bd (a b c d : Int) : -1 ≤ cmpC a b c d ∧ cmpC a b c d ≤ 1 := by unfold cmpC; split; exact sg_bd _ _; exact sg_bd _ _

/-- a width that a page can have -/
def wv (x : Int) : Bool := decide (0 ≤ x) && decide (x ≤ 200)
set_option maxRecDepth 100000 in
theorem widthValid (x : Int) (w : World) : Calls Try.prog 155 #[.int .i64 x] w fun e w' => e = .returned (.bool (wv x)) ∧ w' = w := by
  by_cases h0 : 0 ≤ x
  · by_cases h1 : x ≤ 200
    · have HF := Lib.hid (show wv x = true by simp [wv, h0, h1])
      go_enter Try.func155, Try.ntmps155
      go_wp2_with fail
      go_ret
      exact ⟨by rw [HF.out]; rfl, rfl⟩
    · have HF := Lib.hid (show wv x = false by simp [wv, h1])
      go_enter Try.func155, Try.ntmps155
      go_wp2_with fail
      go_ret
      exact ⟨by rw [HF.out]; rfl, rfl⟩
  · have HF := Lib.hid (show wv x = false by simp [wv, h0])
    go_enter Try.func155, Try.ntmps155
    go_wp2_with fail
    go_ret
    exact ⟨by rw [HF.out]; rfl, rfl⟩

theorem pair_set {W : World} {b : Nat} {u0 u1 u u' : Value} (h0 : W.cell? ⟨b, 0, none⟩ = some u0) (h1 : W.cell? ⟨b, 1, none⟩ = some u1) (hb : b < W.heap.size) :
    ((W.setCell ⟨b, 0, none⟩ u).setCell ⟨b, 1, none⟩ u').cell? ⟨b, 0, none⟩ = some u ∧ ((W.setCell ⟨b, 0, none⟩ u).setCell ⟨b, 1, none⟩ u').cell? ⟨b, 1, none⟩ = some u' ∧ b < ((W.setCell ⟨b, 0, none⟩ u).setCell ⟨b, 1, none⟩ u').heap.size := by
  refine ⟨?_, ?_, by simpa using hb⟩
  · rw [World.cell?_setCell_other _ _ _ _ (by simp)]
    exact World.cell?_setCell_same _ _ _ h0
  · exact World.cell?_setCell_same _ _ _ (by rw [World.cell?_setCell_other _ _ _ _ (by simp)]; exact h1)

end Go.Proofs.Ytmkibpimjaofgaa.Cst

/-
  What CostOf of the program and of the model comes to.
-/
set_option linter.unusedVariables false
set_option linter.unusedSimpArgs false
namespace Go.Proofs.Ytmkibpimjaofgaa.Cst
open Go.RowKit P1 TextV LayV LayW
theorem wv_bd {x : Int} (h : wv x = true) : 0 ≤ x ∧ x ≤ 200 := by simpa [wv] using h
/-- the cost of a layout: what is beyond, the lines, and whether there is one -/
def coR (l : List (Int × ByteArray)) (x : Int) : Int × Int × Bool := if wv x = true ∧ lv l = true then (ov x l, (l.length : Int), true) else (0, 0, false)
theorem cell0 {w w' : World} {o : Obj} {T : TypeId} (h : Below (w.alloc (.cells #[.int .i64 0, .int .i64 0] T)).heap.size (w.alloc (.cells #[.int .i64 0, .int .i64 0] T)) w') :
    w'.cell? ⟨w.heap.size, 0, none⟩ = some (.int .i64 0) ∧ w'.cell? ⟨w.heap.size, 1, none⟩ = some (.int .i64 0) ∧ w'.frozen? ⟨w.heap.size, 0, none⟩ = false ∧ w'.frozen? ⟨w.heap.size, 1, none⟩ = false ∧ w.heap.size < w'.heap.size :=
  ⟨(Below.cell (p := ⟨w.heap.size, 0, none⟩) h (by simp)).trans (by rw [World.cell?_alloc_new]; rfl), (Below.cell (p := ⟨w.heap.size, 1, none⟩) h (by simp)).trans (by rw [World.cell?_alloc_new]; rfl),
   (Below.frozen (p := ⟨w.heap.size, 0, none⟩) h (by simp)).trans (World.frozen?_alloc_new _ _ _ _), (Below.frozen (p := ⟨w.heap.size, 1, none⟩) h (by simp)).trans (World.frozen?_alloc_new _ _ _ _), Nat.lt_of_lt_of_le (by simp) h.size⟩

end Go.Proofs.Ytmkibpimjaofgaa.Cst

/-
  The laws' helpers on costs, and a cost that comes in as an argument.
-/
set_option linter.unusedVariables false
set_option linter.unusedSimpArgs false
namespace Go.Proofs.Ytmkibpimjaofgaa.Cst
open Go.RowKit Go.ChangeShapes Go.WideShapes Go.ChangeAt P1 TextV LayV LayW
theorem pair_one {W : World} {b : Nat} {u0 u1 u : Value} (h0 : W.cell? ⟨b, 0, none⟩ = some u0) (h1 : W.cell? ⟨b, 1, none⟩ = some u1) :
    (W.setCell ⟨b, 0, none⟩ u).cell? ⟨b, 0, none⟩ = some u ∧ (W.setCell ⟨b, 0, none⟩ u).cell? ⟨b, 1, none⟩ = some u1 :=
  ⟨World.cell?_setCell_same _ _ _ h0, by rw [World.cell?_setCell_other _ _ _ _ (by simp)]; exact h1⟩

section
variable {H : Type} {enc : TypeId × Value → H} {w : World} {base : Nat} {spare : Nat → Bool} {held : Bool}
theorem i64_of {x : Int} (h : (Lit.int .i64 x).wf = true) : -9223372036854775808 ≤ x ∧ x ≤ 9223372036854775807 := by
  have h1 : IntKind.i64.min = -9223372036854775808 := rfl
  have h3 : IntKind.i64.max = 9223372036854775807 := rfl
  simp only [Lit.wf, Bool.and_eq_true, decide_eq_true_eq] at h
  omega

end
end Go.Proofs.Ytmkibpimjaofgaa.Cst

