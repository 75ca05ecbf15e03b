import Derived.Test.YtgkbagcgbfgllaaCst
/-
  What CostOf of the program and of the model comes to.
-/
set_option linter.unusedVariables false
set_option linter.unusedSimpArgs false
namespace Go.Proofs.Ytgkbagcgbfgllaa.Cst
open Go.RowKit P1 TextV LayV LayW
theorem wv_bd {x : Int} (h : wv x = true) : 0 ≤ x ∧ x ≤ 200 := by simpa [wv] using h
/-- the cost of a layout: what is beyond, the lines, and whether there is one -/
def coR (l : List (Int × ByteArray)) (x : Int) : Int × Int × Bool := if wv x = true ∧ lv l = true then (ov x l, (l.length : Int), true) else (0, 0, false)
theorem cell0 {w w' : World} {o : Obj} {T : TypeId} (h : Below (w.alloc (.cells #[.int .i64 0, .int .i64 0] T)).heap.size (w.alloc (.cells #[.int .i64 0, .int .i64 0] T)) w') :
    w'.cell? ⟨w.heap.size, 0, none⟩ = some (.int .i64 0) ∧ w'.cell? ⟨w.heap.size, 1, none⟩ = some (.int .i64 0) ∧ w'.frozen? ⟨w.heap.size, 0, none⟩ = false ∧ w'.frozen? ⟨w.heap.size, 1, none⟩ = false ∧ w.heap.size < w'.heap.size :=
  ⟨(Below.cell (p := ⟨w.heap.size, 0, none⟩) h (by simp)).trans (by rw [World.cell?_alloc_new]; rfl), (Below.cell (p := ⟨w.heap.size, 1, none⟩) h (by simp)).trans (by rw [World.cell?_alloc_new]; rfl),
   (Below.frozen (p := ⟨w.heap.size, 0, none⟩) h (by simp)).trans (World.frozen?_alloc_new _ _ _ _), (Below.frozen (p := ⟨w.heap.size, 1, none⟩) h (by simp)).trans (World.frozen?_alloc_new _ _ _ _), Nat.lt_of_lt_of_le (by simp) h.size⟩

end Go.Proofs.Ytgkbagcgbfgllaa.Cst

