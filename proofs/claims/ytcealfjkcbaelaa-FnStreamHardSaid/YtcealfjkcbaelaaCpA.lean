import Derived.Test.YtcealfjkcbaelaaDrY
import Derived.Deep.RegionLaw
/-
  What the model's l1Copy comes to: the same document in new memory.
-/
set_option linter.unusedVariables false
set_option linter.unusedSimpArgs false
namespace Go.Proofs.Ytcealfjkcbaelaa.CopyS
open Go.RowKit P1 Copy
/-- what the boxes hold all along -/
def CpBox (w : World) (o n : Int) (t : ByteArray) (u v : Value) (wr : World) : Prop := wr.cell? ⟨w.heap.size, 3, none⟩ = some u ∧ wr.there (w.heap.size + 1) 0 4 ∧ wr.cell? ⟨w.heap.size + 2, 0, none⟩ = some (.int .i64 o) ∧ wr.cell? ⟨w.heap.size + 2, 1, none⟩ = some (.int .i64 n) ∧ wr.cell? ⟨w.heap.size + 2, 2, none⟩ = some (.string t) ∧
  wr.cell? ⟨w.heap.size + 2, 3, none⟩ = some v ∧ wr.frozen? ⟨w.heap.size + 2, 3, none⟩ = false ∧ w.heap.size + 3 ≤ wr.heap.size

theorem CpBox.below {w : World} {o n : Int} {t : ByteArray} {u v : Value} {wr w' : World} (h : CpBox w o n t u v wr) (k : Below (w.heap.size + 3) wr w') : CpBox w o n t u v w' := by
  obtain ⟨h1, h2, h3, h4, h5, h6, h7, h8⟩ := h
  refine ⟨?_, there_below h2 (by omega) k, ?_, ?_, ?_, ?_, ?_, Nat.le_trans h8 k.size⟩
  · rw [k.cell (p := ⟨_, _, _⟩) (by simp)]; exact h1
  · rw [k.cell (p := ⟨_, _, _⟩) (by simp)]; exact h3
  · rw [k.cell (p := ⟨_, _, _⟩) (by simp)]; exact h4
  · rw [k.cell (p := ⟨_, _, _⟩) (by simp)]; exact h5
  · rw [k.cell (p := ⟨_, _, _⟩) (by simp)]; exact h6
  · rw [k.frozen (p := ⟨_, _, _⟩) (by simp)]; exact h7

theorem CpBox.put {w : World} {o n : Int} {t : ByteArray} {u v v' : Value} {wr : World} (h : CpBox w o n t u v wr) : CpBox w o n t u v' (wr.setCell ⟨w.heap.size + 2, 3, none⟩ v') := by
  obtain ⟨h1, h2, h3, h4, h5, h6, h7, h8⟩ := h
  refine ⟨?_, fun j hj => ⟨?_, ?_⟩, ?_, ?_, ?_, World.cell?_setCell_same _ _ _ h6, ?_, by simpa using h8⟩
  · rw [World.cell?_setCell_other _ _ _ _ (by simp)]; exact h1
  · rw [World.cell?_setCell_other _ _ _ _ (by simp)]; exact (h2 j hj).1
  · rw [World.frozen?_setCell]; exact (h2 j hj).2
  · rw [World.cell?_setCell_other _ _ _ _ (by simp)]; exact h3
  · rw [World.cell?_setCell_other _ _ _ _ (by simp)]; exact h4
  · rw [World.cell?_setCell_other _ _ _ _ (by simp)]; exact h5
  · rw [World.frozen?_setCell]; exact h7

end Go.Proofs.Ytcealfjkcbaelaa.CopyS

/-
  What the model's l1Copy comes to, with the row that its list lies in: the same document, its list grown in a row of the call's own.
-/
set_option linter.unusedVariables false
set_option linter.unusedSimpArgs false
namespace Go.Proofs.Ytcealfjkcbaelaa.CopyS
open Go.RowKit P1 Copy
end Go.Proofs.Ytcealfjkcbaelaa.CopyS

