import Derived.Test.YtjcaiecapapceaaGreatDrY
/-
 What the program's copyDoc comes to (beside CopyB): the same document in new memory.
-/
set_option linter.unusedVariables false
set_option linter.unusedSimpArgs false
namespace Go.Proofs.YtjcaiecapapceaaGreat.Copy
open Go.RowKit P1
def CpBox (w : World) (o n : Int) (t : ByteArray) (wr : World) : Prop := wr.cell? ⟨w.heap.size, 0, none⟩ = some (.int .i64 o) ∧ wr.cell? ⟨w.heap.size, 1, none⟩ = some (.int .i64 n) ∧ wr.cell? ⟨w.heap.size, 2, none⟩ = some (.string t) ∧ wr.there (w.heap.size + 1) 0 4 ∧ w.heap.size + 2 ≤ wr.heap.size
theorem copy_mid {wr w1 : World} {ob0 ob : Obj} {T : TypeId} {lo : Nat} {v : Value} {p : F} {fs : List Nat} (hG : Grow wr T lo v p fs) (hb : Below (wr.alloc ob0).heap.size (wr.alloc ob0) w1) :
  Grow (w1.alloc ob) T lo v p fs ∧ lo ≤ (wr.alloc ob0).heap.size ∧ (∀ q ∈ fs, q < (wr.alloc ob0).heap.size) ∧ (∀ q, v.ownBlock = some q → q < (wr.alloc ob0).heap.size) ∧ Below (wr.heap.size + 1) (wr.alloc ob0) w1 := by
 have h1 : (wr.alloc ob0).heap.size = wr.heap.size + 1 := by simp
 refine ⟨((hG.alloc ob0).below (Nat.le_refl _) hb).alloc ob, ?_, fun q hq => ?_, fun q hq => ?_, hb.mono (by omega)⟩
 ·rw [h1]; exact Nat.le_succ_of_le hG.2.2.2
 ·have := hG.fresh.lt q hq; omega
 ·have := hG.own_lt q hq; omega
theorem copy_end {wr w1 w2 : World} {ob0 ob : Obj} {lo : Nat} (hb : Below (wr.alloc ob0).heap.size (wr.alloc ob0) w1) (hb' : Below lo (w1.alloc ob) w2) (hlo : lo ≤ wr.heap.size) : Below lo wr w2 := by
 have h1 : Below lo wr w1 := ((Below.refl lo wr).alloc hlo ob0).trans (hb.mono (by simp; omega))
 exact (h1.alloc (Nat.le_trans hlo h1.size) ob).trans hb'
end Go.Proofs.YtjcaiecapapceaaGreat.Copy
