import Derived.Test.YtlhdoifjhoocfaaPl
import Derived.Test.YtlhdoifjhoocfaaChecked
import Derived.Outline
import Derived.StillTailTactics
/-
  What the model's DocSame comes to.
-/
set_option linter.unusedVariables false
set_option linter.unusedSimpArgs false
namespace Go.Proofs.Ytlhdoifjhoocfaa.SpecS
open Go.RowKit

theorem ret_bool {a b : Bool} (h : a = b) : Ending.returned (.bool a) = .returned (.bool b) := by rw [h]

theorem sameD_no4 {o n : Int} {t : ByteArray} {k k' : F} (h : k.len ≠ k'.len) : sameD o n t k o n t k' = false := by rw [sameD_yes, F.same_len h]

/-- both parameters' Kids, as they lie in their variables -/
def Boxes (w wr : World) (a a' : Option Addr) (L cap cap' : Nat) : Prop := wr.cell? ⟨w.heap.size, 3, none⟩ = some (.slice a L cap) ∧ wr.cell? ⟨w.heap.size + 1, 3, none⟩ = some (.slice a' L cap') ∧ w.heap.size + 1 < wr.heap.size ∧ Below w.heap.size w wr

theorem Boxes.step {w wr w1 : World} {a a' : Option Addr} {L cap cap' : Nat} (h : Boxes w wr a a' L cap cap') (k : Below wr.heap.size wr w1) : Boxes w w1 a a' L cap cap' := by
  obtain ⟨h1, h2, h3, h4⟩ := h
  exact ⟨(k.cell (p := ⟨w.heap.size, 3, none⟩) (by simp; omega)).trans h1, (k.cell (p := ⟨w.heap.size + 1, 3, none⟩) h3).trans h2, Nat.lt_of_lt_of_le h3 k.size, h4.trans (k.mono h4.size)⟩

theorem Boxes.start (w : World) {T : TypeId} {o n o' n' : Int} {t t' : ByteArray} {a a' : Option Addr} {L cap cap' : Nat} : Boxes w ((w.alloc (.cells #[.int .i64 o, .int .i64 n, .string t, .slice a L cap] T)).alloc (.cells #[.int .i64 o', .int .i64 n', .string t', .slice a' L cap'] T)) a a' L cap cap' := by
  refine ⟨?_, ?_, by simp, ((Below.refl _ _).alloc (Nat.le_refl _) _).alloc (by simp) _⟩
  · rw [World.cell?_alloc_lt _ _ ⟨w.heap.size, 3, none⟩ (by simp), World.cell?_alloc_new]; rfl
  · have e : w.heap.size + 1 = (w.alloc (.cells #[.int .i64 o, .int .i64 n, .string t, .slice a L cap] T)).heap.size := by simp
    rw [e, World.cell?_alloc_new]; rfl

end Go.Proofs.Ytlhdoifjhoocfaa.SpecS

