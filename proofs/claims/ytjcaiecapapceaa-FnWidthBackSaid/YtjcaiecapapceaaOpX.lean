import Derived.Test.YtjcaiecapapceaaLyX
import Derived.Test.YtjcaiecapapceaaSpV
/-
 What the open layout of a valid document comes to, of the program and of the model.
-/
set_option linter.unusedVariables false
set_option linter.unusedSimpArgs false
namespace Go.Proofs.Ytjcaiecapapceaa.OpenR
open Go.RowKit P1 LayL LayV LayM LayN LayC
def Eight (w : World) (b off : Nat) (o1 n1 : Int) (t1 : ByteArray) (a1 : Option Addr) (l1 c1 : Nat) (o2 n2 : Int) (t2 : ByteArray) (a2 : Option Addr) (l2 c2 : Nat) : Prop :=
 (w.cell? ⟨b, off, none⟩ = some (.int .i64 o1) ∧ w.cell? ⟨b, off + 1, none⟩ = some (.int .i64 n1) ∧ w.cell? ⟨b, off + 2, none⟩ = some (.string t1) ∧ w.cell? ⟨b, off + 3, none⟩ = some (.slice a1 l1 c1)) ∧
 (w.cell? ⟨b, off + 4, none⟩ = some (.int .i64 o2) ∧ w.cell? ⟨b, off + 4 + 1, none⟩ = some (.int .i64 n2) ∧ w.cell? ⟨b, off + 4 + 2, none⟩ = some (.string t2) ∧ w.cell? ⟨b, off + 4 + 3, none⟩ = some (.slice a2 l2 c2))
theorem boxed_one {w : World} {T : TypeId} (o n : Int) (t : ByteArray) (b off L cap : Nat) {o1 n1 : Int} {t1 : ByteArray} {a1 : Option Addr} {l1 c1 : Nat} (hb : b < w.heap.size)
  (h0 : w.cell? ⟨b, off, none⟩ = some (.int .i64 o1)) (h1 : w.cell? ⟨b, off + 1, none⟩ = some (.int .i64 n1)) (h2 : w.cell? ⟨b, off + 2, none⟩ = some (.string t1)) (h3 : w.cell? ⟨b, off + 3, none⟩ = some (.slice a1 l1 c1)) :
  ∃ W, w.alloc (.cells #[.int .i64 o, .int .i64 n, .string t, .slice (some ⟨b, off, none⟩) L cap] T) = W ∧ Below w.heap.size w W ∧ w.heap.size < W.heap.size ∧ b < W.heap.size ∧ W.cell? ⟨w.heap.size, 1, none⟩ = some (.int .i64 n) ∧ W.cell? ⟨w.heap.size, 3, none⟩ = some (.slice (some ⟨b, off, none⟩) L cap) ∧
   W.cell? ⟨b, off, none⟩ = some (.int .i64 o1) ∧ W.cell? ⟨b, off + 1, none⟩ = some (.int .i64 n1) ∧ W.cell? ⟨b, off + 2, none⟩ = some (.string t1) ∧ W.cell? ⟨b, off + 3, none⟩ = some (.slice a1 l1 c1) := by
 have hB : ∀ ob, Below w.heap.size w (w.alloc ob) := fun ob => (Below.refl _ _).alloc (Nat.le_refl _) _
 refine ⟨_, rfl, hB _, by simp, by simp; omega, by rw [World.cell?_alloc_new]; rfl, by rw [World.cell?_alloc_new]; rfl, ((hB _).cell (p := ⟨_, _, _⟩) hb).trans h0, ((hB _).cell (p := ⟨_, _, _⟩) hb).trans h1, ((hB _).cell (p := ⟨_, _, _⟩) hb).trans h2, ((hB _).cell (p := ⟨_, _, _⟩) hb).trans h3⟩
end Go.Proofs.Ytjcaiecapapceaa.OpenR
namespace Go.Proofs.Ytjcaiecapapceaa.OpenR
open Go.RowKit P1 LayL LayV LayM LayN LayC
end Go.Proofs.Ytjcaiecapapceaa.OpenR
namespace Go.Proofs.Ytjcaiecapapceaa.OpenR
open Go.RowKit P1 LayL LayV LayM LayN LayC
end Go.Proofs.Ytjcaiecapapceaa.OpenR
