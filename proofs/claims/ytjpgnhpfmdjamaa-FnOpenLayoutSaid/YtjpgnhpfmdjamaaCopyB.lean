/-
  What is known of documents that are copied, apart from the program's own copying.
-/
import Derived.Test.YtjpgnhpfmdjamaaGrow
import Derived.Test.YtjpgnhpfmdjamaaValid
import Derived.Test.YtjpgnhpfmdjamaaTo
import Derived.Test.YtjpgnhpfmdjamaaChecked
import Derived.OwnWalk
import Derived.Outline
import Derived.Deep.RegionHeld3
set_option linter.unusedVariables false
set_option linter.unusedSimpArgs false
namespace Go.Proofs.Ytjpgnhpfmdjamaa.Copy
open Go.RowKit P1

/-- what a document that is new comes to -/
def NewOut (w : World) (o n : Int) (t : ByteArray) (k : F) (e : Ending) (w' : World) : Prop := ∃ (a : Option Addr) (cap : Nat) (fs : List Nat), e = .returned (.agg #[.int .i64 o, .int .i64 n, .string t, .slice a k.len cap]) ∧ k.len ≤ cap ∧ SubAt w' a k fs ∧ Fresh w.heap.size w' fs ∧ Below w.heap.size w w'

theorem there_at {w : World} {b : Nat} (h : w.there b 0 4) : (∃ u0 u1 u2 u3, w.cell? ⟨b, 0, none⟩ = some u0 ∧ w.cell? ⟨b, 1, none⟩ = some u1 ∧ w.cell? ⟨b, 2, none⟩ = some u2 ∧ w.cell? ⟨b, 3, none⟩ = some u3) ∧
    w.frozen? ⟨b, 0, none⟩ = false ∧ w.frozen? ⟨b, 1, none⟩ = false ∧ w.frozen? ⟨b, 2, none⟩ = false ∧ w.frozen? ⟨b, 3, none⟩ = false := by
  have h0 := h 0 (by omega)
  have h1 := h 1 (by omega)
  have h2 := h 2 (by omega)
  have h3 := h 3 (by omega)
  simp only [Nat.zero_add] at h0 h1 h2 h3
  obtain ⟨u0, e0⟩ := Option.isSome_iff_exists.1 h0.1
  obtain ⟨u1, e1⟩ := Option.isSome_iff_exists.1 h1.1
  obtain ⟨u2, e2⟩ := Option.isSome_iff_exists.1 h2.1
  obtain ⟨u3, e3⟩ := Option.isSome_iff_exists.1 h3.1
  exact ⟨⟨u0, u1, u2, u3, e0, e1, e2, e3⟩, h0.2, h1.2, h2.2, h3.2⟩

theorem cell_new (w : World) (C : Array Value) (T : TypeId) (j : Nat) (u : Value) (h : C[j]? = some u) : (w.alloc (.cells C T)).cell? ⟨w.heap.size, j, none⟩ = some u := by rw [World.cell?_alloc_new]; exact h


end Go.Proofs.Ytjpgnhpfmdjamaa.Copy
