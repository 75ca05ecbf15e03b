import Derived.Test.YtcealfjkcbaelaaRqC
import Derived.Test.YtcealfjkcbaelaaRnE
/-
  l4Run of the model.
-/
set_option linter.unusedVariables false
set_option linter.unusedSimpArgs false
namespace Go.Proofs.Ytcealfjkcbaelaa.Rq
open Go.RowKit Go.Shelf P1 Cnt CntC Flat Wid ChP Rn Bwd RnM
open LayN (cells2 cells2_len cells2_one)
open LayC (cells2_app)
theorem news_of (w : World) (cs : List Value) (T : TypeId) : ∀ j u, cs[j]? = some u → (w.alloc (.cells cs.toArray T)).cell? ((⟨w.heap.size, 0, none⟩ : Addr).add j) = some u := by
  intro j u hu
  rw [add_at, Nat.zero_add, World.cell?_alloc_new]
  simpa using hu
theorem below_row {w wr w1 : World} {B g : Nat} {ob : Obj} (hg : (wr.alloc ob).grownBy w1 (some g)) (hb : Below B w wr) (hB : B ≤ wr.heap.size) (hgB : B ≤ g) : Below B w w1 :=
  (hb.alloc hB ob).grown hg (by simp; omega) (fun k e => by cases e; exact hgB)
theorem below_row0 {w wr w1 : World} {g : Nat} (hg : wr.grownBy w1 (some g)) (hb : Below w.heap.size w wr) (hgB : w.heap.size ≤ g) : Below w.heap.size w w1 :=
  hb.grown hg hb.size (fun k e => by cases e; exact hgB)
end Go.Proofs.Ytcealfjkcbaelaa.Rq

