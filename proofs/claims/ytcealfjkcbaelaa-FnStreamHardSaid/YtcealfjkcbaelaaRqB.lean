import Derived.Test.YtcealfjkcbaelaaRqC
import Derived.Test.YtcealfjkcbaelaaRnE
/-
  l4Run of the model.
-/
set_option linter.unusedVariables false
set_option linter.unusedSimpArgs false
namespace Go.Proofs.Ytcealfjkcbaelaa.Rq
open Go.RowKit Go.Shelf P1 Cnt CntC Flat Wid ChP Rn Bwd RnM
open LayN (cells2 cells2_len cells2_one)
open LayC (cells2_app)
theorem news_of (w : World) (cs : List Value) (T : TypeId) : ∀ j u, cs[j]? = some u → (w.alloc (.cells cs.toArray T)).cell? ((⟨w.heap.size, 0, none⟩ : Addr).add j) = some u := by
  intro j u hu
  rw [add_at, Nat.zero_add, World.cell?_alloc_new]
  simpa using hu
theorem below_row {w wr w1 : World} {B g : Nat} {ob : Obj} (hg : (wr.alloc ob).grownBy w1 (some g)) (hb : Below B w wr) (hB : B ≤ wr.heap.size) (hgB : B ≤ g) : Below B w w1 :=
  (hb.alloc hB ob).grown hg (by simp; omega) (fun k e => by cases e; exact hgB)
theorem below_row0 {w wr w1 : World} {g : Nat} (hg : wr.grownBy w1 (some g)) (hb : Below w.heap.size w wr) (hgB : w.heap.size ≤ g) : Below w.heap.size w w1 :=
  hb.grown hg hb.size (fun k e => by cases e; exact hgB)
theorem own_base {w : World} {B C n m : Nat} {T : TypeId} {v : Value} {xs : List Value} (h : w.ownsRow B T n v m xs) (hC : C ≤ B) : w.ownsRow C T n v m xs := by
  obtain ⟨h1, h2⟩ := h
  refine ⟨h1, ?_⟩
  rcases h2 with h2 | ⟨g, cap, cur, e, hB, rest⟩
  · exact .inl h2
  · exact .inr ⟨g, cap, cur, e, by omega, rest⟩

end Go.Proofs.Ytcealfjkcbaelaa.Rq

