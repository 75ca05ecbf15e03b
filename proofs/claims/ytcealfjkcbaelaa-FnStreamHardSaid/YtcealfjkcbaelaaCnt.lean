import Derived.Test.YtcealfjkcbaelaaPl
import Derived.Test.YtcealfjkcbaelaaNodeS
import Derived.Test.YtcealfjkcbaelaaKeysAt
import Derived.Deep.RegionHeld3
import Derived.Deep.QuietTactic
import Derived.Deep.RegionWith
import Derived.Shelf.Abstract
import Derived.BigQuiet
import Derived.OwnWalk
import Derived.Outline
/-
  What impl.addCapped and (*impl.nodeCounter).count come to.
-/
set_option linter.unusedVariables false
set_option linter.unusedSimpArgs false
namespace Go.Proofs.Ytcealfjkcbaelaa.Cnt
open Go.RowKit
/-- what a call of count finds -/
structure In (w0 w : World) (bc bm be : Nat) (g : Nat) (lb : Array Value) (l : List (LK × Value × Nat)) : Prop where
  c0 : w.cell? ⟨bc, 0, none⟩ = some (.func (.func g) #[] lb)
  c1 : w.cell? ⟨bc, 1, none⟩ = some (.map (some bm))
  c2 : w.cell? ⟨bc, 2, none⟩ = some (.map (some be))
  bc_lt : bc < w.heap.size
  hm : PMap w lkV bm l
  he : PMap w lkV be []
  keys : ∀ e ∈ l, ∃ f, Lie w0 e.1 f
  ext : Ext w0 w

theorem In.to {w0 w w' : World} {bc bm be g : Nat} {lb : Array Value} {l : List (LK × Value × Nat)} (h : In w0 w bc bm be g lb l) (k : Ext w w') : In w0 w' bc bm be g lb l :=
  ⟨(k.cell h.bc_lt).trans h.c0, (k.cell h.bc_lt).trans h.c1, (k.cell h.bc_lt).trans h.c2, Nat.lt_of_lt_of_le h.bc_lt k.size, h.hm.of_block (k.block _ h.hm.lt), h.he.of_block (k.block _ h.he.lt), h.keys, h.ext.trans k⟩

theorem plain_ext {w0 w : World} {b : Nat} (h : Plain w0 b) (hb : b < w0.heap.size) (k : Ext w0 w) : Plain w b := by
  obtain ⟨⟨cs, T, fr, h1⟩, h2⟩ := h
  have e := k.block b hb
  exact ⟨⟨cs, T, fr, e.trans h1⟩, fun o => (World.frozen?_of_block (w := w0) e).trans (h2 o)⟩

theorem In.plain {w0 w : World} {bc bm be g : Nat} {lb : Array Value} {l : List (LK × Value × Nat)} (h : In w0 w bc bm be g lb l) : ∀ e ∈ l, Plain w e.1.1 := fun e he => by
  obtain ⟨f, hf⟩ := h.keys e he
  exact plain_ext hf.plain hf.lt h.ext

end Go.Proofs.Ytcealfjkcbaelaa.Cnt

