import Derived.Test.YtcealfjkcbaelaaRqC
import Derived.Test.YtcealfjkcbaelaaStA
/-
  The model's state of a stream in memory, and what each step owes.
-/
set_option linter.unusedVariables false
set_option linter.unusedSimpArgs false
namespace Go.Proofs.Ytcealfjkcbaelaa.Sq
open Go.RowKit Go.Shelf P1 Cnt CntC Flat Wid ChP Rn Bwd RnM Rq
open StM (NV)
open LayN (cells2 cells2_len cells2_one)
open LayC (cells2_app)

structure RN (w0 : World) (B sb : Nat) (its : List Int) (s : St) (g cap : Nat) (ag : Option Addr) (cg : Nat) (v6 : Value) (w : World) : Prop where
  box : w.heap[sb]? = some (.cells #[.slice (some ⟨g, 0, none⟩) (s.rows.length + 1) cap, .slice ag s.flags.length cg] 154 (0, 0))
  rows : w.ownsRow B 91 2 (.slice (some ⟨g, 0, none⟩) (s.rows.length + 1) cap) (s.rows.length + 1) (cells2 (s.rows ++ [(s.ind, s.txt)]))
  flags : w.ownsRow B 4 1 (.slice ag s.flags.length cg) s.flags.length (s.flags.map Value.bool)
  rest : StackG NV 1 w 3 B v6 its
  le : B ≤ sb

section
variable {w0 w w' : World} {B sb : Nat} {its : List Int} {s : St} {g cap : Nat} {ag : Option Addr} {cg : Nat} {v6 : Value}
theorem RN.grown (h : RN w0 B sb its s g cap ag cg v6 w) (k : w.grownBy w' none) : RN w0 B sb its s g cap ag cg v6 w' :=
  ⟨(k.block _ (Array.getElem?_eq_some_iff.1 h.box).1 (by simp)).trans h.box, h.rows.kept k (own_or (by simp)), h.flags.kept k (own_or (by simp)), h.rest.kept k (own_or (by simp)), h.le⟩
theorem RN.below (h : RN w0 B sb its s g cap ag cg v6 w) (k : Below w.heap.size w w') : RN w0 B sb its s g cap ag cg v6 w' := h.grown (BufQ.grown_below k)
theorem RN.lt (h : RN w0 B sb its s g cap ag cg v6 w) : sb < w.heap.size := (Array.getElem?_eq_some_iff.1 h.box).1
theorem RN.cells (h : RN w0 B sb its s g cap ag cg v6 w) : w.cell? ⟨sb, 0, none⟩ = some (.slice (some ⟨g, 0, none⟩) (s.rows.length + 1) cap) ∧ w.cell? ⟨sb, 1, none⟩ = some (.slice ag s.flags.length cg) ∧ w.frozen? ⟨sb, 0, none⟩ = false ∧ w.frozen? ⟨sb, 1, none⟩ = false := by
  refine ⟨?_, ?_, BufQ.heap_frozen h.box 0, BufQ.heap_frozen h.box 1⟩ <;> (simp only [World.cell?, h.box]; rfl)
/-- a row of the state grows: what the other two are told by -/
theorem keep_row {T T' : TypeId} {n m : Nat} {v : Value} {xs : List Value} {row : Option Nat} (h : w.ownsRow B T n v m xs) (hg : w.grownBy w' row) (hrow : ∀ q, row = some q → ∃ c, w.heap[q]? = some (.cells c T' (0, 0))) (hT : T ≠ T') : w'.ownsRow B T n v m xs :=
  h.kept hg (own_or fun q e => by obtain ⟨c, hc⟩ := hrow q e; exact RnM.own_ne h hc hT)
theorem keep_box {T : TypeId} {c : Array Value} {row : Option Nat} {b : Nat} (h : w.heap[b]? = some (.cells c T (0, 0))) {T' : TypeId} (hg : w.grownBy w' row) (hrow : ∀ q, row = some q → ∃ c, w.heap[q]? = some (.cells c T' (0, 0))) (hT : T ≠ T') : w'.heap[b]? = some (.cells c T (0, 0)) :=
  (hg.block _ (Array.getElem?_eq_some_iff.1 h).1 (fun e => by
    obtain ⟨c', hc⟩ := hrow b e.symm
    rw [h] at hc; injection hc with hc; injection hc with _ hc; exact hT hc)).trans h
theorem keep_stack {α : Type} {CV : α → List Value → Prop} {T T' : TypeId} {n : Nat} {v : Value} {st : List α} {row : Option Nat} (h : StackG CV n w T B v st) (hg : w.grownBy w' row) (hrow : ∀ q, row = some q → ∃ c, w.heap[q]? = some (.cells c T' (0, 0))) (hT : T ≠ T') : StackG CV n w' T B v st := by
  obtain ⟨xs, x1, x2⟩ := h
  exact ⟨xs, keep_row x1 hg hrow hT, x2⟩
theorem set_row {T : TypeId} {n m b : Nat} {v : Value} {xs : List Value} {c : Array Value} {T' : TypeId} (h : w.ownsRow B T n v m xs) (hb : w.heap[b]? = some (.cells c T' (0, 0))) (hT : T ≠ T') (o : Nat) (u : Value) : (w.setCell ⟨b, o, none⟩ u).ownsRow B T n v m xs :=
  h.kept (grown_set w b o u) (own_or (fun k e => by cases e; exact RnM.own_ne h hb hT))
theorem set_stack {α : Type} {CV : α → List Value → Prop} {T : TypeId} {n b : Nat} {v : Value} {st : List α} {c : Array Value} {T' : TypeId} (h : StackG CV n w T B v st) (hb : w.heap[b]? = some (.cells c T' (0, 0))) (hT : T ≠ T') (o : Nat) (u : Value) : StackG CV n (w.setCell ⟨b, o, none⟩ u) T B v st := by
  obtain ⟨xs, x1, x2⟩ := h
  exact ⟨xs, set_row x1 hb hT o u, x2⟩
theorem un1 : 91 ≠ 4 := by decide
theorem un2 : 91 ≠ 3 := by decide
theorem un3 : 4 ≠ 3 := by decide
theorem un4 : 91 ≠ 154 := by decide
theorem un5 : 4 ≠ 154 := by decide
theorem un6 : 3 ≠ 154 := by decide

/-- a text is put behind the last line -/
theorem RN.put (h : RN w0 B sb its s g cap ag cg v6 w) {Y : ByteArray} (ho : w'.ownsRow B 91 2 (.slice (some ⟨g, 0, none⟩) (s.rows.length + 1) cap) (s.rows.length + 1) (cells2 (s.rows ++ [(s.ind, s.txt ++ Y)]))) (hg : w.grownBy w' (some g)) : RN w0 B sb its (s.put Y) g cap ag cg v6 w' := by
  have hrow : ∀ q, some g = some q → ∃ c, w.heap[q]? = some (.cells c 91 (0, 0)) := fun q e => by cases e; exact own_block h.rows _ rfl
  exact ⟨keep_box h.box hg hrow (Ne.symm un4), ho, keep_row h.flags hg hrow (Ne.symm un1), keep_stack h.rest hg hrow (Ne.symm un2), h.le⟩
/-- the state's variable is stored to with what it holds -/
theorem RN.same (h : RN w0 B sb its s g cap ag cg v6 w) : RN w0 B sb its s g cap ag cg v6 ((w.setCell ⟨sb, 0, none⟩ (.slice (some ⟨g, 0, none⟩) (s.rows.length + 1) cap)).setCell ⟨sb, 1, none⟩ (.slice ag s.flags.length cg)) := by
  have hb1 := heap_set h.box 0 (.slice (some ⟨g, 0, none⟩) (s.rows.length + 1) cap)
  have hb2 := heap_set hb1 1 (.slice ag s.flags.length cg)
  refine ⟨hb2, set_row (set_row h.rows h.box un4 0 _) hb1 un4 1 _, set_row (set_row h.flags h.box un5 0 _) hb1 un5 1 _, set_stack (set_stack h.rest h.box un6 0 _) hb1 un6 1 _, h.le⟩
/-- a line begins -/
theorem RN.line (h : RN w0 B sb its s g cap ag cg v6 w) {o : Obj} {i : Int} {g' cap' : Nat} {w3 : World} (hg : (w.alloc o).grownBy w3 (Value.slice (some ⟨g, 0, none⟩) (s.rows.length + 1) cap).ownBlock) (ho : w3.ownsRow B 91 2 (.slice (some ⟨g', 0, none⟩) (s.rows.length + 1 + 1) cap') (s.rows.length + 1 + 1) (cells2 (s.rows ++ [(s.ind, s.txt)]) ++ [.int .i64 i, .string ⟨#[]⟩])) :
    RN w0 B sb its (s.line i) g' cap' ag cg v6 (w3.setCell ⟨sb, 0, none⟩ (.slice (some ⟨g', 0, none⟩) (s.rows.length + 1 + 1) cap')) := by
  have h1 := h.below ((Below.refl w.heap.size w).alloc (Nat.le_refl _) o)
  have hrow := own_block h1.rows
  have hb := keep_box h1.box hg hrow (Ne.symm un4)
  have hl : (s.line i).rows.length = s.rows.length + 1 := by simp [St.line]
  have hc : cells2 ((s.line i).rows ++ [((s.line i).ind, (s.line i).txt)]) = cells2 (s.rows ++ [(s.ind, s.txt)]) ++ [.int .i64 i, .string ⟨#[]⟩] := by
    show cells2 ((s.rows ++ [(s.ind, s.txt)]) ++ [(i, ⟨#[]⟩)]) = _
    rw [cells2_app]; rfl
  refine ⟨?_, ?_, set_row (keep_row h1.flags hg hrow (Ne.symm un1)) hb un5 0 _, set_stack (keep_stack h1.rest hg hrow (Ne.symm un2)) hb un6 0 _, h.le⟩
  · rw [heap_set hb, hl]; rfl
  · rw [hl, hc]; exact set_row ho hb un4 0 _
/-- items are pushed -/
theorem RN.push (h : RN w0 B sb its s g cap ag cg v6 w) {o : Obj} {w3 : World} (hg : (w.alloc o).grownBy w3 v6.ownBlock) {v' : Value} {its' : List Int} (ho : StackG NV 1 w3 3 B v' its') : RN w0 B sb its' s g cap ag cg v' w3 := by
  have h1 := h.below ((Below.refl w.heap.size w).alloc (Nat.le_refl _) o)
  obtain ⟨xs, x1, x2⟩ := h1.rest
  have hrow := own_block x1
  exact ⟨keep_box h1.box hg hrow (Ne.symm un6), keep_row h1.rows hg hrow un2, keep_row h1.flags hg hrow un3, ho, h.le⟩
end
end Go.Proofs.Ytcealfjkcbaelaa.Sq

