import Derived.Test.YthlgjnmfblkegaaPl
import Derived.Test.YthlgjnmfblkegaaChecked
import Derived.Outline
/-
  What the law's own helper that copies an argument into the program's type comes to.
-/
set_option linter.unusedVariables false
set_option linter.unusedSimpArgs false
namespace Go.Proofs.Ythlgjnmfblkegaa.To
open Go.RowKit

/-- the cells of n documents at their zero -/
def zeros (n : Nat) : Array Value := madeCells #[.int .i64 0, .int .i64 0, .string ⟨#[]⟩, .slice none 0 0] n
theorem size_zeros (n : Nat) : (zeros n).size = n := size_madeCells _ _

theorem info : (Try.prog.info? 79).map (fun i => (i.zero, i.size, i.bytes)) = some (some (.agg #[.int .i64 0, .int .i64 0, .string ⟨#[]⟩, .slice none 0 0]), 4, 56) := by kernel_rfl

theorem run_mk (L : Nat) (hL : L ≤ 1048576) (w : World) : (Instr.makeSlice 77 (.int .i64 (L : Int)) (.int .i64 (L : Int))).run Try.prog w = .ok (.slice (some ⟨w.heap.size, 0, none⟩) L L) (w.alloc (.cells (zeros (L * 4)) 79)) := by
  obtain ⟨i0, hi, hz0, hz1, hz2⟩ := info_parts info
  have := run_make (P := Try.prog) w 77 79 i0 _ Try.underlying77 hi hz0 .i64 .i64 (L : Int) (L : Int) (by omega) (by omega) (by rw [hz2]; omega) (by omega)
  rw [hz1] at this
  simpa [zeros, Value.cells] using this

theorem bcell {W w1 : World} (hb : Below W.heap.size W w1) : (∀ b o, b < W.heap.size → w1.cell? ⟨b, o, none⟩ = W.cell? ⟨b, o, none⟩) ∧ (∀ b o, b < W.heap.size → w1.frozen? ⟨b, o, none⟩ = W.frozen? ⟨b, o, none⟩) :=
  ⟨fun b o h => hb.cell (p := ⟨b, o, none⟩) h, fun b o h => hb.frozen (p := ⟨b, o, none⟩) h⟩

/-- what toDoc and toDocS come to -/
def DocOut (w : World) (o n : Int) (t : ByteArray) (k : F) (e : Ending) (w' : World) : Prop := ∃ (a : Option Addr) (fs : List Nat), e = .returned (.agg #[.int .i64 o, .int .i64 n, .string t, .slice a k.len k.len]) ∧ SubAt w' a k fs ∧ Fresh w.heap.size w' fs ∧ Below w.heap.size w w'
def RowOut (w : World) (f : F) (e : Ending) (w' : World) : Prop := ∃ (a : Option Addr) (fs : List Nat), e = .returned (.slice a f.len f.len) ∧ SubAt w' a f fs ∧ Fresh w.heap.size w' fs ∧ Below w.heap.size w w'

theorem size_le_app {p : F} {o n : Int} {t : ByteArray} {k r : F} : k.size ≤ (p.app (.cons o n t k r)).size := by
  rw [F.size_app]; simp only [F.size]; omega

theorem size4 : (Try.prog.info? 79).map (·.size) = some 4 := by kernel_rfl
theorem doc_one (o n : Int) (t : ByteArray) (a : Option Addr) (l c : Nat) : (#[Value.int .i64 o, .int .i64 n, .string t, .slice a l c]).all (·.oneCell') = true := by simp [Value.oneCell']

theorem store_doc {ops : Array Oper} {rest : List Oper} {op : Oper} {a : Act} {w : World} {Q : Exit → Act → World → Prop} (hgd : op.guard = none) (x y : Operand) (ho : op.op = .store 79 x y)
    (b of : Nat) (o n : Int) (t : ByteArray) (ad : Option Addr) (l c : Nat) (hx : a.eval x = .pointer (some ⟨b, of, none⟩)) (hy : a.eval y = .agg #[.int .i64 o, .int .i64 n, .string t, .slice ad l c]) (ht : w.there b of 4)
    (h : wpList Try.prog ops Q rest (a.put op.dst undef) (w.setCells b of [.int .i64 o, .int .i64 n, .string t, .slice ad l c])) : wpList Try.prog ops Q (op :: rest) a w :=
  wpList_store_mid hgd 79 x y ho b of #[.int .i64 o, .int .i64 n, .string t, .slice ad l c] hx hy ht size4 (doc_one _ _ _ _ _ _) h

/-- what holds at the head of a round of toDocS: the first documents lie in the new row -/
def Mid (w : World) (f : F) (L : Nat) (k : Nat) (wr : World) : Prop := ∃ (p g : F) (fs : List Nat), f = p.app g ∧ p.len = k ∧ RowAt wr p w.heap.size 0 fs ∧ Fresh (w.heap.size + 1) wr fs ∧ wr.there w.heap.size 0 (L * 4) ∧ (w.heap.size < wr.heap.size ∧ ∀ o, wr.frozen? ⟨w.heap.size, o, none⟩ = false) ∧ Below w.heap.size w wr

end Go.Proofs.Ythlgjnmfblkegaa.To

