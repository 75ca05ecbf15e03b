import Derived.Test.YthlgjnmfblkegaaCstB
import Derived.Test.YthlgjnmfblkegaaChecked
import Derived.ProofKit
import Derived.Lib.SmallJoins
import Derived.Deep.Slices
/-
  The laws' helpers on costs, and a cost that comes in as an argument.
-/
set_option linter.unusedVariables false
set_option linter.unusedSimpArgs false
namespace Go.Proofs.Ythlgjnmfblkegaa.Cst
open Go.RowKit Go.ChangeShapes Go.WideShapes Go.ChangeAt P1 TextV LayV LayW

set_option maxRecDepth 100000 in
set_option maxHeartbeats 1600000 in
theorem eqCost (a b : Int) (w : World) : Calls Try.prog 27 #[.agg #[.int .i64 a, .int .i64 b], .agg #[.int .i64 a, .int .i64 b]] w fun e w' => e = .returned (.bool true) ∧ Below w.heap.size w w' := by
  have H0 := Lib.hid (show ∀ o1 o2, Ext w ((w.alloc o1).alloc o2) from fun o1 o2 => ((Ext.refl w).alloc o1).alloc o2)
  go_enter Try.func27, Try.ntmps27
  go_wp2_with fail
  go_ret
  exact ⟨rfl, H0.out _ _⟩

theorem pair_one {W : World} {b : Nat} {u0 u1 u : Value} (h0 : W.cell? ⟨b, 0, none⟩ = some u0) (h1 : W.cell? ⟨b, 1, none⟩ = some u1) :
    (W.setCell ⟨b, 0, none⟩ u).cell? ⟨b, 0, none⟩ = some u ∧ (W.setCell ⟨b, 0, none⟩ u).cell? ⟨b, 1, none⟩ = some u1 :=
  ⟨World.cell?_setCell_same _ _ _ h0, by rw [World.cell?_setCell_other _ _ _ _ (by simp)]; exact h1⟩

section
variable {H : Type} {enc : TypeId × Value → H} {w : World} {base : Nat} {spare : Nat → Bool} {held : Bool}
theorem cells2c : Try.prog.cellsOf 47 = 2 := by kernel_rfl
theorem i64_of {x : Int} (h : (Lit.int .i64 x).wf = true) : -9223372036854775808 ≤ x ∧ x ≤ 9223372036854775807 := by
  have h1 : IntKind.i64.min = -9223372036854775808 := rfl
  have h3 : IntKind.i64.max = 9223372036854775807 := rfl
  simp only [Lit.wf, Bool.and_eq_true, decide_eq_true_eq] at h
  omega

set_option maxRecDepth 100000 in
theorem open_cost {r : Reach} {b0 : Nat} {v : Value} {d : DataW H} {p : List MemPlace} (hv : Value.okWide Try.prog w r b0 47 v) (h : DataW.Trod enc Try.prog w base spare held 47 v d p) :
    ∃ a b : Int, v = .agg #[.int .i64 a, .int .i64 b] ∧ (-9223372036854775808 ≤ a ∧ a ≤ 9223372036854775807) ∧ (-9223372036854775808 ≤ b ∧ b ≤ 9223372036854775807) := by
  obtain ⟨cs, rfl, hsz⟩ := okWide_struct Try.underlying47 hv
  obtain ⟨fuel, hf⟩ := h
  obtain ⟨xs, n, hn, _, hlen, hxs, hf⟩ := DataW.trod_struct Try.underlying47 hf
  simp only [Value.cells] at hlen hf
  rw [cells2c] at hlen
  obtain ⟨l, hl⟩ : ∃ l, cs.toList = l := ⟨_, rfl⟩
  rw [hl] at hlen hf
  match l, hlen, hl with
  | [c0, c1], _, hl =>
  match xs, hxs with
  | [x0, x1], _ =>
  have e3 : Try.prog.cellsOf 3 = 1 := by kernel_rfl
  have h0 : DataW.trod enc Try.prog w base spare held n 3 (([c0, c1].drop 0).take (Try.prog.cellsOf 3)) = some x0 := hf 0 _ rfl
  rw [e3] at h0
  have h0 : DataW.trod enc Try.prog w base spare held n 3 [c0] = some x0 := h0
  have h1 : DataW.trod enc Try.prog w base spare held n 3 (([c0, c1].drop 1).take (Try.prog.cellsOf 3)) = some x1 := hf 1 _ rfl
  rw [e3] at h1
  have h1 : DataW.trod enc Try.prog w base spare held n 3 [c1] = some x1 := h1
  obtain ⟨a, q0, _, w0⟩ := DataW.trod_int Try.underlying3 h0
  obtain ⟨b, q1, _, w1⟩ := DataW.trod_int Try.underlying3 h1
  simp only [List.cons.injEq, and_true] at q0 q1
  subst q0 q1
  exact ⟨a, b, by rw [← Array.toArray_toList (xs := cs), hl], i64_of w0, i64_of w1⟩
end

set_option maxRecDepth 100000 in
set_option maxHeartbeats 1600000 in
theorem toCost (a b : Int) (w : World) : Calls Try.prog 28 #[.agg #[.int .i64 a, .int .i64 b]] w fun e w' => e = .returned (.agg #[.int .i64 a, .int .i64 b]) ∧ Below w.heap.size w w' := by
  go_enter Try.func28, Try.ntmps28
  go_wp2_with fail
  have hc : ∀ (o1 o3 : Obj), (((w.alloc o1).alloc (.cells #[.int .i64 a, .int .i64 b] 34)).alloc o3).cell? ⟨w.heap.size + 1, 0, none⟩ = some (.int .i64 a) ∧ (((w.alloc o1).alloc (.cells #[.int .i64 a, .int .i64 b] 34)).alloc o3).cell? ⟨w.heap.size + 1, 1, none⟩ = some (.int .i64 b) := by
    intro o1 o3
    rw [show w.heap.size + 1 = (w.alloc o1).heap.size by simp]
    refine ⟨?_, ?_⟩ <;> (rw [World.cell?_alloc_old _ _ _ (by simp), World.cell?_alloc_new]; rfl)
  obtain ⟨c0, c1⟩ := hc (.cells #[.int .i64 a, .int .i64 b] 47) (.cells #[.int .i64 a, .int .i64 b] 34)
  refine bodyPost_ret (v := .agg #[.int .i64 a, .int .i64 b]) (by simp [results, Try.results28, go_sem, c0, c1]) rfl ?_
  exact ⟨rfl, (((Ext.refl w).alloc _).alloc _).alloc _⟩

end Go.Proofs.Ythlgjnmfblkegaa.Cst

