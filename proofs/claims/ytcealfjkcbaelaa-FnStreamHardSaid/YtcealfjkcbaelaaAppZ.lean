import Derived.Test.YtcealfjkcbaelaaPl
import Derived.Deep.AppendLies
/-
  An append of no elements.
-/
set_option linter.unusedVariables false
set_option linter.unusedSimpArgs false
namespace Go.Proofs.Ytcealfjkcbaelaa.AppZ
open Go.RowKit

theorem run_append_zero {P : Program} (w : World) (t ty e : TypeId) (i : TypeInfo) (ht : P.underlying t = some (.slice e)) (hi : P.info? e = some i) (b : Option Addr) (n c : Nat) (hnc : n ≤ c) (y : Option Addr) (d : Nat) :
    (Builtin.append_ #[t, t] ty #[.slice b n c, .slice y 0 d]).run P w = .ok (.slice b n c) w := by
  have hl : ∀ a : Addr, (loadCells a 0).run P w = .ok #[] w := fun a => run_loadCells_list w a [] (fun j v h => by simp at h)
  cases b <;> cases y <;> simp [hl, Builtin.append_, run_underlying ht, sizeOf, typeInfo, hi, Builtin.lenOf, Builtin.firstCells, hnc, storeCells]
theorem wpList_append_zero {P : Program} {ops : Array Oper} {rest : List Oper} {op : Oper} {ac : Act} {Q : Exit → Act → World → Prop} {w : World} (hgd : op.guard = none) (s x : Operand) (t : TypeId)
    (ho : op.op = .call { callee := .builtin .append, args := #[s, x], argTypes := #[t, t] }) (e : TypeId) (i : TypeInfo) (ht : P.underlying t = some (.slice e)) (hi : P.info? e = some i)
    (b : Option Addr) (n c : Nat) (hnc : n ≤ c) (y : Option Addr) (d : Nat) (hs : ac.eval s = .slice b n c) (hx : ac.eval x = .slice y 0 d) (h : wpList P ops Q rest (ac.put op.dst (.slice b n c)) w) : wpList P ops Q (op :: rest) ac w := by
  refine wpList_plain hgd fun K hK => ?_
  unfold Oper.wp execOp
  simp only [ho, resolve, invoke, builtin, Sem.run_bind, Sem.run_pure, Result.andThen_ok, List.map_toArray, List.map_cons, List.map_nil, hs, hx, run_append_zero w t op.type e i ht hi b n c hnc y d]
  exact hK _ _ h

end Go.Proofs.Ytcealfjkcbaelaa.AppZ

