import Derived.Test.YtcealfjkcbaelaaLsP
import Derived.RangeFuncBox
import Derived.RangeFuncLeaves
import Derived.RangeFuncCalls
import Derived.Shelf.Abstract
import Derived.OwnWalkIn
import Derived.TacticsInMore
import Derived.LoopNIn
import Derived.LoopIn
/-
  A range over a function, where what is handed over lies in memory that the iterator has made; nothing here speaks of the program. 'Gives': what such an iterator owes; 'rangeFunc_gives': what its caller gets of it.
-/
set_option linter.unusedVariables false
set_option linter.unusedSimpArgs false
namespace Go.Proofs.Ytcealfjkcbaelaa.Rf
open Go.RowKit Go.Shelf

/-- one block from lo on, which holds no cells, has turned -/
def Turn (lo : Nat) (A B : World) : Prop := ∃ (l : Nat) (o o' : Obj), lo ≤ l ∧ A.heap[l]? = some o ∧ o.isCells = false ∧ B = A.putObj l o'

section
variable {lo : Nat} {A B : World}
theorem Turn.size (h : Turn lo A B) : B.heap.size = A.heap.size := by obtain ⟨l, o, o', _, _, _, rfl⟩ := h; exact World.putObj_size
theorem Turn.below (h : Turn lo A B) {n : Nat} (hn : n ≤ lo) : Below n A B := by
  obtain ⟨l, o, o', h1, h2, _, rfl⟩ := h
  have := (Array.getElem?_eq_some_iff.1 h2).1
  exact (Below.refl n A).grown (grownBy_putObj' A l o') (by omega) (fun k e => by cases e; omega)
theorem Turn.cells (h : Turn lo A B) {c x : Nat} {v : Value} (hc : A.cell? ⟨c, x, none⟩ = some v) : B.heap[c]? = A.heap[c]? := by
  obtain ⟨l, o, o', h1, h2, h3, rfl⟩ := h
  refine World.putObj_heap_other fun e => ?_
  obtain ⟨o2, h4, h5⟩ := cells_of_cell hc
  simp only at h4
  subst e
  rw [h2] at h4; cases h4; rw [h3] at h5; cases h5
theorem Turn.block (h : Turn lo A B) {c : Nat} {o : Obj} (hc : A.heap[c]? = some o) (ho : o.isCells = true) : B.heap[c]? = A.heap[c]? := by
  obtain ⟨l, o1, o', h1, h2, h3, rfl⟩ := h
  refine World.putObj_heap_other fun e => ?_
  subst e
  rw [h2] at hc; cases hc; rw [h3] at ho; cases ho
theorem Turn.cell (h : Turn lo A B) {c x : Nat} {v : Value} (hc : A.cell? ⟨c, x, none⟩ = some v) : B.cell? ⟨c, x, none⟩ = some v := (World.cell?_of_block (w := A) (h.cells hc)).trans hc
theorem Turn.boxed (h : Turn lo A B) {c : Nat} {t : TypeId} {v : Value} (hc : Boxed A c t v) : Boxed B c t v := (h.block hc rfl).trans hc
end

theorem each_cells {w : World} : ∀ {vs : List Value} {ls : List Ls.Lay} {fs : List Nat}, Ls.Each w vs ls fs → ∀ c ∈ fs, ∃ x v, w.cell? ⟨c, x, none⟩ = some v
  | [], [], _, h => by rw [show _ = [] from h]; simp
  | v :: vs, l :: ls, fs, h => by
    obtain ⟨a, cap, f1, f2, rfl, hc, h1, h2, rfl⟩ := h
    intro c hc
    rcases List.mem_append.1 hc with hc | hc
    · rcases h1 with ⟨_, rfl⟩ | ⟨b, off, ha, hl, rfl, hr⟩
      · cases hc
      · rw [List.mem_singleton] at hc; subst hc
        exact ⟨_, _, (hr 0 (List.length_pos_iff.2 hl)).1⟩
    · exact each_cells h2 c hc
  | [], _ :: _, _, h => h.elim
  | _ :: _, [], _, h => h.elim
theorem Turn.acc {lo : Nat} {A B : World} (h : Turn lo A B) {T : TypeId} {m : Nat} {v : Value} {ls : List Ls.Lay} {f : List Nat} (hs : Ls.Acc A T m v ls f) : Ls.Acc B T m v ls f := by
  obtain ⟨l, o, o', h1, h2, h3, rfl⟩ := h
  refine hs.kept (grownBy_putObj' A l o') fun q hq => ?_
  cases hq
  obtain ⟨vs, k1, k2, k3, k4, k5⟩ := hs
  refine ⟨fun e => ?_, fun hm => ?_⟩
  · rcases k1.2 with ⟨rfl, _⟩ | ⟨g, cap, cur, rfl, _, hg, _⟩
    · cases e
    · simp only [Value.ownBlock, Option.some.injEq] at e
      subst e
      rw [h2] at hg; cases hg; cases h3
  · obtain ⟨x, u, hc⟩ := each_cells k2 _ hm
    obtain ⟨o2, h4, h5⟩ := cells_of_cell hc
    simp only at h4
    rw [h2] at h4; cases h4; rw [h3] at h5; cases h5

/-- the blocks of which Pc speaks are as they were -/
def Keep (Pc : Nat → Prop) (A B : World) : Prop := A.heap.size ≤ B.heap.size ∧ ∀ c, Pc c → c < A.heap.size → B.heap[c]? = A.heap[c]?
theorem Keep.refl (Pc : Nat → Prop) (A : World) : Keep Pc A A := ⟨Nat.le_refl _, fun _ _ _ => rfl⟩
theorem Keep.trans {Pc : Nat → Prop} {A B C : World} (h : Keep Pc A B) (k : Keep Pc B C) : Keep Pc A C := ⟨Nat.le_trans h.1 k.1, fun c hc hl => (k.2 c hc (Nat.lt_of_lt_of_le hl h.1)).trans (h.2 c hc hl)⟩
theorem Keep.of_ext {Pc : Nat → Prop} {A B : World} (h : Ext A B) : Keep Pc A B := ⟨h.size, fun c _ hl => h.block c hl⟩
theorem Keep.of_below {Pc : Nat → Prop} {n : Nat} {A B : World} (h : Below n A B) (hP : ∀ c, Pc c → c < n) : Keep Pc A B := ⟨h.size, fun c hc _ => h.block c (hP c hc)⟩
theorem Keep.setCell {Pc : Nat → Prop} (A : World) (p : Addr) (v : Value) (hP : ¬ Pc p.block) : Keep Pc A (A.setCell p v) := ⟨by simp [World.setCell], fun c hc _ => Below.heap_setCell _ _ _ c (fun e => hP (e ▸ hc))⟩
theorem Keep.turn {Pc : Nat → Prop} {lo : Nat} {A B : World} (h : Turn lo A B) (hP : ∀ c, Pc c → c < lo) : Keep Pc A B := Keep.of_below (h.below (Nat.le_refl _)) hP

/-- An iterator that hands over N values, one after the other: of the k-th X says what it is and where it lies (X k args A W: A the world when the round before had ended, W the world when it is handed over). A round may turn what it likes but the blocks of which Pc speaks. -/
def Gives (P : Program) (gf : FuncId) (lb : Array Value) (X : Nat → Array Value → World → World → Prop) (Pc : Nat → Prop) (N : Nat) (w0 : World) : Prop :=
  ∀ (m l : Nat) (J : Nat → World → Prop) (Jx : World → Prop) (W : World), 1 ≤ m → Ext w0 W →
    (∀ k args A W1, k < N → J k A → Ext A W1 → X k args A W1 → YieldAt Fence.wide (m - 1) P l args W1 fun e W' => (e = .returned (.bool true) ∧ J (k + 1) W' ∧ Keep Pc W1 W') ∨ (e = .returned (.bool false) ∧ Jx W')) →
    J 0 W →
    CallsIn Fence.wide m P gf (#[.func (.yield l) #[] #[]] ++ lb) W fun e W' => (∃ v, e = .returned v) ∧ ((∃ A, J N A ∧ Ext A W') ∨ (∃ A, Jx A ∧ Ext A W'))

/-- how the body of a round may be left -/
def post (Pc : Nat → Prop) (I : Nat → World → Prop) (Ix : Code → World → Prop) (k : Nat) (W : World) : Exit → Act → World → Prop
  | .normal, _, W' => KeepsOthers W W' ∧ Keep Pc W W' ∧ I (k + 1) W'
  | .ret, _, W' => KeepsOthers W W' ∧ Ix .ret W'
  | .exit id, _, W' => KeepsOthers W W' ∧ Ix (.exit id) W'
  | .goto t, _, W' => KeepsOthers W W' ∧ Ix (.goto t) W'
  | .panic _, _, _ => False
  | .outgrown, _, _ => False

theorem keeps_of_ext {A B : World} (h : Ext A B) : KeepsOthers A B := ⟨h.size, fun k o hk _ => (h.block k (Array.getElem?_eq_some_iff.1 hk).1).trans hk⟩

section
variable {P : Program}
theorem turn_put {lo : Nat} {W : World} {l : Nat} {o : Obj} (o' : Obj) (hl : W.heap[l]? = some o) (ho : o.isCells = false) (h : lo ≤ l) : Turn lo W (W.putObj l o') := ⟨l, o, o', h, hl, ho, rfl⟩

theorem append {w : World} {ops : Array Oper} {rest : List Oper} {o : Oper} {a : Act} {Q : Exit → Act → World → Prop} (hgd : o.guard = none) (s x : Operand) (t : TypeId)
    (hop : o.op = Op.call { callee := Callee.builtin Builtin.append, args := #[s, x], argTypes := #[t, t] }) {sv xv v' : Value} {w' : World} (hs : a.eval s = sv) (hx : a.eval x = xv)
    (hrun : (Builtin.append_ #[t, t] o.type #[sv, xv]).run P w = .ok v' w') (h : wpList P ops Q rest (a.put o.dst v') w') : wpList P ops Q (o :: rest) a w := by
  refine wpList_plain hgd fun K hK => ?_
  unfold Oper.wp execOp
  simp only [hop, resolve, invoke, builtin, Sem.run_bind, Sem.run_pure, Result.andThen_ok, List.map_toArray, List.map_cons, List.map_nil, hs, hx, hrun]
  exact hK _ _ h

/-- a function that holds such a statement: its contract from its body -/
theorem calls_marks {f : FuncId} {fn : Func} {c : Code} {args : Array Value} {w : World} {R : Ending → World → Prop} (hf : P.funcs[f]? = some fn) (hb : fn.body = some c)
    (h : c.wp P (bodyPostM Fence.wide 7 P fn R) { tmps := args ++ Array.replicate (fn.ntmps - args.size) undef, defers := [] } w) : Calls P f args w R :=
  callsIn_wide.1 (callsIn_of_wp_marks (n := 7) hf hb trivial (wpIn_wide.2 h) rfl)
/-- .. where it returns: the mark is struck -/
theorem leave_mark {fn : Func} {R : Ending → World → Prop} {tmps : Array Value} {D : Nat} {W : World} {v : Value} (hD : W.heap[D]? = some (.deferred (some [])))
    (hr : (results fn tmps).run P (W.putObj D (.deferred none)) = .ok v (W.putObj D (.deferred none))) (hR : R (.returned v) (W.putObj D (.deferred none))) :
    LeavesInM Fence.wide 7 P fn tmps R [{ target := .collected D, args := #[] }] .returning W :=
  ⟨by simp, .inl ⟨D, _, rfl, run_takeDeferred hD, ⟨_, hr, hR⟩⟩⟩
/-- .. where it has come to no such statement -/
theorem leave_none {fn : Func} {R : Ending → World → Prop} {tmps : Array Value} {W : World} {v : Value} (hr : (results fn tmps).run P W = .ok v W) (hR : R (.returned v) W) :
    LeavesInM Fence.wide 7 P fn tmps R [] .returning W := ⟨_, hr, hR⟩
end

end Go.Proofs.Ytcealfjkcbaelaa.Rf

