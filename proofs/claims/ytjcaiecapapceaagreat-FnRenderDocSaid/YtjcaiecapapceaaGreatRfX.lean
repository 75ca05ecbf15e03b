import Derived.Test.YtjcaiecapapceaaGreatShX
import Derived.RangeFuncBox
import Derived.RangeFuncLeaves
import Derived.RangeFuncCalls
import Derived.OwnWalkIn
import Derived.TacticsInMore
import Derived.LoopNIn
import Derived.LoopIn
import Derived.Shelf.RegionOpen
/-
 A range over a function, where what is handed over lies in memory that the iterator has made; nothing here speaks of the program. 'Gives': what such an iterator owes; 'rangeFunc_gives': what its caller gets of it.
-/
set_option linter.unusedVariables false
set_option linter.unusedSimpArgs false
namespace Go.Proofs.YtjcaiecapapceaaGreat.Rf
open Go.RowKit Go.Shelf
def Turn (lo : Nat) (A B : World) : Prop := ∃ (l : Nat) (o o' : Obj), lo ≤ l ∧ A.heap[l]? = some o ∧ o.isCells = false ∧ B = A.putObj l o'
section
variable {lo : Nat} {A B : World}
theorem Turn.size (h : Turn lo A B) : B.heap.size = A.heap.size := by obtain ⟨l, o, o', _, _, _, rfl⟩ := h; exact World.putObj_size
theorem Turn.below (h : Turn lo A B) {n : Nat} (hn : n ≤ lo) : Below n A B := by
 obtain ⟨l, o, o', h1, h2, _, rfl⟩ := h
 have := (Array.getElem?_eq_some_iff.1 h2).1
 exact (Below.refl n A).grown (grownBy_putObj' A l o') (by omega) (fun k e => by cases e; omega)
theorem Turn.cells (h : Turn lo A B) {c x : Nat} {v : Value} (hc : A.cell? ⟨c, x, none⟩ = some v) : B.heap[c]? = A.heap[c]? := by
 obtain ⟨l, o, o', h1, h2, h3, rfl⟩ := h
 refine World.putObj_heap_other fun e => ?_
 obtain ⟨o2, h4, h5⟩ := cells_of_cell hc
 simp only at h4
 subst e
 rw [h2] at h4; cases h4; rw [h3] at h5; cases h5
theorem Turn.block (h : Turn lo A B) {c : Nat} {o : Obj} (hc : A.heap[c]? = some o) (ho : o.isCells = true) : B.heap[c]? = A.heap[c]? := by
 obtain ⟨l, o1, o', h1, h2, h3, rfl⟩ := h
 refine World.putObj_heap_other fun e => ?_
 subst e
 rw [h2] at hc; cases hc; rw [h3] at ho; cases ho
theorem Turn.cell (h : Turn lo A B) {c x : Nat} {v : Value} (hc : A.cell? ⟨c, x, none⟩ = some v) : B.cell? ⟨c, x, none⟩ = some v := (World.cell?_of_block (w := A) (h.cells hc)).trans hc
theorem Turn.boxed (h : Turn lo A B) {c : Nat} {t : TypeId} {v : Value} (hc : Boxed A c t v) : Boxed B c t v := (h.block hc rfl).trans hc
theorem Turn.lay (h : Turn lo A B) {a : Option Addr} {l : List (Int × ByteArray)} {fs : List Nat} (hs : LaySub A a l fs) : LaySub B a l fs := by
 rcases hs with hs | ⟨b, off, ha, hl, rfl, hr⟩
 ·exact .inl hs
 ·refine .inr ⟨b, off, ha, hl, rfl, hr.congr fun o _ _ => World.cell?_of_block (w := A) (h.cells (hr 0 (List.length_pos_iff.2 hl)).1)⟩
theorem Turn.layFresh (h : Turn lo A B) {m : Nat} {a : Option Addr} {l : List (Int × ByteArray)} {fs : List Nat} (hs : LaySub A a l fs) (hf : Fresh m A fs) : Fresh m B fs := by
 refine hf.alike (Nat.le_of_eq h.size.symm) fun c hc o => World.frozen?_of_block (w := A) ?_
 rcases hs with ⟨_, rfl⟩ | ⟨b, off, ha, hl, rfl, hr⟩
 ·cases hc
 ·rw [List.mem_singleton] at hc; subst hc
  exact h.cells (hr 0 (List.length_pos_iff.2 hl)).1
end
theorem each_cells {w : World} : ∀ {vs : List Value} {ls : List Ls.Lay} {fs : List Nat}, Ls.Each w vs ls fs → ∀ c ∈ fs, ∃ x v, w.cell? ⟨c, x, none⟩ = some v
 | [], [], _, h => by rw [show _ = [] from h]; simp
 | v :: vs, l :: ls, fs, h => by
   obtain ⟨a, cap, f1, f2, rfl, hc, h1, h2, rfl⟩ := h
   intro c hc
   rcases List.mem_append.1 hc with hc | hc
   ·rcases h1 with ⟨_, rfl⟩ | ⟨b, off, ha, hl, rfl, hr⟩
    ·cases hc
    ·rw [List.mem_singleton] at hc; subst hc
     exact ⟨_, _, (hr 0 (List.length_pos_iff.2 hl)).1⟩
   ·exact each_cells h2 c hc
 | [], _ :: _, _, h => h.elim
 | _ :: _, [], _, h => h.elim
theorem Turn.acc {lo : Nat} {A B : World} (h : Turn lo A B) {T : TypeId} {m : Nat} {v : Value} {ls : List Ls.Lay} {f : List Nat} (hs : Ls.Acc A T m v ls f) : Ls.Acc B T m v ls f := by
 obtain ⟨l, o, o', h1, h2, h3, rfl⟩ := h
 refine hs.kept (grownBy_putObj' A l o') fun q hq => ?_
 cases hq
 obtain ⟨vs, k1, k2, k3, k4, k5⟩ := hs
 refine ⟨fun e => ?_, fun hm => ?_⟩
 ·rcases k1.2 with ⟨rfl, _⟩ | ⟨g, cap, cur, rfl, _, hg, _⟩
  ·cases e
  ·simp only [Value.ownBlock, Option.some.injEq] at e
   subst e
   rw [h2] at hg; cases hg; cases h3
 ·obtain ⟨x, u, hc⟩ := each_cells k2 _ hm
  obtain ⟨o2, h4, h5⟩ := cells_of_cell hc
  simp only at h4
  rw [h2] at h4; cases h4; rw [h3] at h5; cases h5
theorem llsub_cells {w : World} {a : Option Addr} {ls : List Ls.Lay} {fs : List Nat} (h : Ls.LLSub w a ls fs) : ∀ c ∈ fs, ∃ x v, w.cell? ⟨c, x, none⟩ = some v := by
 rcases h with ⟨_, rfl⟩ | ⟨b, off, vs, f, ha, hl, rfl, hr, he⟩
 ·simp
 ·intro c hc
  rcases List.mem_cons.1 hc with rfl | hc
  ·have hv : 0 < vs.length := by rw [he.len]; exact List.length_pos_iff.2 hl
   exact ⟨_, _, hr 0 vs[0] (List.getElem?_eq_getElem hv)⟩
  ·exact each_cells he c hc
theorem Turn.llsub {lo : Nat} {A B : World} (h : Turn lo A B) {a : Option Addr} {ls : List Ls.Lay} {fs : List Nat} (hs : Ls.LLSub A a ls fs) : Ls.LLSub B a ls fs :=
 hs.congr fun c hc o => by obtain ⟨x, v, hx⟩ := llsub_cells hs c hc; exact World.cell?_of_block (w := A) (h.cells hx)
theorem Turn.llfresh {lo : Nat} {A B : World} (h : Turn lo A B) {m : Nat} {a : Option Addr} {ls : List Ls.Lay} {fs : List Nat} (hs : Ls.LLSub A a ls fs) (hf : Fresh m A fs) : Fresh m B fs :=
 hf.alike (Nat.le_of_eq h.size.symm) fun c hc o => by obtain ⟨x, v, hx⟩ := llsub_cells hs c hc; exact World.frozen?_of_block (w := A) (h.cells hx)
def Keep (Pc : Nat → Prop) (A B : World) : Prop := A.heap.size ≤ B.heap.size ∧ ∀ c, Pc c → c < A.heap.size → B.heap[c]? = A.heap[c]?
theorem Keep.refl (Pc : Nat → Prop) (A : World) : Keep Pc A A := ⟨Nat.le_refl _, fun _ _ _ => rfl⟩
theorem Keep.trans {Pc : Nat → Prop} {A B C : World} (h : Keep Pc A B) (k : Keep Pc B C) : Keep Pc A C := ⟨Nat.le_trans h.1 k.1, fun c hc hl => (k.2 c hc (Nat.lt_of_lt_of_le hl h.1)).trans (h.2 c hc hl)⟩
theorem Keep.of_ext {Pc : Nat → Prop} {A B : World} (h : Ext A B) : Keep Pc A B := ⟨h.size, fun c _ hl => h.block c hl⟩
theorem Keep.of_below {Pc : Nat → Prop} {n : Nat} {A B : World} (h : Below n A B) (hP : ∀ c, Pc c → c < n) : Keep Pc A B := ⟨h.size, fun c hc _ => h.block c (hP c hc)⟩
theorem Keep.setCell {Pc : Nat → Prop} (A : World) (p : Addr) (v : Value) (hP : ¬ Pc p.block) : Keep Pc A (A.setCell p v) := ⟨by simp [World.setCell], fun c hc _ => Below.heap_setCell _ _ _ c (fun e => hP (e ▸ hc))⟩
theorem Keep.turn {Pc : Nat → Prop} {lo : Nat} {A B : World} (h : Turn lo A B) (hP : ∀ c, Pc c → c < lo) : Keep Pc A B := Keep.of_below (h.below (Nat.le_refl _)) hP
def Gives (P : Program) (gf : FuncId) (lb : Array Value) (X : Nat → Array Value → World → World → Prop) (Pc : Nat → Prop) (N : Nat) (w0 : World) : Prop :=
 ∀ (m l : Nat) (J : Nat → World → Prop) (Jx : World → Prop) (W : World), 1 ≤ m → Ext w0 W →
  (∀ k args A W1, k < N → J k A → Ext A W1 → X k args A W1 → YieldAt Fence.wide (m - 1) P l args W1 fun e W' => (e = .returned (.bool true) ∧ J (k + 1) W' ∧ Keep Pc W1 W') ∨ (e = .returned (.bool false) ∧ Jx W')) →
  J 0 W →
  CallsIn Fence.wide m P gf (#[.func (.yield l) #[] #[]] ++ lb) W fun e W' => (∃ v, e = .returned v) ∧ ((∃ A, J N A ∧ Ext A W') ∨ (∃ A, Jx A ∧ Ext A W'))
def post (Pc : Nat → Prop) (I : Nat → World → Prop) (Ix : Code → World → Prop) (k : Nat) (W : World) : Exit → Act → World → Prop
 | .normal, _, W' => KeepsOthers W W' ∧ Keep Pc W W' ∧ I (k + 1) W'
 | .ret, _, W' => KeepsOthers W W' ∧ Ix .ret W'
 | .exit id, _, W' => KeepsOthers W W' ∧ Ix (.exit id) W'
 | .goto t, _, W' => KeepsOthers W W' ∧ Ix (.goto t) W'
 | .panic _, _, _ => False
 | .outgrown, _, _ => False
theorem keeps_of_ext {A B : World} (h : Ext A B) : KeepsOthers A B := ⟨h.size, fun k o hk _ => (h.block k (Array.getElem?_eq_some_iff.1 hk).1).trans hk⟩
section
variable {P : Program}
theorem turn_put {lo : Nat} {W : World} {l : Nat} {o : Obj} (o' : Obj) (hl : W.heap[l]? = some o) (ho : o.isCells = false) (h : lo ≤ l) : Turn lo W (W.putObj l o') := ⟨l, o, o', h, hl, ho, rfl⟩
theorem rangeFunc_gives {g : Operand} {ps : Array Tmp} {assign body : Code} {Q : Exit → Act → World → Prop} {a : Act} {w : World} {n : Nat}
  {gf : Nat} {lb : Array Value} (hg : a.eval g = .func (.func gf) #[] lb) (eg : Enters P gf) (hn : 3 ≤ n)
  {X : Nat → Array Value → World → World → Prop} {Pc : Nat → Prop} {N : Nat} (hseq : Gives P gf lb X Pc N w) (hPc : ∀ c, Pc c → c < w.heap.size) (hps : ∀ k args A W, X k args A W → args.size = ps.size)
  (I : Nat → World → Prop) (Ix : Code → World → Prop) (hI : ∀ k A B, I k A → w.heap.size ≤ A.heap.size → Turn w.heap.size A B → I k B) (hIe : ∀ A B, I 0 A → Ext A B → I 0 B) (hIx : ∀ c A B, Ix c A → w.heap.size ≤ A.heap.size → Turn w.heap.size A B → Ix c B) (h0 : I 0 w) (a₁ : Array Value → Act)
  (hassign : ∀ (l k : Nat) (args : Array Value) (A W : World) (K : Act → World → Prop), X k args A W → K (a₁ args) W →
   assign.wpIn (Fence.wide.inRound l) (n - 1 - 1) P (Exit.then K (fun _ _ _ => False)) { tmps := (ps.zip args).foldl (fun t (p, v) => t.setIfInBounds p v) a.tmps, defers := [] } W)
  (hbody : ∀ (l k : Nat) (args : Array Value) (A W0 W : World), k < N → w.heap.size + 2 ≤ A.heap.size → I k A → Ext A W0 → X k args A W0 → Turn w.heap.size W0 W → body.wpIn (Fence.wide.inRound l) (n - 1 - 1) P (post Pc I Ix k W) (a₁ args) W)
  (hdone : ∀ (D : Nat) (A W : World), w.heap.size ≤ D → I N A → (∃ B, Ext A B ∧ Turn w.heap.size B W) → W.heap[D]? = some (.deferred (some [])) → Q .normal { a with defers := { target := .collected D, args := #[] } :: a.defers } W)
  (hstop : ∀ (D : Nat) (c : Code) (A W : World), w.heap.size ≤ D → Ix c A → (∃ B, Ext A B ∧ Turn w.heap.size B W) → W.heap[D]? = some (.deferred (some [])) → c.wpIn Fence.wide n P Q { a with defers := { target := .collected D, args := #[] } :: a.defers } W) :
  (Code.rangeFunc g ps assign body).wpIn Fence.wide n P Q a w := by
 refine wpIn_rangeFunc fun fn hfn => ?_
 obtain ⟨rec, hrec⟩ : ∃ rec : LoopState → Option Code → Loop, rec = fun st pe => { state := st, pending := pe, fn, tmps := a.tmps, params := ps, assign, body, defers := w.heap.size } := ⟨_, rfl⟩
 obtain ⟨W1, hW1⟩ : ∃ W1, (w.alloc (.deferred (some []))).alloc (.loop (rec .ready none)) = W1 := ⟨_, rfl⟩
 have e1 : Ext w W1 := by rw [← hW1]; exact ((Ext.refl w).alloc _).alloc _
 have s1 : W1.heap.size = w.heap.size + 2 := by rw [← hW1]; simp
 have hL1 : W1.heap[w.heap.size + 1]? = some (.loop (rec .ready none)) := by
  rw [← hW1]; have := World.alloc_heap_new (w.alloc (.deferred (some []))) (.loop (rec .ready none)); rwa [World.size_alloc] at this
 have hD1 : W1.heap[w.heap.size]? = some (.deferred (some [])) := by
  rw [← hW1]; exact (Below.heap_alloc _ _ _ (by simp)).trans (World.alloc_heap_new w _)
 refine ⟨w.heap.size + 1, [{ target := .collected w.heap.size, args := #[] }], W1, { target := .fn (.func gf) lb, args := #[.func (.yield (w.heap.size + 1)) #[] #[]] }, W1, gf,
  #[.func (.yield (w.heap.size + 1)) #[] #[]] ++ lb, W1, ?_, ?_, fun _ _ => trivial, ?_, fun _ => by omega, ?_⟩
 ·rw [← hW1, hrec]; exact run_enterLoop_outer _ _ _ _ _
 ·simp only [resolve, hg]; simp [go_sem]
 ·simp [invoke, go_sem]; exact eg _ _
 have hJ := hseq (n - 1) (w.heap.size + 1)
  (fun k W => I k W ∧ w.heap.size + 2 ≤ W.heap.size ∧ W.heap[w.heap.size + 1]? = some (.loop (rec .ready none)) ∧ W.heap[w.heap.size]? = some (.deferred (some [])))
  (fun W => ∃ c, Ix c W ∧ w.heap.size + 2 ≤ W.heap.size ∧ W.heap[w.heap.size + 1]? = some (.loop (rec .done (some c))) ∧ W.heap[w.heap.size]? = some (.deferred (some [])))
  W1 (by omega) e1 ?_ ⟨hIe _ _ h0 e1, by omega, hL1, hD1⟩
 ·refine hJ.mono ?_
  rintro e W2 ⟨⟨v, rfl⟩, ⟨A, ⟨hi, hz, hl, hd⟩, hx⟩ | ⟨A, ⟨c, hi, hz, hl, hd⟩, hx⟩⟩
  ·have hl2 := (hx.block _ (by omega)).trans hl
   have hd2 := (hx.block _ (by omega)).trans hd
   refine ⟨none, _, by have := run_endLoop (P := P) hl2 (by rw [hrec]; simp); rw [hrec] at this; exact this, hdone _ A _ (Nat.le_refl _) hi ⟨W2, hx, turn_put _ hl2 rfl (by omega)⟩ ((World.putObj_heap_other (by omega)).trans hd2)⟩
  ·have hl2 := (hx.block _ (by omega)).trans hl
   have hd2 := (hx.block _ (by omega)).trans hd
   refine ⟨some c, _, by have := run_endLoop (P := P) hl2 (by rw [hrec]; simp); rw [hrec] at this; exact this, hstop _ c A _ (Nat.le_refl _) hi ⟨W2, hx, turn_put _ hl2 rfl (by omega)⟩ ((World.putObj_heap_other (by omega)).trans hd2)⟩
 ·rintro k args A W hk ⟨hi, hz, hl, hd⟩ hx hX
  have hl2 := (hx.block _ (by omega)).trans hl
  have hd2 := (hx.block _ (by omega)).trans hd
  have hy := run_yield (P := P) (args := args) hl2 (by rw [hrec]; exact hps _ _ _ _ hX)
  rw [hrec] at hy
  have hzW := hx.size
  refine ⟨fn, _, assign, body, hy, roundIn_of_wpIn trivial (hassign _ k args A W _ hX ⟨_, run_beginRound hl2 (by rw [hrec]), ?_⟩)⟩
  obtain ⟨W2, hW2⟩ : ∃ W2, W.putObj (w.heap.size + 1) (.loop { rec .ready none with state := .busy }) = W2 := ⟨_, rfl⟩
  have t2 : Turn w.heap.size W W2 := by rw [← hW2]; exact turn_put _ hl2 rfl (by omega)
  have l2 : W2.heap[w.heap.size + 1]? = some (.loop { rec .ready none with state := .busy }) := by rw [← hW2]; exact World.putObj_heap_same (by omega)
  have d2 : W2.heap[w.heap.size]? = some (.deferred (some [])) := by rw [← hW2]; exact (World.putObj_heap_other (by omega)).trans hd2
  have z2 := t2.size
  rw [hW2]
  refine wpIn_mono (hbody _ k args A W W2 hk hz hi hx hX t2) ?_
  have fin : ∀ (jump : Option Code) (W3 : World), KeepsOthers W2 W3 → ∃ W4, (Instr.endRound (w.heap.size + 1) jump).run P W3 = .ok (.bool jump.isNone) W4 ∧ Turn w.heap.size W3 W4 ∧ W4.heap[w.heap.size + 1]? = some (.loop (rec (if jump.isNone then .ready else .done) jump)) ∧ W4.heap[w.heap.size]? = some (.deferred (some [])) ∧ w.heap.size + 2 ≤ W4.heap.size := fun jump W3 hk3 => by
   have l3 := hk3.same _ _ l2 rfl
   have d3 := hk3.same _ _ d2 rfl
   have z3 := hk3.size
   have := run_endRound (P := P) jump l3
   rw [hrec] at this ⊢
   rw [hrec] at l3
   exact ⟨_, this, turn_put _ l3 rfl (by omega), World.putObj_heap_same (by omega), (World.putObj_heap_other (by omega)).trans d3, by rw [World.putObj_size]; omega⟩
  rintro e a3 W3 hp
  cases e with
  | normal =>
    obtain ⟨k3, p3, i3⟩ := hp
    obtain ⟨W4, hr, t4, l4, d4, z4⟩ := fin none W3 k3
    exact ⟨_, _, hr, .inl ⟨rfl, ⟨hI _ _ _ i3 (by have := k3.size; omega) t4, z4, l4, d4⟩, (Keep.turn t2 hPc).trans (p3.trans (Keep.turn t4 hPc))⟩⟩
  | ret =>
    obtain ⟨k3, i3⟩ := hp
    obtain ⟨W4, hr, t4, l4, d4, z4⟩ := fin (some .ret) W3 k3
    exact ⟨_, _, hr, .inr ⟨rfl, _, hIx _ _ _ i3 (by have := k3.size; omega) t4, z4, l4, d4⟩⟩
  | exit id =>
    obtain ⟨k3, i3⟩ := hp
    obtain ⟨W4, hr, t4, l4, d4, z4⟩ := fin (some (.exit id)) W3 k3
    exact ⟨_, _, hr, .inr ⟨rfl, _, hIx _ _ _ i3 (by have := k3.size; omega) t4, z4, l4, d4⟩⟩
  | goto t =>
    obtain ⟨k3, i3⟩ := hp
    obtain ⟨W4, hr, t4, l4, d4, z4⟩ := fin (some (.goto t)) W3 k3
    exact ⟨_, _, hr, .inr ⟨rfl, _, hIx _ _ _ i3 (by have := k3.size; omega) t4, z4, l4, d4⟩⟩
  | panic ch => exact hp.elim
  | outgrown => exact hp.elim
theorem boxed_append {W W1 w' : World} {B : Nat} {T E : TypeId} {v v' : Value} {ls : List Ls.Lay} {f f' : List Nat} {ls' : List Ls.Lay} {tmp : Obj} (hB : Boxed W B T v) (hA : Ls.Acc W E (B + 1) v ls f) (hW1 : W1 = W.alloc tmp)
  (hA' : Ls.Acc w' E (B + 1) v' ls' f') (hg : W1.grownBy w' v.ownBlock) :
  Boxed w' B T v ∧ Boxed (w'.setCell ⟨B, 0, none⟩ v') B T v' ∧ Ls.Acc (w'.setCell ⟨B, 0, none⟩ v') E (B + 1) v' ls' f' ∧ KeepsOthers W (w'.setCell ⟨B, 0, none⟩ v') ∧ Below B W (w'.setCell ⟨B, 0, none⟩ v') := by
 subst hW1
 have hlt := hB.lt
 have h1 : Boxed w' B T v := (hB.alloc tmp).kept hg (fun e => by have := (hA.own_lt _ e.symm).1; omega)
 refine ⟨h1, h1.set v', hA'.kept (grownBy_setCell' w' B v') (fun q hq => ?_), ?_, ?_⟩
 ·cases hq
  exact ⟨fun e => by have := (hA'.own_lt _ e).1; omega, fun hm => by have := hA'.ge _ hm; omega⟩
 ·refine ((KeepsOthers.alloc W tmp).trans (KeepsOthers.of_grownBy hg fun j o ej hj => ?_)).trans (KeepsOthers.setCell _ _ _)
  obtain ⟨cur, hc⟩ := hA.own_cells j ej
  have hj2 := (hA.own_lt _ ej).2
  rw [Below.heap_alloc _ _ _ hj2, hc] at hj
  cases hj; rfl
 ·refine ((((Below.refl B W).alloc (by omega) tmp).grown hg (by simp; omega) fun k e => ?_)).setCell (p := ⟨B, 0, none⟩) (Nat.le_refl _) v'
  have := (hA.own_lt _ e).1; omega
theorem appendIn {F : Fence} {n : Nat} {w : World} {ops : Array Oper} {rest : List Oper} {o : Oper} {a : Act} {Q : Exit → Act → World → Prop} (hgd : o.guard = none) (s x : Operand) (t : TypeId)
  (hop : o.op = Op.call { callee := Callee.builtin Builtin.append, args := #[s, x], argTypes := #[t, t] }) {sv xv v' : Value} {w' : World} (hs : a.eval s = sv) (hx : a.eval x = xv)
  (hrun : (Builtin.append_ #[t, t] o.type #[sv, xv]).run P w = .ok v' w') (h : wpListIn F n P ops Q rest (a.put o.dst v') w') : wpListIn F n P ops Q (o :: rest) a w := by
 refine wpListIn_plain hgd fun K hK => ?_
 unfold Oper.wpIn
 refine ⟨by simp [Oper.about, hop, resolve, Target.leads, Sem.run_pure], ?_⟩
 rw [Oper.semAt_plain F _ _ (by rw [hop]; intro c hc; cases hc)]
 simp [execOp, hop, resolve, invoke, builtin, hs, hx, hrun, Result.andThen]
 exact hK _ _ h
theorem calls_marks {f : FuncId} {fn : Func} {c : Code} {args : Array Value} {w : World} {R : Ending → World → Prop} (hf : P.funcs[f]? = some fn) (hb : fn.body = some c)
  (h : c.wp P (bodyPostM Fence.wide 7 P fn R) { tmps := args ++ Array.replicate (fn.ntmps - args.size) undef, defers := [] } w) : Calls P f args w R :=
 callsIn_wide.1 (callsIn_of_wp_marks (n := 7) hf hb trivial (wpIn_wide.2 h) rfl)
theorem leave_mark {fn : Func} {R : Ending → World → Prop} {tmps : Array Value} {D : Nat} {W : World} {v : Value} (hD : W.heap[D]? = some (.deferred (some [])))
  (hr : (results fn tmps).run P (W.putObj D (.deferred none)) = .ok v (W.putObj D (.deferred none))) (hR : R (.returned v) (W.putObj D (.deferred none))) :
  LeavesInM Fence.wide 7 P fn tmps R [{ target := .collected D, args := #[] }] .returning W :=
 ⟨by simp, .inl ⟨D, _, rfl, run_takeDeferred hD, ⟨_, hr, hR⟩⟩⟩
theorem leave_none {fn : Func} {R : Ending → World → Prop} {tmps : Array Value} {W : World} {v : Value} (hr : (results fn tmps).run P W = .ok v W) (hR : R (.returned v) W) :
  LeavesInM Fence.wide 7 P fn tmps R [] .returning W := ⟨_, hr, hR⟩
end
end Go.Proofs.YtjcaiecapapceaaGreat.Rf
namespace Go.Proofs.YtjcaiecapapceaaGreat.Rf
open Go.RowKit Go.Shelf
section
variable {P : Program}
theorem rangeFunc_gives2 {g : Operand} {ps : Array Tmp} {assign body : Code} {Q : Exit → Act → World → Prop} {a : Act} {w : World} {n : Nat}
  {gf : Nat} {lb : Array Value} (hg : a.eval g = .func (.func gf) #[] lb) (eg : Enters P gf) (hn : 3 ≤ n)
  {X : Nat → Array Value → World → World → Prop} {Pc : Nat → Prop} {N : Nat} (hseq : Gives P gf lb X Pc N w) (hPc : ∀ c, Pc c → c < w.heap.size) (hps : ∀ k args A W, X k args A W → args.size = ps.size)
  (I : Nat → World → Prop) (Ix : Code → World → Prop) (hI : ∀ k A B, I k A → w.heap.size ≤ A.heap.size → Turn w.heap.size A B → I k B) (hIe : ∀ A B, I 0 A → Ext A B → I 0 B) (hIx : ∀ c A B, Ix c A → w.heap.size ≤ A.heap.size → Turn w.heap.size A B → Ix c B) (h0 : I 0 w) (a₁ : Array Value → World → Act) (nw : Array Value → World → World) (hnw : ∀ args W, Ext W (nw args W))
  (hassign : ∀ (l k : Nat) (args : Array Value) (A W : World) (K : Act → World → Prop), X k args A W → K (a₁ args W) (nw args W) →
   assign.wpIn (Fence.wide.inRound l) (n - 1 - 1) P (Exit.then K (fun _ _ _ => False)) { tmps := (ps.zip args).foldl (fun t (p, v) => t.setIfInBounds p v) a.tmps, defers := [] } W)
  (hbody : ∀ (l k : Nat) (args : Array Value) (A W0 W : World), k < N → w.heap.size + 2 ≤ A.heap.size → I k A → Ext A W0 → X k args A W0 → Turn w.heap.size (nw args W0) W → body.wpIn (Fence.wide.inRound l) (n - 1 - 1) P (post Pc I Ix k W) (a₁ args W0) W)
  (hdone : ∀ (D : Nat) (A W : World), w.heap.size ≤ D → I N A → (∃ B, Ext A B ∧ Turn w.heap.size B W) → W.heap[D]? = some (.deferred (some [])) → Q .normal { a with defers := { target := .collected D, args := #[] } :: a.defers } W)
  (hstop : ∀ (D : Nat) (c : Code) (A W : World), w.heap.size ≤ D → Ix c A → (∃ B, Ext A B ∧ Turn w.heap.size B W) → W.heap[D]? = some (.deferred (some [])) → c.wpIn Fence.wide n P Q { a with defers := { target := .collected D, args := #[] } :: a.defers } W) :
  (Code.rangeFunc g ps assign body).wpIn Fence.wide n P Q a w := by
 refine wpIn_rangeFunc fun fn hfn => ?_
 obtain ⟨rec, hrec⟩ : ∃ rec : LoopState → Option Code → Loop, rec = fun st pe => { state := st, pending := pe, fn, tmps := a.tmps, params := ps, assign, body, defers := w.heap.size } := ⟨_, rfl⟩
 obtain ⟨W1, hW1⟩ : ∃ W1, (w.alloc (.deferred (some []))).alloc (.loop (rec .ready none)) = W1 := ⟨_, rfl⟩
 have e1 : Ext w W1 := by rw [← hW1]; exact ((Ext.refl w).alloc _).alloc _
 have s1 : W1.heap.size = w.heap.size + 2 := by rw [← hW1]; simp
 have hL1 : W1.heap[w.heap.size + 1]? = some (.loop (rec .ready none)) := by
  rw [← hW1]; have := World.alloc_heap_new (w.alloc (.deferred (some []))) (.loop (rec .ready none)); rwa [World.size_alloc] at this
 have hD1 : W1.heap[w.heap.size]? = some (.deferred (some [])) := by
  rw [← hW1]; exact (Below.heap_alloc _ _ _ (by simp)).trans (World.alloc_heap_new w _)
 refine ⟨w.heap.size + 1, [{ target := .collected w.heap.size, args := #[] }], W1, { target := .fn (.func gf) lb, args := #[.func (.yield (w.heap.size + 1)) #[] #[]] }, W1, gf,
  #[.func (.yield (w.heap.size + 1)) #[] #[]] ++ lb, W1, ?_, ?_, fun _ _ => trivial, ?_, fun _ => by omega, ?_⟩
 ·rw [← hW1, hrec]; exact run_enterLoop_outer _ _ _ _ _
 ·simp only [resolve, hg]; simp [go_sem]
 ·simp [invoke, go_sem]; exact eg _ _
 have hJ := hseq (n - 1) (w.heap.size + 1)
  (fun k W => I k W ∧ w.heap.size + 2 ≤ W.heap.size ∧ W.heap[w.heap.size + 1]? = some (.loop (rec .ready none)) ∧ W.heap[w.heap.size]? = some (.deferred (some [])))
  (fun W => ∃ c, Ix c W ∧ w.heap.size + 2 ≤ W.heap.size ∧ W.heap[w.heap.size + 1]? = some (.loop (rec .done (some c))) ∧ W.heap[w.heap.size]? = some (.deferred (some [])))
  W1 (by omega) e1 ?_ ⟨hIe _ _ h0 e1, by omega, hL1, hD1⟩
 ·refine hJ.mono ?_
  rintro e W2 ⟨⟨v, rfl⟩, ⟨A, ⟨hi, hz, hl, hd⟩, hx⟩ | ⟨A, ⟨c, hi, hz, hl, hd⟩, hx⟩⟩
  ·have hl2 := (hx.block _ (by omega)).trans hl
   have hd2 := (hx.block _ (by omega)).trans hd
   refine ⟨none, _, by have := run_endLoop (P := P) hl2 (by rw [hrec]; simp); rw [hrec] at this; exact this, hdone _ A _ (Nat.le_refl _) hi ⟨W2, hx, turn_put _ hl2 rfl (by omega)⟩ ((World.putObj_heap_other (by omega)).trans hd2)⟩
  ·have hl2 := (hx.block _ (by omega)).trans hl
   have hd2 := (hx.block _ (by omega)).trans hd
   refine ⟨some c, _, by have := run_endLoop (P := P) hl2 (by rw [hrec]; simp); rw [hrec] at this; exact this, hstop _ c A _ (Nat.le_refl _) hi ⟨W2, hx, turn_put _ hl2 rfl (by omega)⟩ ((World.putObj_heap_other (by omega)).trans hd2)⟩
 ·rintro k args A W hk ⟨hi, hz, hl, hd⟩ hx hX
  have hl2 := (hx.block _ (by omega)).trans hl
  have hd2 := (hx.block _ (by omega)).trans hd
  have hy := run_yield (P := P) (args := args) hl2 (by rw [hrec]; exact hps _ _ _ _ hX)
  rw [hrec] at hy
  have hzW := hx.size
  have hE := hnw args W
  have hl2' := (hE.block _ (by omega)).trans hl2
  have hd2' := (hE.block _ (by omega)).trans hd2
  have hzE := hE.size
  refine ⟨fn, _, assign, body, hy, roundIn_of_wpIn trivial (hassign _ k args A W _ hX ⟨_, run_beginRound hl2' (by rw [hrec]), ?_⟩)⟩
  obtain ⟨W2, hW2⟩ : ∃ W2, (nw args W).putObj (w.heap.size + 1) (.loop { rec .ready none with state := .busy }) = W2 := ⟨_, rfl⟩
  have t2 : Turn w.heap.size (nw args W) W2 := by rw [← hW2]; exact turn_put _ hl2' rfl (by omega)
  have l2 : W2.heap[w.heap.size + 1]? = some (.loop { rec .ready none with state := .busy }) := by rw [← hW2]; exact World.putObj_heap_same (by omega)
  have d2 : W2.heap[w.heap.size]? = some (.deferred (some [])) := by rw [← hW2]; exact (World.putObj_heap_other (by omega)).trans hd2'
  have z2 := t2.size
  rw [hW2]
  refine wpIn_mono (hbody _ k args A W W2 hk hz hi hx hX t2) ?_
  have fin : ∀ (jump : Option Code) (W3 : World), KeepsOthers W2 W3 → ∃ W4, (Instr.endRound (w.heap.size + 1) jump).run P W3 = .ok (.bool jump.isNone) W4 ∧ Turn w.heap.size W3 W4 ∧ W4.heap[w.heap.size + 1]? = some (.loop (rec (if jump.isNone then .ready else .done) jump)) ∧ W4.heap[w.heap.size]? = some (.deferred (some [])) ∧ w.heap.size + 2 ≤ W4.heap.size := fun jump W3 hk3 => by
   have l3 := hk3.same _ _ l2 rfl
   have d3 := hk3.same _ _ d2 rfl
   have z3 := hk3.size
   have := run_endRound (P := P) jump l3
   rw [hrec] at this ⊢
   rw [hrec] at l3
   exact ⟨_, this, turn_put _ l3 rfl (by omega), World.putObj_heap_same (by omega), (World.putObj_heap_other (by omega)).trans d3, by rw [World.putObj_size]; omega⟩
  rintro e a3 W3 hp
  cases e with
  | normal =>
    obtain ⟨k3, p3, i3⟩ := hp
    obtain ⟨W4, hr, t4, l4, d4, z4⟩ := fin none W3 k3
    exact ⟨_, _, hr, .inl ⟨rfl, ⟨hI _ _ _ i3 (by have := k3.size; omega) t4, z4, l4, d4⟩, (Keep.of_ext hE).trans ((Keep.turn t2 hPc).trans (p3.trans (Keep.turn t4 hPc)))⟩⟩
  | ret =>
    obtain ⟨k3, i3⟩ := hp
    obtain ⟨W4, hr, t4, l4, d4, z4⟩ := fin (some .ret) W3 k3
    exact ⟨_, _, hr, .inr ⟨rfl, _, hIx _ _ _ i3 (by have := k3.size; omega) t4, z4, l4, d4⟩⟩
  | exit id =>
    obtain ⟨k3, i3⟩ := hp
    obtain ⟨W4, hr, t4, l4, d4, z4⟩ := fin (some (.exit id)) W3 k3
    exact ⟨_, _, hr, .inr ⟨rfl, _, hIx _ _ _ i3 (by have := k3.size; omega) t4, z4, l4, d4⟩⟩
  | goto t =>
    obtain ⟨k3, i3⟩ := hp
    obtain ⟨W4, hr, t4, l4, d4, z4⟩ := fin (some (.goto t)) W3 k3
    exact ⟨_, _, hr, .inr ⟨rfl, _, hIx _ _ _ i3 (by have := k3.size; omega) t4, z4, l4, d4⟩⟩
  | panic ch => exact hp.elim
  | outgrown => exact hp.elim
end
end Go.Proofs.YtjcaiecapapceaaGreat.Rf
namespace Go.Proofs.YtjcaiecapapceaaGreat.Rf
open Go.RowKit Go.Shelf
section
variable {P : Program} {l n : Nat} {Q : Exit → Act → World → Prop}
theorem rows_in {row : String} {args : Array Value} {w : World} {R : Value → World → Prop} (h : Rows P row args w R) : RowsIn (Fence.wide.inRound l) n P row args w R :=
 fun c cs _ => by
  obtain ⟨v, w', r, s⟩ := h c cs
  exact ⟨v, w', r, stepsIn_wide.2 s⟩
theorem oper_in {o : Oper} {a : Act} {w : World} {K : Act → World → Prop} (hd : ∀ c, o.op ≠ .defer c) (h : o.wp P a w K Q) : o.wpIn (Fence.wide.inRound l) n P a w K Q := by
 unfold Oper.wpIn
 refine ⟨fun _ _ => trivial, ?_⟩
 rw [Oper.semAt_plain _ _ _ hd]
 unfold Oper.wp at h
 generalize (execOp a.eval o).run P w = r at *
 cases r with
 | ok x w' =>
   cases x with
   | value v => exact h
   | skip => exact h
   | defer d => exact h
   | enter f args => exact ⟨(fun e => by cases e), CallsIn.inRound l (callsIn_wide.2 h)⟩
   | row row args => exact ⟨(fun e => by cases e), rows_in h⟩
   | _ => exact h.elim
 | halt x w' =>
   cases x with
   | panic v => exact h
   | _ => exact h.elim
theorem op_in {ops : Array Oper} {i : Nat} {K K' : Act → World → Prop} {a : Act} {w : World} (hd : ∀ o ∈ ops, ∀ c, o.op ≠ .defer c) (hn : ¬ LetsOut Q) (hK : ∀ a w, K a w → K' a w) (h : wpOp P ops Q i K a w) : wpOpIn (Fence.wide.inRound l) n P ops Q i K' a w := by
 unfold wpOp at h
 unfold wpOpIn
 cases ho : ops[i]? with
 | none => rw [ho] at h; exact hK _ _ h
 | some o =>
   rw [ho] at h
   simp only at h ⊢
   split
   ·rename_i hw
    rw [if_pos hw] at h
    rcases h with h | ⟨_, h⟩
    ·exact oper_in (hd o (Array.mem_of_getElem? ho)) (Oper.wp_mono hK h)
    ·exact absurd h hn
   ·rename_i hw
    rw [if_neg hw] at h
    exact ⟨fun _ _ => trivial, hK _ _ h⟩
theorem any_in {md : Region.Mode} {ops : Array Oper} (hd : ∀ o ∈ ops, ∀ c, o.op ≠ .defer c) (hn : ¬ LetsOut Q) : ∀ (fuel : Nat) (listed : Array Bool) (a : Act) (w : World), wpAny P md ops Q fuel listed a w → wpAnyIn (Fence.wide.inRound l) n P md ops Q fuel listed a w
 | 0, _, _, _, h => h
 | fuel + 1, listed, a, w, h => ⟨h.1, fun i hi => op_in hd hn (fun a' w' h' => any_in hd hn fuel _ a' w' h') (h.2 i hi)⟩
theorem region_in {ops : Array Oper} {S : World → Prop} {id : Nat} {a : Act} {w : World} (hm : P.follows .mixedOrders = true) (hd : ∀ o ∈ ops, ∀ c, o.op ≠ .defer c) (hn : ¬ LetsOut Q) (hS : S w.drew)
  (h : S w.drew → wpAnyH P .any ops Q S ops.size (Array.replicate ops.size false) a w.drew) : (Code.region id ops true).wpIn (Fence.wide.inRound l) n P Q a w :=
 wpIn_region_any hm (any_in hd hn _ _ _ _ (wpAny_of_held _ _ _ _ (h hS)))
end
end Go.Proofs.YtjcaiecapapceaaGreat.Rf
