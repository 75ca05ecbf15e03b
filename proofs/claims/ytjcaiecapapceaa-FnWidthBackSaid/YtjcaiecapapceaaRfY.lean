import Derived.Test.YtjcaiecapapceaaShX
import Derived.RangeFuncBox
import Derived.RangeFuncLeaves
import Derived.RangeFuncCalls
import Derived.OwnWalkIn
import Derived.TacticsInMore
import Derived.LoopNIn
import Derived.LoopIn
import Derived.Test.YtjcaiecapapceaaRnA
import Derived.Shelf.RegionOpen
import Derived.Test.YtjcaiecapapceaaRnD
/-
 A range over a function, where what is handed over lies in memory that the iterator has made; nothing here speaks of the program. 'Gives': what such an iterator owes; 'rangeFunc_gives': what its caller gets of it.
-/
set_option linter.unusedVariables false
set_option linter.unusedSimpArgs false
set_option maxRecDepth 100000
set_option maxHeartbeats 3200000
namespace Go.Proofs.Ytjcaiecapapceaa.Rf
open Go.RowKit Go.Shelf
def Turn (lo : Nat) (A B : World) : Prop := ∃ (l : Nat) (o o' : Obj), lo ≤ l ∧ A.heap[l]? = some o ∧ o.isCells = false ∧ B = A.putObj l o'
section
variable {lo : Nat} {A B : World}
theorem Turn.size (h : Turn lo A B) : B.heap.size = A.heap.size := by obtain ⟨l, o, o', _, _, _, rfl⟩ := h; exact World.putObj_size
theorem Turn.below (h : Turn lo A B) {n : Nat} (hn : n ≤ lo) : Below n A B := by
 obtain ⟨l, o, o', h1, h2, _, rfl⟩ := h
 have := (Array.getElem?_eq_some_iff.1 h2).1
 exact (Below.refl n A).grown (grownBy_putObj' A l o') (by omega) (fun k e => by cases e; omega)
theorem Turn.cells (h : Turn lo A B) {c x : Nat} {v : Value} (hc : A.cell? ⟨c, x, none⟩ = some v) : B.heap[c]? = A.heap[c]? := by
 obtain ⟨l, o, o', h1, h2, h3, rfl⟩ := h
 refine World.putObj_heap_other fun e => ?_
 obtain ⟨o2, h4, h5⟩ := cells_of_cell hc
 simp only at h4
 subst e
 rw [h2] at h4; cases h4; rw [h3] at h5; cases h5
theorem Turn.block (h : Turn lo A B) {c : Nat} {o : Obj} (hc : A.heap[c]? = some o) (ho : o.isCells = true) : B.heap[c]? = A.heap[c]? := by
 obtain ⟨l, o1, o', h1, h2, h3, rfl⟩ := h
 refine World.putObj_heap_other fun e => ?_
 subst e
 rw [h2] at hc; cases hc; rw [h3] at ho; cases ho
theorem Turn.cell (h : Turn lo A B) {c x : Nat} {v : Value} (hc : A.cell? ⟨c, x, none⟩ = some v) : B.cell? ⟨c, x, none⟩ = some v := (World.cell?_of_block (w := A) (h.cells hc)).trans hc
theorem Turn.boxed (h : Turn lo A B) {c : Nat} {t : TypeId} {v : Value} (hc : Boxed A c t v) : Boxed B c t v := (h.block hc rfl).trans hc
end
def Keep (Pc : Nat → Prop) (A B : World) : Prop := A.heap.size ≤ B.heap.size ∧ ∀ c, Pc c → c < A.heap.size → B.heap[c]? = A.heap[c]?
theorem Keep.refl (Pc : Nat → Prop) (A : World) : Keep Pc A A := ⟨Nat.le_refl _, fun _ _ _ => rfl⟩
theorem Keep.trans {Pc : Nat → Prop} {A B C : World} (h : Keep Pc A B) (k : Keep Pc B C) : Keep Pc A C := ⟨Nat.le_trans h.1 k.1, fun c hc hl => (k.2 c hc (Nat.lt_of_lt_of_le hl h.1)).trans (h.2 c hc hl)⟩
theorem Keep.of_ext {Pc : Nat → Prop} {A B : World} (h : Ext A B) : Keep Pc A B := ⟨h.size, fun c _ hl => h.block c hl⟩
theorem Keep.of_below {Pc : Nat → Prop} {n : Nat} {A B : World} (h : Below n A B) (hP : ∀ c, Pc c → c < n) : Keep Pc A B := ⟨h.size, fun c hc _ => h.block c (hP c hc)⟩
theorem Keep.setCell {Pc : Nat → Prop} (A : World) (p : Addr) (v : Value) (hP : ¬ Pc p.block) : Keep Pc A (A.setCell p v) := ⟨by simp [World.setCell], fun c hc _ => Below.heap_setCell _ _ _ c (fun e => hP (e ▸ hc))⟩
theorem Keep.turn {Pc : Nat → Prop} {lo : Nat} {A B : World} (h : Turn lo A B) (hP : ∀ c, Pc c → c < lo) : Keep Pc A B := Keep.of_below (h.below (Nat.le_refl _)) hP
def Gives (P : Program) (gf : FuncId) (lb : Array Value) (X : Nat → Array Value → World → World → Prop) (Pc : Nat → Prop) (N : Nat) (w0 : World) : Prop :=
 ∀ (m l : Nat) (J : Nat → World → Prop) (Jx : World → Prop) (W : World), 1 ≤ m → Ext w0 W →
  (∀ k args A W1, k < N → J k A → Ext A W1 → X k args A W1 → YieldAt Fence.wide (m - 1) P l args W1 fun e W' => (e = .returned (.bool true) ∧ J (k + 1) W' ∧ Keep Pc W1 W') ∨ (e = .returned (.bool false) ∧ Jx W')) →
  J 0 W →
  CallsIn Fence.wide m P gf (#[.func (.yield l) #[] #[]] ++ lb) W fun e W' => (∃ v, e = .returned v) ∧ ((∃ A, J N A ∧ Ext A W') ∨ (∃ A, Jx A ∧ Ext A W'))
def post (Pc : Nat → Prop) (I : Nat → World → Prop) (Ix : Code → World → Prop) (k : Nat) (W : World) : Exit → Act → World → Prop
 | .normal, _, W' => KeepsOthers W W' ∧ Keep Pc W W' ∧ I (k + 1) W'
 | .ret, _, W' => KeepsOthers W W' ∧ Ix .ret W'
 | .exit id, _, W' => KeepsOthers W W' ∧ Ix (.exit id) W'
 | .goto t, _, W' => KeepsOthers W W' ∧ Ix (.goto t) W'
 | .panic _, _, _ => False
 | .outgrown, _, _ => False
theorem keeps_of_ext {A B : World} (h : Ext A B) : KeepsOthers A B := ⟨h.size, fun k o hk _ => (h.block k (Array.getElem?_eq_some_iff.1 hk).1).trans hk⟩
section
variable {P : Program}
theorem turn_put {lo : Nat} {W : World} {l : Nat} {o : Obj} (o' : Obj) (hl : W.heap[l]? = some o) (ho : o.isCells = false) (h : lo ≤ l) : Turn lo W (W.putObj l o') := ⟨l, o, o', h, hl, ho, rfl⟩
theorem calls_marks {f : FuncId} {fn : Func} {c : Code} {args : Array Value} {w : World} {R : Ending → World → Prop} (hf : P.funcs[f]? = some fn) (hb : fn.body = some c)
  (h : c.wp P (bodyPostM Fence.wide 7 P fn R) { tmps := args ++ Array.replicate (fn.ntmps - args.size) undef, defers := [] } w) : Calls P f args w R :=
 callsIn_wide.1 (callsIn_of_wp_marks (n := 7) hf hb trivial (wpIn_wide.2 h) rfl)
theorem leave_mark {fn : Func} {R : Ending → World → Prop} {tmps : Array Value} {D : Nat} {W : World} {v : Value} (hD : W.heap[D]? = some (.deferred (some [])))
  (hr : (results fn tmps).run P (W.putObj D (.deferred none)) = .ok v (W.putObj D (.deferred none))) (hR : R (.returned v) (W.putObj D (.deferred none))) :
  LeavesInM Fence.wide 7 P fn tmps R [{ target := .collected D, args := #[] }] .returning W :=
 ⟨by simp, .inl ⟨D, _, rfl, run_takeDeferred hD, ⟨_, hr, hR⟩⟩⟩
theorem leave_none {fn : Func} {R : Ending → World → Prop} {tmps : Array Value} {W : World} {v : Value} (hr : (results fn tmps).run P W = .ok v W) (hR : R (.returned v) W) :
  LeavesInM Fence.wide 7 P fn tmps R [] .returning W := ⟨_, hr, hR⟩
end
end Go.Proofs.Ytjcaiecapapceaa.Rf
namespace Go.Proofs.Ytjcaiecapapceaa.Bwd
open Go.RowKit P1 Cnt CntC Flat Wid ChP Rn Rf
attribute [local go_sem] Oper.semAt_some
def KidsIn (w0 : World) (B : Nat) (k : F) (a : Option Addr) (cap : Nat) : Prop := k.len ≤ cap ∧ ∃ fs, SubAt w0 a k fs ∧ ∀ q ∈ fs, q < B
def XK (w0 : World) (B : Nat) (K : F) (j : Nat) (args : Array Value) (A W : World) : Prop := ∃ (q : Nat) (p : F) (o n : Int) (t : ByteArray) (k r : F) (a : Option Addr) (cap : Nat),
 K = p.app (.cons o n t k r) ∧ p.len = q ∧ q + 1 + j = K.len ∧ args = #[.int .i64 (q : Int), .agg #[.int .i64 o, .int .i64 n, .string t, .slice a k.len cap]] ∧ KidsIn w0 B k a cap
theorem backKids {B cb : Nat} {w0 wx : World} (hb0 : Below B w0 wx) {K : F} {a : Option Addr} {cap : Nat} (hK : KidsIn w0 B K a cap) (hbox : wx.cell? ⟨cb, 0, none⟩ = some (.slice a K.len cap)) (hlen : K.len ≤ 4194304) :
  Gives Try.prog 134 #[.pointer (some ⟨cb, 0, none⟩)] (XK w0 B K) (fun c => c < B ∨ c = cb) K.len wx := by
 intro m l J Jx W hm hW hY h0
 have hcbl : cb < wx.heap.size := World.block_lt_of_cell? wx _ hbox
 have HKEEP := Lib.hid (show ∀ w, Keep (fun c => c < B ∨ c = cb) W w → w.cell? ⟨cb, 0, none⟩ = some (.slice a K.len cap) ∧ (∀ c o, c < B → c < w0.heap.size → w.cell? ⟨c, o, none⟩ = w0.cell? ⟨c, o, none⟩) from fun w h => by
  refine ⟨?_, fun c o hc h0 => ?_⟩
  ·rw [World.cell?_of_block (w := W) (h.2 cb (Or.inr rfl) (Nat.lt_of_lt_of_le hcbl hW.size)), hW.cell hcbl]; exact hbox
  ·rw [World.cell?_of_block (w := W) (h.2 c (Or.inl hc) (Nat.lt_of_lt_of_le h0 (Nat.le_trans hb0.size hW.size))), hW.cell (Nat.lt_of_lt_of_le h0 hb0.size)]
   exact hb0.cell (p := ⟨c, o, none⟩) hc)
 have hcb := (HKEEP.out W (Keep.refl _ _)).1
 obtain ⟨N, hN⟩ : ∃ N, K.len = N := ⟨_, rfl⟩
 have HK := Lib.hid (And.intro hK hN)
 rw [hN] at hlen hY hcb HKEEP ⊢
 have HY := Lib.hid hY
 clear hY hN hK hW hbox hb0 hcbl
 refine callsIn_of_wp Try.func134 rfl trivial ?_ rfl
 simp only [Try.ntmps134, List.size_toArray, List.length_cons, List.length_nil, Nat.reduceAdd, Nat.reduceSub, Array.replicate_succ, Array.replicate_zero, List.push_toArray, List.append_toArray, List.nil_append, List.cons_append]
 gi_wp2_with fail
 gi_loopw [3] (fun i wr => ∃ (q : Nat) (A : World), q ≤ N ∧ i = .int .i64 ((q : Int) - 1) ∧ J (N - q) A ∧ Ext A wr ∧ Keep (fun c => c < B ∨ c = cb) W wr) (fun i _ => (intOf i + 1).toNat)
 case atStart => exact ⟨N, W, Nat.le_refl _, rfl, by rw [Nat.sub_self]; exact h0, Ext.refl _, Keep.refl _ _⟩
 case round =>
  obtain ⟨q, A, hq, rfl, hJ, hA, hKp⟩ := hrel
  cases q with
  | zero =>
    rw [show ((0 : Nat) : Int) - 1 = -1 by omega]
    rw [Nat.sub_zero] at hJ
    gi_wp2_with fail
    go_end0
    exact ⟨⟨_, rfl⟩, .inl ⟨A, hJ, hA⟩⟩
  | succ q =>
    rw [show ((q + 1 : Nat) : Int) - 1 = (q : Int) by omega]
    obtain ⟨c1, hbel⟩ := HKEEP.out wr hKp
    obtain ⟨⟨hcap, fs, hs, hfs⟩, hN⟩ := HK.out
    obtain ⟨p, o, n, t, k, r, hsp, hpl⟩ := F.at_len K q (by omega)
    rcases hs with ⟨rfl, _⟩ | ⟨b1, off, f', rfl, hnil, rfl, hrow⟩
    ·simp only [F.len] at hN; omega
    ·rw [hsp] at hrow
     obtain ⟨a1, cap1, f1, d0, d1, d2, d3, hc1, hsub1, hin⟩ := row_at hrow
     rw [hpl] at d0 d1 d2 d3
     have hb1 : b1 < B := hfs b1 (by simp)
     have hb1l : b1 < w0.heap.size := World.block_lt_of_cell? w0 _ d0
     rw [← hbel b1 _ hb1 hb1l] at d0 d1 d2 d3
     have hXK : XK w0 B K (N - (q + 1)) #[.int .i64 (q : Int), .agg #[.int .i64 o, .int .i64 n, .string t, .slice a1 k.len cap1]] A wr :=
      ⟨q, p, o, n, t, k, r, a1, cap1, hsp, hpl, by omega, rfl, hc1, f1, hsub1, fun c hc => hfs c (by simp [hin c hc])⟩
     obtain ⟨fn, tmps, assign, body, hy, hR⟩ := HY.out (N - (q + 1)) _ A wr (by omega) hJ hA hXK
     have HR := Lib.hid hR
     have hqq : ((N - (q + 1) + 1 : Nat)) = N - q := by omega
     rw [hqq] at HR
     have i0 : (0 : Int) ≤ (q : Int) := Int.natCast_nonneg _
     have i1 : (q : Int) < (N : Int) := by omega
     have HKP := Lib.hid hKp
     clear hR hKp hXK hsub1 hin hrow hbel hsp hpl hqq hJ hA
     gi_wp2_with fail
     refine HR.out.mono ?_
     rintro e W3 (⟨rfl, hJ3, hk3⟩ | ⟨rfl, hJx3⟩)
     ·have HK3 := Lib.hid (HKP.out.trans hk3)
      have HJ3 := Lib.hid hJ3
      clear hJ3 hk3 hy
      gi_wp2_with fail
      go_roundw
      case rel => exact ⟨q, W3, by omega, by go_num, HJ3.out, Ext.refl _, HK3.out⟩
      case measure => simp [intOf]
     ·have HJ3 := Lib.hid hJx3
      clear hJx3 hy
      gi_wp2_with fail
      refine bodyPost_ret (results_none rfl _ _ _) rfl ?_
      exact ⟨⟨_, rfl⟩, .inr ⟨_, HJ3.out, Ext.refl _⟩⟩
end Go.Proofs.Ytjcaiecapapceaa.Bwd
namespace Go.Proofs.Ytjcaiecapapceaa.Bwd
open Go.RowKit P1 Cnt CntC Flat Wid ChP Rn Rf
attribute [local go_sem] Oper.semAt_some
def ItV (w0 : World) (B : Nat) (x : Itm) (c : List Value) : Prop := ∃ (a : Option Addr) (cap : Nat), c = [.int .i64 x.o, .int .i64 x.n, .string x.t, .slice a x.k.len cap, .int .i64 x.i] ∧ KidsIn w0 B x.k a cap
theorem ItV.len {w0 : World} {B : Nat} : ∀ (x : Itm) (c : List Value), ItV w0 B x c → c.length = 5 := by
 rintro x c ⟨a, cap, rfl, _⟩; rfl
theorem stack_at {w0 w : World} {B : Nat} {T : TypeId} {lo : Nat} {x : Itm} {st : List Itm} : ∀ (p : List Itm) (v : Value), StackG (ItV w0 B) 5 w T lo v (p ++ x :: st) →
  ∃ g cap c, v = .slice (some ⟨g, 0, none⟩) (p ++ x :: st).length cap ∧ g < w.heap.size ∧ lo ≤ g ∧ (p ++ x :: st).length ≤ cap ∧ ItV w0 B x c ∧ (∀ j, j < 5 → w.cell? ⟨g, st.length * 5 + j, none⟩ = c[j]?)
 | [], v, h => by
   obtain ⟨g, cap, c, rfl, h1, h2, h3, _, h5, h6, _⟩ := h.top ItV.len
   exact ⟨g, cap, c, rfl, h2, h1, h3, h5, h6⟩
 | y :: p, v, h => by
   obtain ⟨g, cap, c, rfl, h1, h2, h3, _, h5, h6, h7⟩ := StackG.top ItV.len (x := y) (st := p ++ x :: st) h
   obtain ⟨g', cap', c', e, k2, k1, k3, k5, k6⟩ := stack_at p _ h7
   injection e with e1 e2 e3
   injection e1 with e1
   injection e1 with e1
   subst e1 e3
   exact ⟨g, cap, c', rfl, h2, h1, h3, k5, k6⟩
def XI (w0 : World) (B : Nat) (its : List Itm) (j : Nat) (args : Array Value) (A W : World) : Prop := ∃ (q : Nat) (x : Itm) (p r : List Itm) (a : Option Addr) (cap : Nat),
 its = p ++ x :: r ∧ p.length = j ∧ r.length = q ∧ args = #[.int .i64 (q : Int), .agg #[.int .i64 x.o, .int .i64 x.n, .string x.t, .slice a x.k.len cap, .int .i64 x.i]] ∧ KidsIn w0 B x.k a cap
theorem split_at {α : Type} : ∀ (l : List α) (q : Nat), q < l.length → ∃ p x r, l = p ++ x :: r ∧ r.length = q
 | [], q, h => by simp at h
 | y :: l, q, h => by
   by_cases e : q = l.length
   ·exact ⟨[], y, l, rfl, e.symm⟩
   ·obtain ⟨p, x, r, h1, h2⟩ := split_at l q (by simp at h; omega)
    exact ⟨y :: p, x, r, by rw [h1]; rfl, h2⟩
theorem backItems {w0 wx : World} {B cb lo : Nat} {Pc : Nat → Prop} {its : List Itm} {a : Option Addr} {cap : Nat} (hst : StackG (ItV w0 B) 5 wx 93 lo (.slice a its.length cap) its) (hbox : wx.cell? ⟨cb, 0, none⟩ = some (.slice a its.length cap))
  (hcb : Pc cb) (hPg : ∀ g, a = some ⟨g, 0, none⟩ → Pc g) (hlen : its.length ≤ 4194304) :
  Gives Try.prog 145 #[.pointer (some ⟨cb, 0, none⟩)] (XI w0 B its) Pc its.length wx := by
 intro m l J Jx W hm hW hY h0
 have hcbl : cb < wx.heap.size := World.block_lt_of_cell? wx _ hbox
 have HKEEP := Lib.hid (show ∀ w, Keep Pc W w → w.cell? ⟨cb, 0, none⟩ = some (.slice a its.length cap) ∧ (∀ g o, a = some ⟨g, 0, none⟩ → g < wx.heap.size → w.cell? ⟨g, o, none⟩ = wx.cell? ⟨g, o, none⟩) from fun w h => by
  refine ⟨?_, fun c o hc h0 => ?_⟩
  ·rw [World.cell?_of_block (w := W) (h.2 cb hcb (Nat.lt_of_lt_of_le hcbl hW.size)), hW.cell hcbl]; exact hbox
  ·rw [World.cell?_of_block (w := W) (h.2 c (hPg c hc) (Nat.lt_of_lt_of_le h0 hW.size)), hW.cell h0])
 have hc0 := (HKEEP.out W (Keep.refl _ _)).1
 obtain ⟨N, hN⟩ : ∃ N, its.length = N := ⟨_, rfl⟩
 have HK := Lib.hid (And.intro hst hN)
 rw [hN] at hlen hY hc0 HKEEP ⊢
 have HY := Lib.hid hY
 clear hY hN hst hW hbox hcbl hcb hPg
 refine callsIn_of_wp Try.func145 rfl trivial ?_ rfl
 simp only [Try.ntmps145, List.size_toArray, List.length_cons, List.length_nil, Nat.reduceAdd, Nat.reduceSub, Array.replicate_succ, Array.replicate_zero, List.push_toArray, List.append_toArray, List.nil_append, List.cons_append]
 gi_wp2_with fail
 gi_loopw [3] (fun i wr => ∃ (q : Nat) (A : World), q ≤ N ∧ i = .int .i64 ((q : Int) - 1) ∧ J (N - q) A ∧ Ext A wr ∧ Keep Pc W wr) (fun i _ => (intOf i + 1).toNat)
 case atStart => exact ⟨N, W, Nat.le_refl _, rfl, by rw [Nat.sub_self]; exact h0, Ext.refl _, Keep.refl _ _⟩
 case round =>
  obtain ⟨q, A, hq, rfl, hJ, hA, hKp⟩ := hrel
  cases q with
  | zero =>
    rw [show ((0 : Nat) : Int) - 1 = -1 by omega]
    rw [Nat.sub_zero] at hJ
    gi_wp2_with fail
    go_end0
    exact ⟨⟨_, rfl⟩, .inl ⟨A, hJ, hA⟩⟩
  | succ q =>
    rw [show ((q + 1 : Nat) : Int) - 1 = (q : Int) by omega]
    obtain ⟨c1, hbel⟩ := HKEEP.out wr hKp
    obtain ⟨hst, hN⟩ := HK.out
    obtain ⟨p, x, r, hsp, hrl⟩ := split_at its q (by omega)
    rw [hsp] at hst
    obtain ⟨g, cap', c, e, hgl, _, hcl, ⟨a1, cap1, rfl, hkid⟩, hcell⟩ := stack_at p _ hst
    injection e with e1 e2 e3
    subst e1 e3
    rw [← hsp, hN] at hcl
    rw [hrl] at hcell
    have d0 := hcell 0 (by omega)
    have d1 := hcell 1 (by omega)
    have d2 := hcell 2 (by omega)
    have d3 := hcell 3 (by omega)
    have d4 := hcell 4 (by omega)
    rw [← hbel g _ rfl hgl] at d0 d1 d2 d3 d4
    simp only [List.getElem?_cons_zero, List.getElem?_cons_succ, Nat.add_zero] at d0 d1 d2 d3 d4
    have hpl : p.length + (1 + r.length) = N := by rw [← hN, hsp]; simp; omega
    have hXI : XI w0 B its (N - (q + 1)) #[.int .i64 (q : Int), .agg #[.int .i64 x.o, .int .i64 x.n, .string x.t, .slice a1 x.k.len cap1, .int .i64 x.i]] A wr :=
     ⟨q, x, p, r, a1, cap1, hsp, by omega, hrl, rfl, hkid⟩
    obtain ⟨fn, tmps, assign, body, hy, hR⟩ := HY.out (N - (q + 1)) _ A wr (by omega) hJ hA hXI
    have HR := Lib.hid hR
    have hqq : ((N - (q + 1) + 1 : Nat)) = N - q := by omega
    rw [hqq] at HR
    have i0 : (0 : Int) ≤ (q : Int) := Int.natCast_nonneg _
    have i1 : (q : Int) < (N : Int) := by omega
    have HKP := Lib.hid hKp
    clear hR hKp hXI hkid hcell hbel hsp hpl hqq hJ hA hrl hst
    gi_wp2_with fail
    refine HR.out.mono ?_
    rintro e W3 (⟨rfl, hJ3, hk3⟩ | ⟨rfl, hJx3⟩)
    ·have HK3 := Lib.hid (HKP.out.trans hk3)
     have HJ3 := Lib.hid hJ3
     clear hJ3 hk3 hy
     gi_wp2_with fail
     go_roundw
     case rel => exact ⟨q, W3, by omega, by go_num, HJ3.out, Ext.refl _, HK3.out⟩
     case measure => simp [intOf]
    ·have HJ3 := Lib.hid hJx3
     clear hJx3 hy
     gi_wp2_with fail
     refine bodyPost_ret (results_none rfl _ _ _) rfl ?_
     exact ⟨⟨_, rfl⟩, .inr ⟨_, HJ3.out, Ext.refl _⟩⟩
end Go.Proofs.Ytjcaiecapapceaa.Bwd
namespace Go.Proofs.Ytjcaiecapapceaa.Rf
open Go.RowKit Go.Shelf
section
variable {P : Program}
theorem rangeFunc_gives2 {g : Operand} {ps : Array Tmp} {assign body : Code} {Q : Exit → Act → World → Prop} {a : Act} {w : World} {n : Nat}
  {gf : Nat} {lb : Array Value} (hg : a.eval g = .func (.func gf) #[] lb) (eg : Enters P gf) (hn : 3 ≤ n)
  {X : Nat → Array Value → World → World → Prop} {Pc : Nat → Prop} {N : Nat} (hseq : Gives P gf lb X Pc N w) (hPc : ∀ c, Pc c → c < w.heap.size) (hps : ∀ k args A W, X k args A W → args.size = ps.size)
  (I : Nat → World → Prop) (Ix : Code → World → Prop) (hI : ∀ k A B, I k A → w.heap.size ≤ A.heap.size → Turn w.heap.size A B → I k B) (hIe : ∀ A B, I 0 A → Ext A B → I 0 B) (hIx : ∀ c A B, Ix c A → w.heap.size ≤ A.heap.size → Turn w.heap.size A B → Ix c B) (h0 : I 0 w) (a₁ : Array Value → World → Act) (nw : Array Value → World → World) (hnw : ∀ args W, Ext W (nw args W))
  (hassign : ∀ (l k : Nat) (args : Array Value) (A W : World) (K : Act → World → Prop), X k args A W → K (a₁ args W) (nw args W) →
   assign.wpIn (Fence.wide.inRound l) (n - 1 - 1) P (Exit.then K (fun _ _ _ => False)) { tmps := (ps.zip args).foldl (fun t (p, v) => t.setIfInBounds p v) a.tmps, defers := [] } W)
  (hbody : ∀ (l k : Nat) (args : Array Value) (A W0 W : World), k < N → w.heap.size + 2 ≤ A.heap.size → I k A → Ext A W0 → X k args A W0 → Turn w.heap.size (nw args W0) W → body.wpIn (Fence.wide.inRound l) (n - 1 - 1) P (post Pc I Ix k W) (a₁ args W0) W)
  (hdone : ∀ (D : Nat) (A W : World), w.heap.size ≤ D → I N A → (∃ B, Ext A B ∧ Turn w.heap.size B W) → W.heap[D]? = some (.deferred (some [])) → Q .normal { a with defers := { target := .collected D, args := #[] } :: a.defers } W)
  (hstop : ∀ (D : Nat) (c : Code) (A W : World), w.heap.size ≤ D → Ix c A → (∃ B, Ext A B ∧ Turn w.heap.size B W) → W.heap[D]? = some (.deferred (some [])) → c.wpIn Fence.wide n P Q { a with defers := { target := .collected D, args := #[] } :: a.defers } W) :
  (Code.rangeFunc g ps assign body).wpIn Fence.wide n P Q a w := by
 refine wpIn_rangeFunc fun fn hfn => ?_
 obtain ⟨rec, hrec⟩ : ∃ rec : LoopState → Option Code → Loop, rec = fun st pe => { state := st, pending := pe, fn, tmps := a.tmps, params := ps, assign, body, defers := w.heap.size } := ⟨_, rfl⟩
 obtain ⟨W1, hW1⟩ : ∃ W1, (w.alloc (.deferred (some []))).alloc (.loop (rec .ready none)) = W1 := ⟨_, rfl⟩
 have e1 : Ext w W1 := by rw [← hW1]; exact ((Ext.refl w).alloc _).alloc _
 have s1 : W1.heap.size = w.heap.size + 2 := by rw [← hW1]; simp
 have hL1 : W1.heap[w.heap.size + 1]? = some (.loop (rec .ready none)) := by
  rw [← hW1]; have := World.alloc_heap_new (w.alloc (.deferred (some []))) (.loop (rec .ready none)); rwa [World.size_alloc] at this
 have hD1 : W1.heap[w.heap.size]? = some (.deferred (some [])) := by
  rw [← hW1]; exact (Below.heap_alloc _ _ _ (by simp)).trans (World.alloc_heap_new w _)
 refine ⟨w.heap.size + 1, [{ target := .collected w.heap.size, args := #[] }], W1, { target := .fn (.func gf) lb, args := #[.func (.yield (w.heap.size + 1)) #[] #[]] }, W1, gf,
  #[.func (.yield (w.heap.size + 1)) #[] #[]] ++ lb, W1, ?_, ?_, fun _ _ => trivial, ?_, fun _ => by omega, ?_⟩
 ·rw [← hW1, hrec]; exact run_enterLoop_outer _ _ _ _ _
 ·simp only [resolve, hg]; simp [go_sem]
 ·simp [invoke, go_sem]; exact eg _ _
 have hJ := hseq (n - 1) (w.heap.size + 1)
  (fun k W => I k W ∧ w.heap.size + 2 ≤ W.heap.size ∧ W.heap[w.heap.size + 1]? = some (.loop (rec .ready none)) ∧ W.heap[w.heap.size]? = some (.deferred (some [])))
  (fun W => ∃ c, Ix c W ∧ w.heap.size + 2 ≤ W.heap.size ∧ W.heap[w.heap.size + 1]? = some (.loop (rec .done (some c))) ∧ W.heap[w.heap.size]? = some (.deferred (some [])))
  W1 (by omega) e1 ?_ ⟨hIe _ _ h0 e1, by omega, hL1, hD1⟩
 ·refine hJ.mono ?_
  rintro e W2 ⟨⟨v, rfl⟩, ⟨A, ⟨hi, hz, hl, hd⟩, hx⟩ | ⟨A, ⟨c, hi, hz, hl, hd⟩, hx⟩⟩
  ·have hl2 := (hx.block _ (by omega)).trans hl
   have hd2 := (hx.block _ (by omega)).trans hd
   refine ⟨none, _, by have := run_endLoop (P := P) hl2 (by rw [hrec]; simp); rw [hrec] at this; exact this, hdone _ A _ (Nat.le_refl _) hi ⟨W2, hx, turn_put _ hl2 rfl (by omega)⟩ ((World.putObj_heap_other (by omega)).trans hd2)⟩
  ·have hl2 := (hx.block _ (by omega)).trans hl
   have hd2 := (hx.block _ (by omega)).trans hd
   refine ⟨some c, _, by have := run_endLoop (P := P) hl2 (by rw [hrec]; simp); rw [hrec] at this; exact this, hstop _ c A _ (Nat.le_refl _) hi ⟨W2, hx, turn_put _ hl2 rfl (by omega)⟩ ((World.putObj_heap_other (by omega)).trans hd2)⟩
 ·rintro k args A W hk ⟨hi, hz, hl, hd⟩ hx hX
  have hl2 := (hx.block _ (by omega)).trans hl
  have hd2 := (hx.block _ (by omega)).trans hd
  have hy := run_yield (P := P) (args := args) hl2 (by rw [hrec]; exact hps _ _ _ _ hX)
  rw [hrec] at hy
  have hzW := hx.size
  have hE := hnw args W
  have hl2' := (hE.block _ (by omega)).trans hl2
  have hd2' := (hE.block _ (by omega)).trans hd2
  have hzE := hE.size
  refine ⟨fn, _, assign, body, hy, roundIn_of_wpIn trivial (hassign _ k args A W _ hX ⟨_, run_beginRound hl2' (by rw [hrec]), ?_⟩)⟩
  obtain ⟨W2, hW2⟩ : ∃ W2, (nw args W).putObj (w.heap.size + 1) (.loop { rec .ready none with state := .busy }) = W2 := ⟨_, rfl⟩
  have t2 : Turn w.heap.size (nw args W) W2 := by rw [← hW2]; exact turn_put _ hl2' rfl (by omega)
  have l2 : W2.heap[w.heap.size + 1]? = some (.loop { rec .ready none with state := .busy }) := by rw [← hW2]; exact World.putObj_heap_same (by omega)
  have d2 : W2.heap[w.heap.size]? = some (.deferred (some [])) := by rw [← hW2]; exact (World.putObj_heap_other (by omega)).trans hd2'
  have z2 := t2.size
  rw [hW2]
  refine wpIn_mono (hbody _ k args A W W2 hk hz hi hx hX t2) ?_
  have fin : ∀ (jump : Option Code) (W3 : World), KeepsOthers W2 W3 → ∃ W4, (Instr.endRound (w.heap.size + 1) jump).run P W3 = .ok (.bool jump.isNone) W4 ∧ Turn w.heap.size W3 W4 ∧ W4.heap[w.heap.size + 1]? = some (.loop (rec (if jump.isNone then .ready else .done) jump)) ∧ W4.heap[w.heap.size]? = some (.deferred (some [])) ∧ w.heap.size + 2 ≤ W4.heap.size := fun jump W3 hk3 => by
   have l3 := hk3.same _ _ l2 rfl
   have d3 := hk3.same _ _ d2 rfl
   have z3 := hk3.size
   have := run_endRound (P := P) jump l3
   rw [hrec] at this ⊢
   rw [hrec] at l3
   exact ⟨_, this, turn_put _ l3 rfl (by omega), World.putObj_heap_same (by omega), (World.putObj_heap_other (by omega)).trans d3, by rw [World.putObj_size]; omega⟩
  rintro e a3 W3 hp
  cases e with
  | normal =>
    obtain ⟨k3, p3, i3⟩ := hp
    obtain ⟨W4, hr, t4, l4, d4, z4⟩ := fin none W3 k3
    exact ⟨_, _, hr, .inl ⟨rfl, ⟨hI _ _ _ i3 (by have := k3.size; omega) t4, z4, l4, d4⟩, (Keep.of_ext hE).trans ((Keep.turn t2 hPc).trans (p3.trans (Keep.turn t4 hPc)))⟩⟩
  | ret =>
    obtain ⟨k3, i3⟩ := hp
    obtain ⟨W4, hr, t4, l4, d4, z4⟩ := fin (some .ret) W3 k3
    exact ⟨_, _, hr, .inr ⟨rfl, _, hIx _ _ _ i3 (by have := k3.size; omega) t4, z4, l4, d4⟩⟩
  | exit id =>
    obtain ⟨k3, i3⟩ := hp
    obtain ⟨W4, hr, t4, l4, d4, z4⟩ := fin (some (.exit id)) W3 k3
    exact ⟨_, _, hr, .inr ⟨rfl, _, hIx _ _ _ i3 (by have := k3.size; omega) t4, z4, l4, d4⟩⟩
  | goto t =>
    obtain ⟨k3, i3⟩ := hp
    obtain ⟨W4, hr, t4, l4, d4, z4⟩ := fin (some (.goto t)) W3 k3
    exact ⟨_, _, hr, .inr ⟨rfl, _, hIx _ _ _ i3 (by have := k3.size; omega) t4, z4, l4, d4⟩⟩
  | panic ch => exact hp.elim
  | outgrown => exact hp.elim
end
end Go.Proofs.Ytjcaiecapapceaa.Rf
namespace Go.Proofs.Ytjcaiecapapceaa.Rf
open Go.RowKit Go.Shelf
section
variable {P : Program} {l n : Nat} {Q : Exit → Act → World → Prop}
theorem rows_in {row : String} {args : Array Value} {w : World} {R : Value → World → Prop} (h : Rows P row args w R) : RowsIn (Fence.wide.inRound l) n P row args w R :=
 fun c cs _ => by
  obtain ⟨v, w', r, s⟩ := h c cs
  exact ⟨v, w', r, stepsIn_wide.2 s⟩
theorem oper_in {o : Oper} {a : Act} {w : World} {K : Act → World → Prop} (hd : ∀ c, o.op ≠ .defer c) (h : o.wp P a w K Q) : o.wpIn (Fence.wide.inRound l) n P a w K Q := by
 unfold Oper.wpIn
 refine ⟨fun _ _ => trivial, ?_⟩
 rw [Oper.semAt_plain _ _ _ hd]
 unfold Oper.wp at h
 generalize (execOp a.eval o).run P w = r at *
 cases r with
 | ok x w' =>
   cases x with
   | value v => exact h
   | skip => exact h
   | defer d => exact h
   | enter f args => exact ⟨(fun e => by cases e), CallsIn.inRound l (callsIn_wide.2 h)⟩
   | row row args => exact ⟨(fun e => by cases e), rows_in h⟩
   | _ => exact h.elim
 | halt x w' =>
   cases x with
   | panic v => exact h
   | _ => exact h.elim
theorem op_in {ops : Array Oper} {i : Nat} {K K' : Act → World → Prop} {a : Act} {w : World} (hd : ∀ o ∈ ops, ∀ c, o.op ≠ .defer c) (hn : ¬ LetsOut Q) (hK : ∀ a w, K a w → K' a w) (h : wpOp P ops Q i K a w) : wpOpIn (Fence.wide.inRound l) n P ops Q i K' a w := by
 unfold wpOp at h
 unfold wpOpIn
 cases ho : ops[i]? with
 | none => rw [ho] at h; exact hK _ _ h
 | some o =>
   rw [ho] at h
   simp only at h ⊢
   split
   ·rename_i hw
    rw [if_pos hw] at h
    rcases h with h | ⟨_, h⟩
    ·exact oper_in (hd o (Array.mem_of_getElem? ho)) (Oper.wp_mono hK h)
    ·exact absurd h hn
   ·rename_i hw
    rw [if_neg hw] at h
    exact ⟨fun _ _ => trivial, hK _ _ h⟩
theorem any_in {md : Region.Mode} {ops : Array Oper} (hd : ∀ o ∈ ops, ∀ c, o.op ≠ .defer c) (hn : ¬ LetsOut Q) : ∀ (fuel : Nat) (listed : Array Bool) (a : Act) (w : World), wpAny P md ops Q fuel listed a w → wpAnyIn (Fence.wide.inRound l) n P md ops Q fuel listed a w
 | 0, _, _, _, h => h
 | fuel + 1, listed, a, w, h => ⟨h.1, fun i hi => op_in hd hn (fun a' w' h' => any_in hd hn fuel _ a' w' h') (h.2 i hi)⟩
theorem region_in {ops : Array Oper} {S : World → Prop} {id : Nat} {a : Act} {w : World} (hm : P.follows .mixedOrders = true) (hd : ∀ o ∈ ops, ∀ c, o.op ≠ .defer c) (hn : ¬ LetsOut Q) (hS : S w.drew)
  (h : S w.drew → wpAnyH P .any ops Q S ops.size (Array.replicate ops.size false) a w.drew) : (Code.region id ops true).wpIn (Fence.wide.inRound l) n P Q a w :=
 wpIn_region_any hm (any_in hd hn _ _ _ _ (wpAny_of_held _ _ _ _ (h hS)))
end
end Go.Proofs.Ytjcaiecapapceaa.Rf
namespace Go.Proofs.Ytjcaiecapapceaa.Lead
open Go.RowKit Go.Shelf P1 Cnt CntC Flat Wid ChP Rn Rf Bwd
attribute [local go_sem] Oper.semAt_some
theorem backI (a : Option Addr) (n cap : Nat) (w : World) : Calls Try.prog 141 #[.slice a n cap] w fun e w' => e = .returned (.func (.func 145) #[] #[.pointer (some ⟨w.heap.size, 0, none⟩)]) ∧ w' = w.alloc (.cells #[.slice a n cap] 59) := by
 go_enter Try.func141, Try.ntmps141
 go_wp2_with fail
 go_ret
 exact ⟨rfl, rfl⟩
theorem leadBehind {w0 w : World} {B b lo : Nat} {its : List Itm} {a : Option Addr} {cap : Nat} (hB0 : Below B w0 w) (hB : B ≤ w0.heap.size) (hst : StackG (ItV w0 B) 5 w 93 lo (.slice a its.length cap) its) (hr : w.cell? ⟨b, 5, none⟩ = some (.slice a its.length cap))
  (hlen : its.length ≤ 4194304) (hsz : ∀ x ∈ its, x.t.size + x.k.size ≤ 4194304) (hsum : ldI its ≤ 4194304) :
  Calls Try.prog 131 #[.pointer (some ⟨b, 0, none⟩)] w fun e w' => e = .returned (.int .i64 (ldI its : Nat)) ∧ Below w.heap.size w w' := by
 have hbl : b < w.heap.size := World.block_lt_of_cell? w _ hr
 refine calls_marks Try.func131 rfl ?_
 simp only [Try.ntmps131, List.size_toArray, List.length_cons, List.length_nil, Nat.reduceAdd, Nat.reduceSub, Array.replicate_succ, Array.replicate_zero, List.push_toArray, List.append_toArray, List.nil_append, List.cons_append]
 have HBK := Lib.hid (backI a its.length cap)
 go_wp2_with fail
 refine (HBK.out _).mono ?_
 rintro e1 w1 ⟨rfl, rfl⟩
 go_wp2_with fail
 obtain ⟨W0, hW0⟩ : ∃ W0, (w.alloc (.cells #[.int .i64 0] 3)).alloc (.cells #[.slice a its.length cap] 59) = W0 := ⟨_, rfl⟩
 have hz : W0.heap.size = w.heap.size + 2 := by rw [← hW0]; simp
 have hE0 : Ext w W0 := by rw [← hW0]; exact ((Ext.refl w).alloc _).alloc _
 have hX0 : Boxed W0 w.heap.size 3 (.int .i64 0) := by
  rw [← hW0]; exact ((Ext.refl _).alloc _).block _ (by simp) |>.trans (Boxed.new w 3 (.int .i64 0))
 have hbx : W0.cell? ⟨w.heap.size + 1, 0, none⟩ = some (.slice a its.length cap) := by
  rw [← hW0, show w.heap.size + 1 = (w.alloc (.cells #[.int .i64 0] 3)).heap.size by simp, World.cell?_alloc_new]; rfl
 try rw [hW0]
 have hst0 := hst.below (Nat.le_refl _) hE0
 have hgl : ∀ g, a = some ⟨g, 0, none⟩ → g < w.heap.size := fun g hg => by
  refine (hst.own_lt g ?_).2
  rw [hg]; rfl
 refine wpIn_wide.1 (rangeFunc_gives2 (n := 7) (gf := 145) (lb := #[.pointer (some ⟨w.heap.size + 1, 0, none⟩)]) (X := XI w0 B its) (Pc := fun c => c ≠ w.heap.size ∧ c < w.heap.size + 2) (N := its.length) ?g0 (enters_of Try.func145 (by kernel_rfl) rfl) (by omega) (backItems hst0 hbx ⟨by omega, by omega⟩ (fun g hg => ⟨by have := hgl g hg; omega, by have := hgl g hg; omega⟩) hlen) (fun c hc => by omega) (fun k args A W hX => by obtain ⟨q, x, p, r, a, cap, _, _, _, rfl, _⟩ := hX; rfl)
  (fun j A => (∃ L : Nat, Boxed A w.heap.size 3 (.int .i64 (L : Int)) ∧ L + ldI (its.drop j) = ldI its) ∧ Below w.heap.size w A)
  (fun c A => c = .exit 0 ∧ Boxed A w.heap.size 3 (.int .i64 (ldI its : Nat)) ∧ Below w.heap.size w A)
  (fun j A B ⟨⟨L, h1, h2⟩, h3⟩ hA hT => ⟨⟨L, hT.boxed h1, h2⟩, h3.trans (hT.below (by omega))⟩)
  (fun A B ⟨⟨L, h1, h2⟩, h3⟩ hE => ⟨⟨L, (hE.block _ h1.lt).trans h1, h2⟩, h3.trans (hE.mono h3.size)⟩)
  (fun c A B ⟨h0, h1, h3⟩ hA hT => ⟨h0, hT.boxed h1, h3.trans (hT.below (by omega))⟩)
  ⟨⟨0, hX0, by simp⟩, hE0⟩
  (fun args W => { tmps := #[.pointer (some ⟨b, 0, none⟩), undef, .int .i64 0, .pointer (some ⟨w.heap.size, 0, none⟩), undef, .pointer (some ⟨W.heap.size, 0, none⟩), undef, undef, .pointer (some ⟨b, 0, none⟩), .pointer (some ⟨b, 0, none⟩), .pointer (some ⟨b, 5, none⟩), .slice a its.length cap, .func (.func 145) #[] #[.pointer (some ⟨w.heap.size + 1, 0, none⟩)], args.getD 0 undef, args.getD 1 undef, undef, undef, undef, undef, undef, undef, undef, undef, undef, undef, undef], defers := [] })
  (fun args W => W.alloc (.cells (args.getD 1 undef).cells 93)) (fun args W => (Ext.refl W).alloc _) ?assign ?body ?done ?stop)
 case g0 => rfl
 case assign =>
  rintro l j args A W K ⟨q, x, p, r, ax, capx, hsp, hpl, hrl, rfl, hkid⟩ hK
  clear hsp hpl hrl hkid
  gi_wp2_with fail
  exact hK
 case body =>
  rintro l j args A Wp W hj hz1 ⟨⟨L, h1, h2⟩, h3⟩ hE ⟨q, x, p, r, ax, capx, hsp, hpl, hrl, rfl, hkid⟩ hT
  have hA2 : Ext A (Wp.alloc (.cells #[.int .i64 x.o, .int .i64 x.n, .string x.t, .slice ax x.k.len capx, .int .i64 x.i] 93)) := hE.trans ((Ext.refl _).alloc _)
  have hBx : Boxed W w.heap.size 3 (.int .i64 (L : Int)) := hT.boxed ((hA2.block _ h1.lt).trans h1)
  have hbW : Below w.heap.size w W := (h3.trans (hA2.mono h3.size)).trans (hT.below (by omega))
  have d0 : W.cell? ⟨Wp.heap.size, 0, none⟩ = some (.int .i64 x.o) := hT.cell (by rw [World.cell?_alloc_new]; rfl)
  have d1 : W.cell? ⟨Wp.heap.size, 1, none⟩ = some (.int .i64 x.n) := hT.cell (by rw [World.cell?_alloc_new]; rfl)
  have d2 : W.cell? ⟨Wp.heap.size, 2, none⟩ = some (.string x.t) := hT.cell (by rw [World.cell?_alloc_new]; rfl)
  have d3 : W.cell? ⟨Wp.heap.size, 3, none⟩ = some (.slice ax x.k.len capx) := hT.cell (by rw [World.cell?_alloc_new]; rfl)
  obtain ⟨hcx, fsx, hsx, hfx⟩ := hkid
  have hw0 := hB0.size
  have hsW : SubAt W ax x.k fsx := (hsx.below hfx hB0).below (fun c hc => by have := hfx c hc; omega) hbW
  have hcall := leadi_step W x.o x.n x.t x.k (leadI _ x.k (Nat.le_refl _)) ax capx fsx hsW (fun c hc => by have := hfx c hc; have := hbW.size; omega) hcx (hsz x (by rw [hsp]; simp))
  have hdr : its.drop j = x :: r := by rw [hsp, ← hpl]; simp
  have hdr1 : its.drop (j + 1) = r := by rw [hsp, ← hpl]; simp
  have hld : ldI (x :: r) = nD x.o x.t x.k + if eD x.o x.k then 0 else ldI r := rfl
  rw [hdr, hld] at h2
  have c1 := hBx.cell
  have HB := Lib.hid (And.intro hBx (And.intro hbW hdr1))
  obtain ⟨N, hN⟩ : ∃ N, nD x.o x.t x.k = N := ⟨_, rfl⟩
  rw [hN] at hcall h2
  cases he : eD x.o x.k with
  | true =>
    rw [he] at hcall h2
    have HC := Lib.hid hcall
    have H2 := Lib.hid (show L + N = ldI its by simpa using h2)
    have hLN : L + N ≤ 4194304 := by have := H2.out; omega
    clear hcall h2 hdr hdr1 hld hsW hfx hsx hcx hT hE h1 h3 hA2 hBx hbW hN hst hst0 hbx hX0 hE0
    gi_wp2_with fail
    refine ⟨trivial, (CallsIn.inRound _ (callsIn_wide.2 HC.out)).mono ?_⟩
    rintro e2 w2 ⟨rfl, hb2⟩
    obtain ⟨hBx, hbW, _⟩ := HB.out
    have hB2 : Boxed w2 w.heap.size 3 (.int .i64 (L : Int)) := (hb2.block _ hBx.lt).trans hBx
    have c2 := hB2.cell
    have f2 := hB2.frozen
    have H3 := Lib.hid (And.intro hB2 (And.intro (hbW.trans (hb2.mono hbW.size)) (keeps_of_ext hb2)))
    clear hb2 hB2 hBx hbW
    gi_wp2_with fail
    obtain ⟨hB2, hbW2, hko⟩ := H3.out
    refine ⟨hko.trans (KeepsOthers.setCell _ _ _), rfl, ?_, hbW2.setCell (p := ⟨w.heap.size, 0, none⟩) (Nat.le_refl _) _⟩
    rw [← H2.out]
    exact hB2.set _
  | false =>
    rw [he] at hcall h2
    have HC := Lib.hid hcall
    have H2 := Lib.hid (show L + N + ldI r = ldI its by simp at h2; omega)
    have hLN : L + N ≤ 4194304 := by have := H2.out; omega
    clear hcall h2 hdr hdr1 hld hsW hfx hsx hcx hT hE h1 h3 hA2 hBx hbW hN hst hst0 hbx hX0 hE0
    gi_wp2_with fail
    refine ⟨trivial, (CallsIn.inRound _ (callsIn_wide.2 HC.out)).mono ?_⟩
    rintro e2 w2 ⟨rfl, hb2⟩
    obtain ⟨hBx, hbW, hdr1⟩ := HB.out
    have hB2 : Boxed w2 w.heap.size 3 (.int .i64 (L : Int)) := (hb2.block _ hBx.lt).trans hBx
    have c2 := hB2.cell
    have f2 := hB2.frozen
    have H3 := Lib.hid (And.intro hB2 (And.intro (hbW.trans (hb2.mono hbW.size)) (And.intro (keeps_of_ext hb2) (And.intro hdr1 (show Keep (fun c => c ≠ w.heap.size ∧ c < w.heap.size + 2) W w2 from Keep.of_ext hb2)))))
    clear hb2 hB2 hBx hbW hdr1
    gi_wp2_with fail
    obtain ⟨hB2, hbW2, hko, hdr1, hkp⟩ := H3.out
    refine ⟨hko.trans (KeepsOthers.setCell _ _ _), hkp.trans (Keep.setCell _ _ _ (fun h => h.1 rfl)), ⟨L + N, ?_, by rw [hdr1]; exact H2.out⟩, hbW2.setCell (p := ⟨w.heap.size, 0, none⟩) (Nat.le_refl _) _⟩
    exact hB2.set _
 case done =>
  rintro D A W hD ⟨⟨L, h1, h2⟩, h3⟩ ⟨B', hE, hT⟩ hK
  have hBx : Boxed W w.heap.size 3 (.int .i64 (L : Int)) := hT.boxed ((hE.block _ h1.lt).trans h1)
  have hbW : Below w.heap.size w W := (h3.trans (hE.mono h3.size)).trans (hT.below (by omega))
  rw [List.drop_length] at h2
  obtain rfl : L = ldI its := by simpa [ldI] using h2
  have c1 := hBx.cell
  go_wp2_with fail
  exact leave_mark hK (results_tmp rfl _ _ _) ⟨rfl, hbW.trans ((turn_put (lo := w.heap.size) _ hK rfl (by omega)).below (Nat.le_refl _))⟩
 case stop =>
  rintro D c A W hD ⟨rfl, h1, h3⟩ ⟨B', hE, hT⟩ hK
  have hBx : Boxed W w.heap.size 3 (.int .i64 (ldI its : Nat)) := hT.boxed ((hE.block _ h1.lt).trans h1)
  have hbW : Below w.heap.size w W := (h3.trans (hE.mono h3.size)).trans (hT.below (by omega))
  have c1 := hBx.cell
  refine wpIn_wide.2 ?_
  go_wp2_with fail
  exact leave_mark hK (results_tmp rfl _ _ _) ⟨rfl, hbW.trans ((turn_put (lo := w.heap.size) _ hK rfl (by omega)).below (Nat.le_refl _))⟩
end Go.Proofs.Ytjcaiecapapceaa.Lead
