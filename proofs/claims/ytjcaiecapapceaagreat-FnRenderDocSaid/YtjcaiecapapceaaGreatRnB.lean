import Derived.Test.YtjcaiecapapceaaGreatRfX
import Derived.Test.YtjcaiecapapceaaGreatRnA
import Derived.Test.YtjcaiecapapceaaGreatRnD
/-
 slices.Backward of the program over a document's Kids, and over a stack of items.
-/
set_option linter.unusedVariables false
set_option linter.unusedSimpArgs false
set_option maxRecDepth 100000
set_option maxHeartbeats 3200000
namespace Go.Proofs.YtjcaiecapapceaaGreat.Bwd
open Go.RowKit P1 Cnt CntC Flat Wid ChP Rn Rf
attribute [local go_sem] Oper.semAt_some
def KidsIn (w0 : World) (B : Nat) (k : F) (a : Option Addr) (cap : Nat) : Prop := k.len ≤ cap ∧ ∃ fs, SubAt w0 a k fs ∧ ∀ q ∈ fs, q < B
def XK (w0 : World) (B : Nat) (K : F) (j : Nat) (args : Array Value) (A W : World) : Prop := ∃ (q : Nat) (p : F) (o n : Int) (t : ByteArray) (k r : F) (a : Option Addr) (cap : Nat),
 K = p.app (.cons o n t k r) ∧ p.len = q ∧ q + 1 + j = K.len ∧ args = #[.int .i64 (q : Int), .agg #[.int .i64 o, .int .i64 n, .string t, .slice a k.len cap]] ∧ KidsIn w0 B k a cap
theorem backKids {B cb : Nat} {w0 wx : World} (hb0 : Below B w0 wx) {K : F} {a : Option Addr} {cap : Nat} (hK : KidsIn w0 B K a cap) (hbox : wx.cell? ⟨cb, 0, none⟩ = some (.slice a K.len cap)) (hlen : K.len ≤ 4194304) :
  Gives Tryz.prog 172 #[.pointer (some ⟨cb, 0, none⟩)] (XK w0 B K) (fun c => c < B ∨ c = cb) K.len wx := by
 intro m l J Jx W hm hW hY h0
 have hcbl : cb < wx.heap.size := World.block_lt_of_cell? wx _ hbox
 have HKEEP := Lib.hid (show ∀ w, Keep (fun c => c < B ∨ c = cb) W w → w.cell? ⟨cb, 0, none⟩ = some (.slice a K.len cap) ∧ (∀ c o, c < B → c < w0.heap.size → w.cell? ⟨c, o, none⟩ = w0.cell? ⟨c, o, none⟩) from fun w h => by
  refine ⟨?_, fun c o hc h0 => ?_⟩
  ·rw [World.cell?_of_block (w := W) (h.2 cb (Or.inr rfl) (Nat.lt_of_lt_of_le hcbl hW.size)), hW.cell hcbl]; exact hbox
  ·rw [World.cell?_of_block (w := W) (h.2 c (Or.inl hc) (Nat.lt_of_lt_of_le h0 (Nat.le_trans hb0.size hW.size))), hW.cell (Nat.lt_of_lt_of_le h0 hb0.size)]
   exact hb0.cell (p := ⟨c, o, none⟩) hc)
 have hcb := (HKEEP.out W (Keep.refl _ _)).1
 obtain ⟨N, hN⟩ : ∃ N, K.len = N := ⟨_, rfl⟩
 have HK := Lib.hid (And.intro hK hN)
 rw [hN] at hlen hY hcb HKEEP ⊢
 have HY := Lib.hid hY
 clear hY hN hK hW hbox hb0 hcbl
 refine callsIn_of_wp Tryz.func172 rfl trivial ?_ rfl
 simp only [Tryz.ntmps172, List.size_toArray, List.length_cons, List.length_nil, Nat.reduceAdd, Nat.reduceSub, Array.replicate_succ, Array.replicate_zero, List.push_toArray, List.append_toArray, List.nil_append, List.cons_append]
 gi_wp2_with fail
 gi_loopw [3] (fun i wr => ∃ (q : Nat) (A : World), q ≤ N ∧ i = .int .i64 ((q : Int) - 1) ∧ J (N - q) A ∧ Ext A wr ∧ Keep (fun c => c < B ∨ c = cb) W wr) (fun i _ => (intOf i + 1).toNat)
 case atStart => exact ⟨N, W, Nat.le_refl _, rfl, by rw [Nat.sub_self]; exact h0, Ext.refl _, Keep.refl _ _⟩
 case round =>
  obtain ⟨q, A, hq, rfl, hJ, hA, hKp⟩ := hrel
  cases q with
  | zero =>
    rw [show ((0 : Nat) : Int) - 1 = -1 by omega]
    rw [Nat.sub_zero] at hJ
    gi_wp2_with fail
    go_end0
    exact ⟨⟨_, rfl⟩, .inl ⟨A, hJ, hA⟩⟩
  | succ q =>
    rw [show ((q + 1 : Nat) : Int) - 1 = (q : Int) by omega]
    obtain ⟨c1, hbel⟩ := HKEEP.out wr hKp
    obtain ⟨⟨hcap, fs, hs, hfs⟩, hN⟩ := HK.out
    obtain ⟨p, o, n, t, k, r, hsp, hpl⟩ := F.at_len K q (by omega)
    rcases hs with ⟨rfl, _⟩ | ⟨b1, off, f', rfl, hnil, rfl, hrow⟩
    ·simp only [F.len] at hN; omega
    ·rw [hsp] at hrow
     obtain ⟨a1, cap1, f1, d0, d1, d2, d3, hc1, hsub1, hin⟩ := row_at hrow
     rw [hpl] at d0 d1 d2 d3
     have hb1 : b1 < B := hfs b1 (by simp)
     have hb1l : b1 < w0.heap.size := World.block_lt_of_cell? w0 _ d0
     rw [← hbel b1 _ hb1 hb1l] at d0 d1 d2 d3
     have hXK : XK w0 B K (N - (q + 1)) #[.int .i64 (q : Int), .agg #[.int .i64 o, .int .i64 n, .string t, .slice a1 k.len cap1]] A wr :=
      ⟨q, p, o, n, t, k, r, a1, cap1, hsp, hpl, by omega, rfl, hc1, f1, hsub1, fun c hc => hfs c (by simp [hin c hc])⟩
     obtain ⟨fn, tmps, assign, body, hy, hR⟩ := HY.out (N - (q + 1)) _ A wr (by omega) hJ hA hXK
     have HR := Lib.hid hR
     have hqq : ((N - (q + 1) + 1 : Nat)) = N - q := by omega
     rw [hqq] at HR
     have i0 : (0 : Int) ≤ (q : Int) := Int.natCast_nonneg _
     have i1 : (q : Int) < (N : Int) := by omega
     have HKP := Lib.hid hKp
     clear hR hKp hXK hsub1 hin hrow hbel hsp hpl hqq hJ hA
     gi_wp2_with fail
     refine HR.out.mono ?_
     rintro e W3 (⟨rfl, hJ3, hk3⟩ | ⟨rfl, hJx3⟩)
     ·have HK3 := Lib.hid (HKP.out.trans hk3)
      have HJ3 := Lib.hid hJ3
      clear hJ3 hk3 hy
      gi_wp2_with fail
      go_roundw
      case rel => exact ⟨q, W3, by omega, by go_num, HJ3.out, Ext.refl _, HK3.out⟩
      case measure => simp [intOf]
     ·have HJ3 := Lib.hid hJx3
      clear hJx3 hy
      gi_wp2_with fail
      refine bodyPost_ret (results_none rfl _ _ _) rfl ?_
      exact ⟨⟨_, rfl⟩, .inr ⟨_, HJ3.out, Ext.refl _⟩⟩
end Go.Proofs.YtjcaiecapapceaaGreat.Bwd
namespace Go.Proofs.YtjcaiecapapceaaGreat.Bwd
open Go.RowKit P1 Cnt CntC Flat Wid ChP Rn Rf
attribute [local go_sem] Oper.semAt_some
def ItV (w0 : World) (B : Nat) (x : Itm) (c : List Value) : Prop := ∃ (a : Option Addr) (cap : Nat), c = [.int .i64 x.o, .int .i64 x.n, .string x.t, .slice a x.k.len cap, .int .i64 x.i] ∧ KidsIn w0 B x.k a cap
theorem ItV.len {w0 : World} {B : Nat} : ∀ (x : Itm) (c : List Value), ItV w0 B x c → c.length = 5 := by
 rintro x c ⟨a, cap, rfl, _⟩; rfl
theorem stack_at {w0 w : World} {B : Nat} {T : TypeId} {lo : Nat} {x : Itm} {st : List Itm} : ∀ (p : List Itm) (v : Value), StackG (ItV w0 B) 5 w T lo v (p ++ x :: st) →
  ∃ g cap c, v = .slice (some ⟨g, 0, none⟩) (p ++ x :: st).length cap ∧ g < w.heap.size ∧ lo ≤ g ∧ (p ++ x :: st).length ≤ cap ∧ ItV w0 B x c ∧ (∀ j, j < 5 → w.cell? ⟨g, st.length * 5 + j, none⟩ = c[j]?)
 | [], v, h => by
   obtain ⟨g, cap, c, rfl, h1, h2, h3, _, h5, h6, _⟩ := h.top ItV.len
   exact ⟨g, cap, c, rfl, h2, h1, h3, h5, h6⟩
 | y :: p, v, h => by
   obtain ⟨g, cap, c, rfl, h1, h2, h3, _, h5, h6, h7⟩ := StackG.top ItV.len (x := y) (st := p ++ x :: st) h
   obtain ⟨g', cap', c', e, k2, k1, k3, k5, k6⟩ := stack_at p _ h7
   injection e with e1 e2 e3
   injection e1 with e1
   injection e1 with e1
   subst e1 e3
   exact ⟨g, cap, c', rfl, h2, h1, h3, k5, k6⟩
def XI (w0 : World) (B : Nat) (its : List Itm) (j : Nat) (args : Array Value) (A W : World) : Prop := ∃ (q : Nat) (x : Itm) (p r : List Itm) (a : Option Addr) (cap : Nat),
 its = p ++ x :: r ∧ p.length = j ∧ r.length = q ∧ args = #[.int .i64 (q : Int), .agg #[.int .i64 x.o, .int .i64 x.n, .string x.t, .slice a x.k.len cap, .int .i64 x.i]] ∧ KidsIn w0 B x.k a cap
theorem split_at {α : Type} : ∀ (l : List α) (q : Nat), q < l.length → ∃ p x r, l = p ++ x :: r ∧ r.length = q
 | [], q, h => by simp at h
 | y :: l, q, h => by
   by_cases e : q = l.length
   ·exact ⟨[], y, l, rfl, e.symm⟩
   ·obtain ⟨p, x, r, h1, h2⟩ := split_at l q (by simp at h; omega)
    exact ⟨y :: p, x, r, by rw [h1]; rfl, h2⟩
theorem backItems {w0 wx : World} {B cb lo : Nat} {Pc : Nat → Prop} {its : List Itm} {a : Option Addr} {cap : Nat} (hst : StackG (ItV w0 B) 5 wx 109 lo (.slice a its.length cap) its) (hbox : wx.cell? ⟨cb, 0, none⟩ = some (.slice a its.length cap))
  (hcb : Pc cb) (hPg : ∀ g, a = some ⟨g, 0, none⟩ → Pc g) (hlen : its.length ≤ 4194304) :
  Gives Tryz.prog 191 #[.pointer (some ⟨cb, 0, none⟩)] (XI w0 B its) Pc its.length wx := by
 intro m l J Jx W hm hW hY h0
 have hcbl : cb < wx.heap.size := World.block_lt_of_cell? wx _ hbox
 have HKEEP := Lib.hid (show ∀ w, Keep Pc W w → w.cell? ⟨cb, 0, none⟩ = some (.slice a its.length cap) ∧ (∀ g o, a = some ⟨g, 0, none⟩ → g < wx.heap.size → w.cell? ⟨g, o, none⟩ = wx.cell? ⟨g, o, none⟩) from fun w h => by
  refine ⟨?_, fun c o hc h0 => ?_⟩
  ·rw [World.cell?_of_block (w := W) (h.2 cb hcb (Nat.lt_of_lt_of_le hcbl hW.size)), hW.cell hcbl]; exact hbox
  ·rw [World.cell?_of_block (w := W) (h.2 c (hPg c hc) (Nat.lt_of_lt_of_le h0 hW.size)), hW.cell h0])
 have hc0 := (HKEEP.out W (Keep.refl _ _)).1
 obtain ⟨N, hN⟩ : ∃ N, its.length = N := ⟨_, rfl⟩
 have HK := Lib.hid (And.intro hst hN)
 rw [hN] at hlen hY hc0 HKEEP ⊢
 have HY := Lib.hid hY
 clear hY hN hst hW hbox hcbl hcb hPg
 refine callsIn_of_wp Tryz.func191 rfl trivial ?_ rfl
 simp only [Tryz.ntmps191, List.size_toArray, List.length_cons, List.length_nil, Nat.reduceAdd, Nat.reduceSub, Array.replicate_succ, Array.replicate_zero, List.push_toArray, List.append_toArray, List.nil_append, List.cons_append]
 gi_wp2_with fail
 gi_loopw [3] (fun i wr => ∃ (q : Nat) (A : World), q ≤ N ∧ i = .int .i64 ((q : Int) - 1) ∧ J (N - q) A ∧ Ext A wr ∧ Keep Pc W wr) (fun i _ => (intOf i + 1).toNat)
 case atStart => exact ⟨N, W, Nat.le_refl _, rfl, by rw [Nat.sub_self]; exact h0, Ext.refl _, Keep.refl _ _⟩
 case round =>
  obtain ⟨q, A, hq, rfl, hJ, hA, hKp⟩ := hrel
  cases q with
  | zero =>
    rw [show ((0 : Nat) : Int) - 1 = -1 by omega]
    rw [Nat.sub_zero] at hJ
    gi_wp2_with fail
    go_end0
    exact ⟨⟨_, rfl⟩, .inl ⟨A, hJ, hA⟩⟩
  | succ q =>
    rw [show ((q + 1 : Nat) : Int) - 1 = (q : Int) by omega]
    obtain ⟨c1, hbel⟩ := HKEEP.out wr hKp
    obtain ⟨hst, hN⟩ := HK.out
    obtain ⟨p, x, r, hsp, hrl⟩ := split_at its q (by omega)
    rw [hsp] at hst
    obtain ⟨g, cap', c, e, hgl, _, hcl, ⟨a1, cap1, rfl, hkid⟩, hcell⟩ := stack_at p _ hst
    injection e with e1 e2 e3
    subst e1 e3
    rw [← hsp, hN] at hcl
    rw [hrl] at hcell
    have d0 := hcell 0 (by omega)
    have d1 := hcell 1 (by omega)
    have d2 := hcell 2 (by omega)
    have d3 := hcell 3 (by omega)
    have d4 := hcell 4 (by omega)
    rw [← hbel g _ rfl hgl] at d0 d1 d2 d3 d4
    simp only [List.getElem?_cons_zero, List.getElem?_cons_succ, Nat.add_zero] at d0 d1 d2 d3 d4
    have hpl : p.length + (1 + r.length) = N := by rw [← hN, hsp]; simp; omega
    have hXI : XI w0 B its (N - (q + 1)) #[.int .i64 (q : Int), .agg #[.int .i64 x.o, .int .i64 x.n, .string x.t, .slice a1 x.k.len cap1, .int .i64 x.i]] A wr :=
     ⟨q, x, p, r, a1, cap1, hsp, by omega, hrl, rfl, hkid⟩
    obtain ⟨fn, tmps, assign, body, hy, hR⟩ := HY.out (N - (q + 1)) _ A wr (by omega) hJ hA hXI
    have HR := Lib.hid hR
    have hqq : ((N - (q + 1) + 1 : Nat)) = N - q := by omega
    rw [hqq] at HR
    have i0 : (0 : Int) ≤ (q : Int) := Int.natCast_nonneg _
    have i1 : (q : Int) < (N : Int) := by omega
    have HKP := Lib.hid hKp
    clear hR hKp hXI hkid hcell hbel hsp hpl hqq hJ hA hrl hst
    gi_wp2_with fail
    refine HR.out.mono ?_
    rintro e W3 (⟨rfl, hJ3, hk3⟩ | ⟨rfl, hJx3⟩)
    ·have HK3 := Lib.hid (HKP.out.trans hk3)
     have HJ3 := Lib.hid hJ3
     clear hJ3 hk3 hy
     gi_wp2_with fail
     go_roundw
     case rel => exact ⟨q, W3, by omega, by go_num, HJ3.out, Ext.refl _, HK3.out⟩
     case measure => simp [intOf]
    ·have HJ3 := Lib.hid hJx3
     clear hJx3 hy
     gi_wp2_with fail
     refine bodyPost_ret (results_none rfl _ _ _) rfl ?_
     exact ⟨⟨_, rfl⟩, .inr ⟨_, HJ3.out, Ext.refl _⟩⟩
end Go.Proofs.YtjcaiecapapceaaGreat.Bwd
namespace Go.Proofs.YtjcaiecapapceaaGreat.Lead
open Go.RowKit Go.Shelf P1 Cnt CntC Flat Wid ChP Rn Rf Bwd
attribute [local go_sem] Oper.semAt_some
theorem backI (a : Option Addr) (n cap : Nat) (w : World) : Calls Tryz.prog 186 #[.slice a n cap] w fun e w' => e = .returned (.func (.func 191) #[] #[.pointer (some ⟨w.heap.size, 0, none⟩)]) ∧ w' = w.alloc (.cells #[.slice a n cap] 58) := by
 go_enter Tryz.func186, Tryz.ntmps186
 go_wp2_with fail
 go_ret
 exact ⟨rfl, rfl⟩
theorem leadBehind {w0 w : World} {B b lo : Nat} {its : List Itm} {a : Option Addr} {cap : Nat} (hB0 : Below B w0 w) (hB : B ≤ w0.heap.size) (hst : StackG (ItV w0 B) 5 w 109 lo (.slice a its.length cap) its) (hr : w.cell? ⟨b, 5, none⟩ = some (.slice a its.length cap))
  (hlen : its.length ≤ 4194304) (hsz : ∀ x ∈ its, x.t.size + x.k.size ≤ 4194304) (hsum : ldI its ≤ 4194304) :
  Calls Tryz.prog 171 #[.pointer (some ⟨b, 0, none⟩)] w fun e w' => e = .returned (.int .i64 (ldI its : Nat)) ∧ Below w.heap.size w w' := by
 have hbl : b < w.heap.size := World.block_lt_of_cell? w _ hr
 refine calls_marks Tryz.func171 rfl ?_
 simp only [Tryz.ntmps171, List.size_toArray, List.length_cons, List.length_nil, Nat.reduceAdd, Nat.reduceSub, Array.replicate_succ, Array.replicate_zero, List.push_toArray, List.append_toArray, List.nil_append, List.cons_append]
 have HBK := Lib.hid (backI a its.length cap)
 go_wp2_with fail
 refine (HBK.out _).mono ?_
 rintro e1 w1 ⟨rfl, rfl⟩
 go_wp2_with fail
 obtain ⟨W0, hW0⟩ : ∃ W0, (w.alloc (.cells #[.int .i64 0] 3)).alloc (.cells #[.slice a its.length cap] 58) = W0 := ⟨_, rfl⟩
 have hz : W0.heap.size = w.heap.size + 2 := by rw [← hW0]; simp
 have hE0 : Ext w W0 := by rw [← hW0]; exact ((Ext.refl w).alloc _).alloc _
 have hX0 : Boxed W0 w.heap.size 3 (.int .i64 0) := by
  rw [← hW0]; exact ((Ext.refl _).alloc _).block _ (by simp) |>.trans (Boxed.new w 3 (.int .i64 0))
 have hbx : W0.cell? ⟨w.heap.size + 1, 0, none⟩ = some (.slice a its.length cap) := by
  rw [← hW0, show w.heap.size + 1 = (w.alloc (.cells #[.int .i64 0] 3)).heap.size by simp, World.cell?_alloc_new]; rfl
 try rw [hW0]
 have hst0 := hst.below (Nat.le_refl _) hE0
 have hgl : ∀ g, a = some ⟨g, 0, none⟩ → g < w.heap.size := fun g hg => by
  refine (hst.own_lt g ?_).2
  rw [hg]; rfl
 refine wpIn_wide.1 (rangeFunc_gives2 (n := 7) (gf := 191) (lb := #[.pointer (some ⟨w.heap.size + 1, 0, none⟩)]) (X := XI w0 B its) (Pc := fun c => c ≠ w.heap.size ∧ c < w.heap.size + 2) (N := its.length) ?g0 (enters_of Tryz.func191 (by kernel_rfl) rfl) (by omega) (backItems hst0 hbx ⟨by omega, by omega⟩ (fun g hg => ⟨by have := hgl g hg; omega, by have := hgl g hg; omega⟩) hlen) (fun c hc => by omega) (fun k args A W hX => by obtain ⟨q, x, p, r, a, cap, _, _, _, rfl, _⟩ := hX; rfl)
  (fun j A => (∃ L : Nat, Boxed A w.heap.size 3 (.int .i64 (L : Int)) ∧ L + ldI (its.drop j) = ldI its) ∧ Below w.heap.size w A)
  (fun c A => c = .exit 0 ∧ Boxed A w.heap.size 3 (.int .i64 (ldI its : Nat)) ∧ Below w.heap.size w A)
  (fun j A B ⟨⟨L, h1, h2⟩, h3⟩ hA hT => ⟨⟨L, hT.boxed h1, h2⟩, h3.trans (hT.below (by omega))⟩)
  (fun A B ⟨⟨L, h1, h2⟩, h3⟩ hE => ⟨⟨L, (hE.block _ h1.lt).trans h1, h2⟩, h3.trans (hE.mono h3.size)⟩)
  (fun c A B ⟨h0, h1, h3⟩ hA hT => ⟨h0, hT.boxed h1, h3.trans (hT.below (by omega))⟩)
  ⟨⟨0, hX0, by simp⟩, hE0⟩
  (fun args W => { tmps := #[.pointer (some ⟨b, 0, none⟩), undef, .int .i64 0, .pointer (some ⟨w.heap.size, 0, none⟩), undef, .pointer (some ⟨W.heap.size, 0, none⟩), undef, undef, .pointer (some ⟨b, 0, none⟩), .pointer (some ⟨b, 0, none⟩), .pointer (some ⟨b, 5, none⟩), .slice a its.length cap, .func (.func 191) #[] #[.pointer (some ⟨w.heap.size + 1, 0, none⟩)], args.getD 0 undef, args.getD 1 undef, undef, undef, undef, undef, undef, undef, undef, undef, undef, undef, undef], defers := [] })
  (fun args W => W.alloc (.cells (args.getD 1 undef).cells 109)) (fun args W => (Ext.refl W).alloc _) ?assign ?body ?done ?stop)
 case g0 => rfl
 case assign =>
  rintro l j args A W K ⟨q, x, p, r, ax, capx, hsp, hpl, hrl, rfl, hkid⟩ hK
  clear hsp hpl hrl hkid
  gi_wp2_with fail
  exact hK
 case body =>
  rintro l j args A Wp W hj hz1 ⟨⟨L, h1, h2⟩, h3⟩ hE ⟨q, x, p, r, ax, capx, hsp, hpl, hrl, rfl, hkid⟩ hT
  have hA2 : Ext A (Wp.alloc (.cells #[.int .i64 x.o, .int .i64 x.n, .string x.t, .slice ax x.k.len capx, .int .i64 x.i] 109)) := hE.trans ((Ext.refl _).alloc _)
  have hBx : Boxed W w.heap.size 3 (.int .i64 (L : Int)) := hT.boxed ((hA2.block _ h1.lt).trans h1)
  have hbW : Below w.heap.size w W := (h3.trans (hA2.mono h3.size)).trans (hT.below (by omega))
  have d0 : W.cell? ⟨Wp.heap.size, 0, none⟩ = some (.int .i64 x.o) := hT.cell (by rw [World.cell?_alloc_new]; rfl)
  have d1 : W.cell? ⟨Wp.heap.size, 1, none⟩ = some (.int .i64 x.n) := hT.cell (by rw [World.cell?_alloc_new]; rfl)
  have d2 : W.cell? ⟨Wp.heap.size, 2, none⟩ = some (.string x.t) := hT.cell (by rw [World.cell?_alloc_new]; rfl)
  have d3 : W.cell? ⟨Wp.heap.size, 3, none⟩ = some (.slice ax x.k.len capx) := hT.cell (by rw [World.cell?_alloc_new]; rfl)
  obtain ⟨hcx, fsx, hsx, hfx⟩ := hkid
  have hw0 := hB0.size
  have hsW : SubAt W ax x.k fsx := (hsx.below hfx hB0).below (fun c hc => by have := hfx c hc; omega) hbW
  have hcall := leadi_step W x.o x.n x.t x.k (leadI _ x.k (Nat.le_refl _)) ax capx fsx hsW (fun c hc => by have := hfx c hc; have := hbW.size; omega) hcx (hsz x (by rw [hsp]; simp))
  have hdr : its.drop j = x :: r := by rw [hsp, ← hpl]; simp
  have hdr1 : its.drop (j + 1) = r := by rw [hsp, ← hpl]; simp
  have hld : ldI (x :: r) = nD x.o x.t x.k + if eD x.o x.k then 0 else ldI r := rfl
  rw [hdr, hld] at h2
  have c1 := hBx.cell
  have HB := Lib.hid (And.intro hBx (And.intro hbW hdr1))
  obtain ⟨N, hN⟩ : ∃ N, nD x.o x.t x.k = N := ⟨_, rfl⟩
  rw [hN] at hcall h2
  cases he : eD x.o x.k with
  | true =>
    rw [he] at hcall h2
    have HC := Lib.hid hcall
    have H2 := Lib.hid (show L + N = ldI its by simpa using h2)
    have hLN : L + N ≤ 4194304 := by have := H2.out; omega
    clear hcall h2 hdr hdr1 hld hsW hfx hsx hcx hT hE h1 h3 hA2 hBx hbW hN hst hst0 hbx hX0 hE0
    gi_wp2_with fail
    refine ⟨trivial, (CallsIn.inRound _ (callsIn_wide.2 HC.out)).mono ?_⟩
    rintro e2 w2 ⟨rfl, hb2⟩
    obtain ⟨hBx, hbW, _⟩ := HB.out
    have hB2 : Boxed w2 w.heap.size 3 (.int .i64 (L : Int)) := (hb2.block _ hBx.lt).trans hBx
    have c2 := hB2.cell
    have f2 := hB2.frozen
    have H3 := Lib.hid (And.intro hB2 (And.intro (hbW.trans (hb2.mono hbW.size)) (keeps_of_ext hb2)))
    clear hb2 hB2 hBx hbW
    gi_wp2_with fail
    obtain ⟨hB2, hbW2, hko⟩ := H3.out
    refine ⟨hko.trans (KeepsOthers.setCell _ _ _), rfl, ?_, hbW2.setCell (p := ⟨w.heap.size, 0, none⟩) (Nat.le_refl _) _⟩
    rw [← H2.out]
    exact hB2.set _
  | false =>
    rw [he] at hcall h2
    have HC := Lib.hid hcall
    have H2 := Lib.hid (show L + N + ldI r = ldI its by simp at h2; omega)
    have hLN : L + N ≤ 4194304 := by have := H2.out; omega
    clear hcall h2 hdr hdr1 hld hsW hfx hsx hcx hT hE h1 h3 hA2 hBx hbW hN hst hst0 hbx hX0 hE0
    gi_wp2_with fail
    refine ⟨trivial, (CallsIn.inRound _ (callsIn_wide.2 HC.out)).mono ?_⟩
    rintro e2 w2 ⟨rfl, hb2⟩
    obtain ⟨hBx, hbW, hdr1⟩ := HB.out
    have hB2 : Boxed w2 w.heap.size 3 (.int .i64 (L : Int)) := (hb2.block _ hBx.lt).trans hBx
    have c2 := hB2.cell
    have f2 := hB2.frozen
    have H3 := Lib.hid (And.intro hB2 (And.intro (hbW.trans (hb2.mono hbW.size)) (And.intro (keeps_of_ext hb2) (And.intro hdr1 (show Keep (fun c => c ≠ w.heap.size ∧ c < w.heap.size + 2) W w2 from Keep.of_ext hb2)))))
    clear hb2 hB2 hBx hbW hdr1
    gi_wp2_with fail
    obtain ⟨hB2, hbW2, hko, hdr1, hkp⟩ := H3.out
    refine ⟨hko.trans (KeepsOthers.setCell _ _ _), hkp.trans (Keep.setCell _ _ _ (fun h => h.1 rfl)), ⟨L + N, ?_, by rw [hdr1]; exact H2.out⟩, hbW2.setCell (p := ⟨w.heap.size, 0, none⟩) (Nat.le_refl _) _⟩
    exact hB2.set _
 case done =>
  rintro D A W hD ⟨⟨L, h1, h2⟩, h3⟩ ⟨B', hE, hT⟩ hK
  have hBx : Boxed W w.heap.size 3 (.int .i64 (L : Int)) := hT.boxed ((hE.block _ h1.lt).trans h1)
  have hbW : Below w.heap.size w W := (h3.trans (hE.mono h3.size)).trans (hT.below (by omega))
  rw [List.drop_length] at h2
  obtain rfl : L = ldI its := by simpa [ldI] using h2
  have c1 := hBx.cell
  go_wp2_with fail
  exact leave_mark hK (results_tmp rfl _ _ _) ⟨rfl, hbW.trans ((turn_put (lo := w.heap.size) _ hK rfl (by omega)).below (Nat.le_refl _))⟩
 case stop =>
  rintro D c A W hD ⟨rfl, h1, h3⟩ ⟨B', hE, hT⟩ hK
  have hBx : Boxed W w.heap.size 3 (.int .i64 (ldI its : Nat)) := hT.boxed ((hE.block _ h1.lt).trans h1)
  have hbW : Below w.heap.size w W := (h3.trans (hE.mono h3.size)).trans (hT.below (by omega))
  have c1 := hBx.cell
  refine wpIn_wide.2 ?_
  go_wp2_with fail
  exact leave_mark hK (results_tmp rfl _ _ _) ⟨rfl, hbW.trans ((turn_put (lo := w.heap.size) _ hK rfl (by omega)).below (Nat.le_refl _))⟩
end Go.Proofs.YtjcaiecapapceaaGreat.Lead
