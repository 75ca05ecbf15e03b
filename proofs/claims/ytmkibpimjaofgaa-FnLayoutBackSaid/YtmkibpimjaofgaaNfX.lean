import Derived.Test.YtmkibpimjaofgaaNfB
import Derived.Deep.AppendLies
import Derived.Test.YtmkibpimjaofgaaRfX
/-
  What impl.partsOf comes to: the parts of a document's row, in a row of the call's own, their Kids where they were.
-/
set_option linter.unusedVariables false
set_option linter.unusedSimpArgs false
set_option maxRecDepth 100000
set_option maxHeartbeats 3200000
namespace Go.Proofs.Ytmkibpimjaofgaa.Nf
open Go.RowKit P1 Copy
end Go.Proofs.Ytmkibpimjaofgaa.Nf

namespace Go.Proofs.Ytmkibpimjaofgaa.Nf
open Go.RowKit P1 Copy Rf
attribute [local go_sem] Oper.semAt_some

theorem backK (a : Option Addr) (n cap : Nat) (w : World) : Calls Try.prog 129 #[.slice a n cap] w fun e w' => e = .returned (.func (.func 171) #[] #[.pointer (some ⟨w.heap.size, 0, none⟩)]) ∧ w' = w.alloc (.cells #[.slice a n cap] 27) := by
  go_enter Try.func129, Try.ntmps129
  go_wp2_with fail
  go_ret
  exact ⟨rfl, rfl⟩

def XA (w0 : World) (K : F) (b off : Nat) (j : Nat) (args : Array Value) (A W : World) : Prop := ∃ (q : Nat) (p : F) (o n : Int) (t : ByteArray) (k r : F) (a : Option Addr) (cap : Nat),
  K = p.app (.cons o n t k r) ∧ p.len = q ∧ q + 1 + j = K.len ∧ args = #[.int .i64 (q : Int), .agg #[.int .i64 o, .int .i64 n, .string t, .slice a k.len cap]] ∧ w0.cell? ⟨b, off + q * 4 + 3, none⟩ = some (.slice a k.len cap)

theorem backAt {B cb : Nat} {w0 wx : World} (hb0 : Below B w0 wx) {K : F} {b0 off cap : Nat} {fs : List Nat} (hK : RowAt w0 K b0 off fs) (hB0 : b0 < B) (hbox : wx.cell? ⟨cb, 0, none⟩ = some (.slice (some ⟨b0, off, none⟩) K.len cap)) (hlen : K.len ≤ 4194304) :
    Gives Try.prog 171 #[.pointer (some ⟨cb, 0, none⟩)] (XA w0 K b0 off) (fun c => c < B ∨ c = cb) K.len wx := by
  intro m l J Jx W hm hW hY h0
  have hcbl : cb < wx.heap.size := World.block_lt_of_cell? wx _ hbox
  have HKEEP := Lib.hid (show ∀ w, Keep (fun c => c < B ∨ c = cb) W w → w.cell? ⟨cb, 0, none⟩ = some (.slice (some ⟨b0, off, none⟩) K.len cap) ∧ (∀ c o, c < B → c < w0.heap.size → w.cell? ⟨c, o, none⟩ = w0.cell? ⟨c, o, none⟩) from fun w h => by
    refine ⟨?_, fun c o hc h0 => ?_⟩
    · rw [World.cell?_of_block (w := W) (h.2 cb (Or.inr rfl) (Nat.lt_of_lt_of_le hcbl hW.size)), hW.cell hcbl]; exact hbox
    · rw [World.cell?_of_block (w := W) (h.2 c (Or.inl hc) (Nat.lt_of_lt_of_le h0 (Nat.le_trans hb0.size hW.size))), hW.cell (Nat.lt_of_lt_of_le h0 hb0.size)]
      exact Below.cell (p := ⟨c, o, none⟩) hb0 hc)
  have hcb := (HKEEP.out W (Keep.refl _ _)).1
  obtain ⟨N, hN⟩ : ∃ N, K.len = N := ⟨_, rfl⟩
  have HK := Lib.hid (And.intro hK hN)
  rw [hN] at hlen hY hcb HKEEP ⊢
  have HY := Lib.hid hY
  clear hY hN hK hW hbox hb0 hcbl
  refine callsIn_of_wp Try.func171 rfl trivial ?_ rfl
  simp only [Try.ntmps171, List.size_toArray, List.length_cons, List.length_nil, Nat.reduceAdd, Nat.reduceSub, Array.replicate_succ, Array.replicate_zero, List.push_toArray, List.append_toArray, List.nil_append, List.cons_append]
  gi_wp2_with fail
  gi_loopw [3] (fun i wr => ∃ (q : Nat) (A : World), q ≤ N ∧ i = .int .i64 ((q : Int) - 1) ∧ J (N - q) A ∧ Ext A wr ∧ Keep (fun c => c < B ∨ c = cb) W wr) (fun i _ => (intOf i + 1).toNat)
  case atStart => exact ⟨N, W, Nat.le_refl _, rfl, by rw [Nat.sub_self]; exact h0, Ext.refl _, Keep.refl _ _⟩
  case round =>
    obtain ⟨q, A, hq, rfl, hJ, hA, hKp⟩ := hrel
    cases q with
    | zero =>
      rw [show ((0 : Nat) : Int) - 1 = -1 by omega]
      rw [Nat.sub_zero] at hJ
      gi_wp2_with fail
      go_end0
      exact ⟨⟨_, rfl⟩, .inl ⟨A, hJ, hA⟩⟩
    | succ q =>
      rw [show ((q + 1 : Nat) : Int) - 1 = (q : Int) by omega]
      obtain ⟨c1, hbel⟩ := HKEEP.out wr hKp
      obtain ⟨hrow, hN⟩ := HK.out
      obtain ⟨p, o, n, t, k, r, hsp, hpl⟩ := F.at_len K q (by omega)
      · rw [hsp] at hrow
        obtain ⟨a1, cap1, f1, d0, d1, d2, d3, hc1, hsub1, hin⟩ := row_at hrow
        rw [hpl] at d0 d1 d2 d3
        have hb1l : b0 < w0.heap.size := World.block_lt_of_cell? w0 _ d0
        have hXA : XA w0 K b0 off (N - (q + 1)) #[.int .i64 (q : Int), .agg #[.int .i64 o, .int .i64 n, .string t, .slice a1 k.len cap1]] A wr :=
          ⟨q, p, o, n, t, k, r, a1, cap1, hsp, hpl, by omega, rfl, d3⟩
        rw [← hbel b0 _ hB0 hb1l] at d0 d1 d2 d3
        obtain ⟨fn, tmps, assign, body, hy, hR⟩ := HY.out (N - (q + 1)) _ A wr (by omega) hJ hA hXA
        have HR := Lib.hid hR
        have hqq : ((N - (q + 1) + 1 : Nat)) = N - q := by omega
        rw [hqq] at HR
        have i0 : (0 : Int) ≤ (q : Int) := Int.natCast_nonneg _
        have i1 : (q : Int) < (N : Int) := by omega
        have HKP := Lib.hid hKp
        clear hR hKp hXA hsub1 hin hrow hbel hsp hpl hqq hJ hA
        gi_wp2_with fail
        refine HR.out.mono ?_
        rintro e W3 (⟨rfl, hJ3, hk3⟩ | ⟨rfl, hJx3⟩)
        · have HK3 := Lib.hid (HKP.out.trans hk3)
          have HJ3 := Lib.hid hJ3
          clear hJ3 hk3 hy
          gi_wp2_with fail
          go_roundw
          case rel => exact ⟨q, W3, by omega, by go_num, HJ3.out, Ext.refl _, HK3.out⟩
          case measure => simp [intOf]
        · have HJ3 := Lib.hid hJx3
          clear hJx3 hy
          gi_wp2_with fail
          refine bodyPost_ret (results_none rfl _ _ _) rfl ?_
          exact ⟨⟨_, rfl⟩, .inr ⟨_, HJ3.out, Ext.refl _⟩⟩

end Go.Proofs.Ytmkibpimjaofgaa.Nf

namespace Go.Proofs.Ytmkibpimjaofgaa.Nf
open Go.RowKit Go.Shelf P1 Copy Rf
attribute [local go_sem] Oper.semAt_some

def LoOut (lo : Nat) (w : World) (d : D) (e : Ending) (w' : World) : Prop := ∃ (a : Option Addr) (cap : Nat) (fs : List Nat), e = .returned (.agg #[.int .i64 d.1, .int .i64 d.2.1, .string d.2.2.1, .slice a d.2.2.2.len cap]) ∧ d.2.2.2.len ≤ cap ∧ SubAt w' a d.2.2.2 fs ∧ Fresh lo w' fs ∧ Ext w w'

theorem sub_held {w : World} : ∀ (f : F) (b off : Nat) (fs : List Nat), RowAt w f b off fs → ∀ c ∈ fs, ∃ x v, w.cell? ⟨c, x, none⟩ = some v := by
  intro f
  induction f with
  | nil => intro b off fs h c hc; rw [show fs = [] from h] at hc; cases hc
  | cons o n t k r ihk ihr =>
    intro b off fs h c hc
    obtain ⟨a, cap, f1, f2, _, _, _, _, _, hs, hr, rfl⟩ := RowAt.cons_iff.1 h
    rcases List.mem_append.1 hc with hc | hc
    · rcases hs with ⟨_, _, rfl⟩ | ⟨b1, off1, f', rfl, hne, rfl, hrow⟩
      · cases hc
      · rcases List.mem_cons.1 hc with rfl | hc
        · cases k with
          | nil => exact absurd rfl hne
          | cons o1 n1 t1 k1 r1 =>
            obtain ⟨_, _, _, _, h0, _⟩ := RowAt.cons_iff.1 hrow
            exact ⟨_, _, h0⟩
        · exact ihk _ _ _ hrow c hc
    · exact ihr _ _ _ hr c hc
theorem subAt_held {w : World} {a : Option Addr} {k : F} {fs : List Nat} (hs : SubAt w a k fs) : ∀ c ∈ fs, ∃ x v, w.cell? ⟨c, x, none⟩ = some v := by
  intro c hc
  rcases hs with ⟨_, _, rfl⟩ | ⟨b1, off1, f', rfl, hne, rfl, hrow⟩
  · cases hc
  · rcases List.mem_cons.1 hc with rfl | hc
    · cases k with
      | nil => exact absurd rfl hne
      | cons o1 n1 t1 k1 r1 =>
        obtain ⟨_, _, _, _, h0, _⟩ := RowAt.cons_iff.1 hrow
        exact ⟨_, _, h0⟩
    · exact sub_held _ _ _ _ hrow c hc
theorem subAt_same {A B : World} {a : Option Addr} {k : F} {fs : List Nat} (hs : SubAt A a k fs) (h : ∀ c ∈ fs, B.heap[c]? = A.heap[c]?) : SubAt B a k fs :=
  hs.congr (fun c hc o => World.cell?_of_block (w := A) (h c hc))
theorem fresh_same {A B : World} {lo : Nat} {fs : List Nat} (hf : Fresh lo A fs) (hz : A.heap.size ≤ B.heap.size) (h : ∀ c ∈ fs, B.heap[c]? = A.heap[c]?) : Fresh lo B fs :=
  ⟨hf.1, fun c hc => ⟨(hf.2 c hc).1, Nat.lt_of_lt_of_le (hf.2 c hc).2.1 hz, fun o => (World.frozen?_of_block (w := A) (h c hc)).trans ((hf.2 c hc).2.2 o)⟩⟩

def DVar (A : World) (J : Nat) (d : D) (a : Option Addr) (c : Nat) : Prop := A.heap[J]? = some (.cells #[.int .i64 d.1, .int .i64 d.2.1, .string d.2.2.1, .slice a d.2.2.2.len c] 29 (0, 0))
structure CaI (w : World) (lo : Nat) (p : F) (d : D) (b off J : Nat) (p' g : F) (a : Option Addr) (c : Nat) (fp fJ : List Nat) (A : World) : Prop where
  split : p = p'.app g
  row : RowAt w p' b off fp
  var : DVar A J (catOn g d) a c
  sub : SubAt A a (catOn g d).2.2.2 fJ
  cap : (catOn g d).2.2.2.len ≤ c
  fresh : Fresh lo A (fp ++ fJ)
  old : ∀ q ∈ fp, q < w.heap.size
  apart : ∀ q ∈ fJ, q ≠ J ∧ q ≠ w.heap.size
  zero : A.heap[w.heap.size]? = some (.cells #[.int .i64 0, .int .i64 0, .string ⟨#[]⟩, .slice none 0 0] 29 (0, 0))
  ext : Ext w A
theorem CaI.same {w A B : World} {lo b off J c : Nat} {p p' g : F} {d : D} {a : Option Addr} {fp fJ : List Nat} (h : CaI w lo p d b off J p' g a c fp fJ A) (hz : A.heap.size ≤ B.heap.size) (hb : Ext w B) (hs : ∀ q, (∃ x v, A.cell? ⟨q, x, none⟩ = some v) → B.heap[q]? = A.heap[q]?) : CaI w lo p d b off J p' g a c fp fJ B := by
  have hv : ∀ (q : Nat) (o : Obj) (v : Value), A.heap[q]? = some o → A.cell? ⟨q, 0, none⟩ = some v → B.heap[q]? = some o := fun q o v h1 h2 => (hs q ⟨0, v, h2⟩).trans h1
  have hJ := subAt_held h.sub
  refine ⟨h.split, h.row, hv _ _ (.int .i64 (catOn g d).1) h.var (by simp [World.cell?, show A.heap[J]? = _ from h.var]), subAt_same h.sub (fun q hq => hs q (hJ q hq)), h.cap, fresh_same h.fresh hz (fun q hq => ?_), h.old, h.apart, hv _ _ (.int .i64 0) h.zero (by simp [World.cell?, h.zero]), hb⟩
  rcases List.mem_append.1 hq with hq | hq
  · exact (hb.block q (h.old q hq)).trans (h.ext.block q (h.old q hq)).symm
  · exact hs q (hJ q hq)
theorem CaI.turn {w A B : World} {lo b off J c lt : Nat} {p p' g : F} {d : D} {a : Option Addr} {fp fJ : List Nat} (h : CaI w lo p d b off J p' g a c fp fJ A) (hT : Turn lt A B) (hl : w.heap.size ≤ lt) : CaI w lo p d b off J p' g a c fp fJ B :=
  h.same (Nat.le_of_eq hT.size.symm) (Below.trans h.ext (hT.below hl)) (fun q ⟨x, v, hv⟩ => hT.cells hv)
theorem CaI.later {w A B : World} {lo b off J c : Nat} {p p' g : F} {d : D} {a : Option Addr} {fp fJ : List Nat} (h : CaI w lo p d b off J p' g a c fp fJ A) (e : Ext A B) : CaI w lo p d b off J p' g a c fp fJ B :=
  h.same e.size (h.ext.trans e) (fun q ⟨x, v, hv⟩ => e.block q (World.block_lt_of_cell? A _ hv))

theorem set_at {W : World} {b : Nat} {c : Array Value} {T : TypeId} {fz : Nat × Nat} (h : W.heap[b]? = some (.cells c T fz)) (j : Nat) (v : Value) : (W.setCell ⟨b, j, none⟩ v).heap[b]? = some (.cells (c.set! j v) T fz) := by
  obtain ⟨hlt, hk⟩ := Array.getElem?_eq_some_iff.1 h
  show (W.heap.modify b _)[b]? = _
  rw [Array.getElem?_eq_getElem (by rw [Array.size_modify]; exact hlt), Array.getElem_modify_self, hk]
  rfl
theorem set_four {W : World} {b : Nat} {u0 u1 u2 u3 : Value} {T : TypeId} (h : W.heap[b]? = some (.cells #[u0, u1, u2, u3] T (0, 0))) (v0 v1 v2 v3 : Value) :
    ((((W.setCell ⟨b, 0, none⟩ v0).setCell ⟨b, 1, none⟩ v1).setCell ⟨b, 2, none⟩ v2).setCell ⟨b, 3, none⟩ v3).heap[b]? = some (.cells #[v0, v1, v2, v3] T (0, 0)) :=
  set_at (set_at (set_at (set_at h 0 v0) 1 v1) 2 v2) 3 v3

theorem app_split : ∀ (a b c d : F), a.app b = c.app d → a.len = c.len → a = c ∧ b = d := by
  intro a
  induction a with
  | nil =>
    intro b c d h hl
    have hc : c = .nil := F.len_eq_zero hl.symm
    subst hc
    exact ⟨rfl, h⟩
  | cons o n t k r _ ih =>
    intro b c d h hl
    cases c with
    | nil => simp [F.len] at hl
    | cons o2 n2 t2 k2 r2 =>
      simp only [F.app, F.cons.injEq] at h
      obtain ⟨rfl, rfl, rfl, rfl, h⟩ := h
      obtain ⟨rfl, rfl⟩ := ih b r2 d h (by simp only [F.len] at hl; omega)
      exact ⟨rfl, rfl⟩

theorem CaI.round {w W X : World} {lo b off J cJ c1 : Nat} {p p1 p' g k1 kJ : F} {d : D} {aJ a1 : Option Addr} {fp fJ : List Nat} {o1 n1 oJ nJ : Int} {t1 tJ : ByteArray} (h : CaI w lo p d b off J p' g aJ cJ fp fJ W) (hp : p' = p1.app (.cons o1 n1 t1 k1 .nil)) (hcell : w.cell? ⟨b, off + p1.len * 4 + 3, none⟩ = some (.slice a1 k1.len c1))
    (hJ : J = w.heap.size + 1) (hlo : lo ≤ w.heap.size) (hd : catOn g d = (oJ, nJ, tJ, kJ)) (hXs : X.heap.size = W.heap.size) (hXo : ∀ q, q ≠ J → X.heap[q]? = W.heap[q]?) (hXJ : X.heap[J]? = some (.cells #[.int .i64 7, .int .i64 0, .string ⟨#[]⟩, .slice (some ⟨W.heap.size, 0, none⟩) 2 2] 29 (0, 0))) (hXe : Ext w X) :
    ∃ fp' fJ', CaI w lo p d b off J p1 (.cons o1 n1 t1 k1 g) (some ⟨W.heap.size, 0, none⟩) 2 fp' fJ' (X.alloc (.cells #[.int .i64 o1, .int .i64 n1, .string t1, .slice a1 k1.len c1, .int .i64 oJ, .int .i64 nJ, .string tJ, .slice aJ kJ.len cJ] 29)) := by
  have hrow := h.row
  rw [hp] at hrow
  obtain ⟨f1, f2, hr1, hr2, rfl⟩ := RowAt.app_iff.1 hrow
  rw [Nat.mul_comm 4] at hr2
  obtain ⟨ax, cx, g1, g2, _, _, _, e3, hcx, hsx, hg2, rfl⟩ := RowAt.cons_iff.1 hr2
  have hg2' : g2 = [] := hg2
  subst hg2'
  rw [hcell] at e3
  obtain ⟨rfl, rfl⟩ : a1 = ax ∧ c1 = cx := by cases e3; exact ⟨rfl, rfl⟩
  have hfr := h.fresh
  have hJW : J < W.heap.size := (Array.getElem?_eq_some_iff.1 h.var).1
  obtain ⟨Y, hY⟩ : ∃ Y, X.alloc (.cells #[.int .i64 o1, .int .i64 n1, .string t1, .slice a1 k1.len c1, .int .i64 oJ, .int .i64 nJ, .string tJ, .slice aJ kJ.len cJ] 29) = Y := ⟨_, rfl⟩
  have hXY : Ext X Y := by rw [← hY]; exact (Ext.refl X).alloc _
  have hYs : Y.heap.size = W.heap.size + 1 := by rw [← hY]; simp [hXs]
  have hYo : ∀ q, q < W.heap.size → q ≠ J → Y.heap[q]? = W.heap[q]? := fun q hq hne => (hXY.block q (by omega)).trans (hXo q hne)
  have hcl : ∀ i, Y.cell? ⟨W.heap.size, i, none⟩ = (#[.int .i64 o1, .int .i64 n1, .string t1, .slice a1 k1.len c1, .int .i64 oJ, .int .i64 nJ, .string tJ, .slice aJ kJ.len cJ] : Array Value)[i]? := fun i => by rw [← hY, ← hXs]; exact World.cell?_alloc_new _ _ _ _
  have hnew : Y.heap[W.heap.size]? = some (.cells #[.int .i64 o1, .int .i64 n1, .string t1, .slice a1 k1.len c1, .int .i64 oJ, .int .i64 nJ, .string tJ, .slice aJ kJ.len cJ] 29 (0, 0)) := by rw [← hY, ← hXs]; exact World.alloc_heap_new _ _
  rw [hY]
  have hsub := h.sub
  have hcap := h.cap
  rw [hd] at hsub hcap
  have hall : ∀ q ∈ (f1 ++ (g1 ++ [])) ++ fJ, q < W.heap.size ∧ q ≠ J := fun q hq => ⟨(hfr.2 q hq).2.1, by
    rcases List.mem_append.1 hq with hq | hq
    · have := h.old q hq; omega
    · exact (h.apart q hq).1⟩
  refine ⟨f1, W.heap.size :: (g1 ++ fJ), by rw [h.split, hp, F.app_assoc]; rfl, hr1, ?_, ?_, ?_, ?_, fun q hq => h.old q (by simp [hq]), ?_, ?_, hXe.trans hXY⟩
  · exact (hXY.block J (by omega)).trans hXJ
  · show SubAt Y _ (.cons o1 n1 t1 k1 (consD (catOn g d) .nil)) _
    rw [hd]
    refine .inr ⟨W.heap.size, 0, g1 ++ fJ, rfl, (by intro e; cases e), rfl, RowAt.cons_iff.2 ⟨a1, c1, g1, fJ, hcl 0, hcl 1, hcl 2, hcl 3, hcx, ?_, RowAt.cons_iff.2 ⟨aJ, cJ, fJ, [], hcl 4, hcl 5, hcl 6, hcl 7, hcap, ?_, rfl, by simp⟩, rfl⟩⟩
    · have hsW := subAt_same hsx (B := Y) (fun q hq => (hXe.trans hXY).block q (h.old q (by simp [hq])))
      exact hsW
    · exact subAt_same hsub (fun q hq => hYo q (hall q (by simp [hq])).1 (hall q (by simp [hq])).2)
  · exact Nat.le_refl 2
  · refine ⟨?_, fun q hq => ?_⟩
    · rw [List.perm_middle.nodup_iff, List.nodup_cons]
      have hnd := hfr.1
      rw [List.append_nil, List.append_assoc] at hnd
      exact ⟨fun hm => by have := (hall _ (by rw [List.append_nil, List.append_assoc]; exact hm)).1; omega, hnd⟩
    · rcases (show q = W.heap.size ∨ q ∈ (f1 ++ (g1 ++ [])) ++ fJ by simp at hq ⊢; rcases hq with hq | hq | hq | hq <;> simp [hq]) with rfl | hq
      · exact ⟨by have := h.ext.size; omega, by omega, fun x => by simp [World.frozen?, hnew]⟩
      · exact ⟨(hfr.2 q hq).1, by have := (hall q hq).1; omega, fun x => (World.frozen?_of_block (w := W) (hYo q (hall q hq).1 (hall q hq).2)).trans ((hfr.2 q hq).2.2 x)⟩
  · intro q hq
    rcases List.mem_cons.1 hq with rfl | hq
    · exact ⟨by omega, by omega⟩
    · rcases List.mem_append.1 hq with hq | hq
      · have := h.old q (by simp [hq]); exact ⟨by omega, by omega⟩
      · exact h.apart q hq
  · exact (hYo _ (by omega) (by omega)).trans h.zero

theorem catAll_nil (w : World) (lo : Nat) (a : Option Addr) (cap : Nat) : Calls Try.prog 85 #[.slice a 0 cap] w (LoOut lo w (catAll .nil)) := by
  go_enter Try.func85, Try.ntmps85
  go_wp2_with fail
  have z := fun (i : Nat) => World.cell?_alloc_new w #[.int .i64 1, .int .i64 0, .string ⟨#[]⟩, .slice none 0 0] 29 i
  have z0 := z 0
  have z1 := z 1
  have z2 := z 2
  have z3 := z 3
  simp at z0 z1 z2 z3
  refine bodyPost_ret (v := .agg #[.int .i64 1, .int .i64 0, .string ⟨#[]⟩, .slice none 0 0]) (by simp [results, Try.results85, go_sem, z0, z1, z2, z3]) rfl ?_
  exact ⟨none, 0, [], rfl, Nat.le_refl _, .inl ⟨rfl, rfl⟩, Fresh.nil _ _, (Ext.refl w).alloc _⟩

theorem catAll_snoc' (w : World) (lo : Nat) (p : F) (o n : Int) (t : ByteArray) (k : F) (b off cap Q : Nat) (fs : List Nat) (hQ : p.len = Q) (hlen : Q ≤ 100000) (hlo : lo ≤ w.heap.size) (hrow : RowAt w (p.app (.cons o n t k .nil)) b off fs) (hb : b < w.heap.size) (hfr : Fresh lo w fs) (hcap : Q + 1 ≤ cap) :
    Calls Try.prog 85 #[.slice (some ⟨b, off, none⟩) (Q + 1) cap] w (LoOut lo w (catOn p (o, n, t, k))) := by
  obtain ⟨f1, f2, hr1, hr2, rfl⟩ := RowAt.app_iff.1 hrow
  rw [hQ, Nat.mul_comm 4] at hr2
  obtain ⟨ak, ck, g1, g2, d0, d1, d2, d3, hck, hsk, hg2, rfl⟩ := RowAt.cons_iff.1 hr2
  have hg2' : g2 = [] := hg2
  subst hg2'
  rw [List.append_nil] at hfr
  have HR := Lib.hid (And.intro hr1 (And.intro hsk (And.intro hck (And.intro hfr hQ))))
  obtain ⟨L, hL⟩ : ∃ L, k.len = L := ⟨_, rfl⟩
  rw [hL] at d3
  have i0 : (0 : Int) ≤ (Q : Int) := Int.natCast_nonneg _
  have i1 : (Q : Int) < ((Q + 1 : Nat) : Int) := by omega
  have i2 : ((Q + 1 : Nat) : Int) - 1 = (Q : Int) := by omega
  clear hrow hr1 hr2 hsk hck hfr hg2
  have HBK := Lib.hid (backK (some ⟨b, off, none⟩) Q cap)
  refine calls_marks Try.func85 rfl ?_
  simp only [Try.ntmps85, List.size_toArray, List.length_cons, List.length_nil, Nat.reduceAdd, Nat.reduceSub, Array.replicate_succ, Array.replicate_zero, List.push_toArray, List.append_toArray, List.nil_append, List.cons_append]
  go_wp2_with fail
  refine (HBK.out _).mono ?_
  rintro e1 w1 ⟨rfl, rfl⟩
  go_wp2_with fail
  obtain ⟨W0, hW0⟩ : ∃ W0, ((w.alloc (.cells #[.int .i64 0, .int .i64 0, .string ⟨#[]⟩, .slice none 0 0] 29)).alloc (.cells #[.int .i64 o, .int .i64 n, .string t, .slice ak L ck] 29)).alloc (.cells #[.slice (some ⟨b, off, none⟩) Q cap] 27) = W0 := ⟨_, rfl⟩
  have hz : W0.heap.size = w.heap.size + 3 := by rw [← hW0]; simp
  have hE0 : Ext w W0 := by rw [← hW0]; exact (((Ext.refl w).alloc _).alloc _).alloc _
  have hZ0 : W0.heap[w.heap.size]? = some (.cells #[.int .i64 0, .int .i64 0, .string ⟨#[]⟩, .slice none 0 0] 29 (0, 0)) := by
    rw [← hW0]; exact (((Ext.refl _).alloc _).alloc _).block _ (by simp) |>.trans (World.alloc_heap_new w _)
  have hJ0 : W0.heap[w.heap.size + 1]? = some (.cells #[.int .i64 o, .int .i64 n, .string t, .slice ak L ck] 29 (0, 0)) := by
    rw [← hW0, ← World.size_alloc w (.cells #[.int .i64 0, .int .i64 0, .string ⟨#[]⟩, .slice none 0 0] 29)]; exact ((Ext.refl _).alloc _).block _ (by simp) |>.trans (World.alloc_heap_new _ _)
  have hbx : W0.cell? ⟨w.heap.size + 2, 0, none⟩ = some (.slice (some ⟨b, off, none⟩) Q cap) := by
    rw [← hW0, show w.heap.size + 2 = ((w.alloc (.cells #[.int .i64 0, .int .i64 0, .string ⟨#[]⟩, .slice none 0 0] 29)).alloc (.cells #[.int .i64 o, .int .i64 n, .string t, .slice ak L ck] 29)).heap.size by simp, World.cell?_alloc_new]; rfl
  try rw [hW0]
  obtain ⟨hrp, hsk, hck, hfr, _⟩ := HR.out
  have hI0 : CaI w lo p (o, n, t, k) b off (w.heap.size + 1) p .nil ak ck f1 g1 W0 := by
    refine ⟨(F.app_nil p).symm, hrp, ?_, subAt_same hsk (fun c hc => hE0.block c (hfr.2 c (by simp [hc])).2.1), hck, fresh_same hfr hE0.size (fun c hc => hE0.block c (hfr.2 c hc).2.1), fun c hc => (hfr.2 c (by simp [hc])).2.1, fun c hc => by have := (hfr.2 c (by simp [hc])).2.1; exact ⟨by omega, by omega⟩, hZ0, hE0⟩
    show W0.heap[w.heap.size + 1]? = some (.cells #[.int .i64 o, .int .i64 n, .string t, .slice ak k.len ck] 29 (0, 0))
    rw [hL]; exact hJ0
  rw [← hQ] at hbx hlen
  refine wpIn_wide.1 (rangeFunc_gives2 (n := 7) (gf := 171) (lb := #[.pointer (some ⟨w.heap.size + 1 + 1, 0, none⟩)]) (X := XA w p b off) (Pc := fun c => c < w.heap.size ∨ c = w.heap.size + 2) (N := p.len) ?g0 (enters_of Try.func171 (by kernel_rfl) rfl) (by omega) (backAt hE0 hrp hb hbx (by omega)) (fun c hc => by omega) (fun k args A W hX => by obtain ⟨q, p, o1, n1, t1, k1, r1, a1, c1, _, _, _, rfl, _⟩ := hX; rfl)
    (fun j A => ∃ p' g a c fp fJ, g.len = j ∧ CaI w lo p (o, n, t, k) b off (w.heap.size + 1) p' g a c fp fJ A)
    (fun _ _ => False)
    (fun j A B h hA hT => by obtain ⟨p', g, a, c, fp, fJ, h1, h2⟩ := h; exact ⟨p', g, a, c, fp, fJ, h1, h2.turn hT (by omega)⟩)
    (fun A B h hE => by obtain ⟨p', g, a, c, fp, fJ, h1, h2⟩ := h; exact ⟨p', g, a, c, fp, fJ, h1, h2.later hE⟩)
    (fun _ _ _ h => h.elim)
    ⟨p, .nil, ak, ck, f1, g1, rfl, hI0⟩
    (fun args W => { tmps := #[.slice (some ⟨b, off, none⟩) (Q + 1) cap, undef, .pointer (some ⟨w.heap.size, 0, none⟩), .int .i64 (Q : Int), .pointer (some ⟨w.heap.size + 1, 0, none⟩), undef, .pointer (some ⟨W.heap.size, 0, none⟩), .slice (some ⟨b, off, none⟩) (Q + 1) cap, .int .i64 ((Q : Int) + 1), .bool false, undef, .slice (some ⟨b, off, none⟩) (Q + 1) cap, .int .i64 ((Q : Int) + 1), .int .i64 (Q : Int), .slice (some ⟨b, off, none⟩) (Q + 1) cap, .int .i64 (Q : Int), .pointer (some ⟨b, off + Q * 4, none⟩), .agg #[.int .i64 o, .int .i64 n, .string t, .slice ak L ck], .slice (some ⟨b, off, none⟩) (Q + 1) cap, .int .i64 (Q : Int), .slice (some ⟨b, off, none⟩) Q cap, .func (.func 171) #[] #[.pointer (some ⟨w.heap.size + 2, 0, none⟩)], args.getD 0 undef, args.getD 1 undef, undef, undef, undef, undef, undef], defers := [] })
    (fun args W => W.alloc (.cells (args.getD 1 undef).cells 29)) (fun args W => (Ext.refl W).alloc _) ?assign ?body ?done ?stop)
  case g0 => rfl
  case assign =>
    rintro l j args A W K ⟨q, p1, o1, n1, t1, k1, r1, a1, c1, hsp, hpl, hrl, rfl, hcell⟩ hK
    clear hsp hpl hrl hcell
    gi_wp2_with fail
    exact hK
  case body =>
    rintro l j A0 A Wp W hj hz1 ⟨p', g, aJ, cJ, fp, fJ, hgl, hI⟩ hE ⟨q, p1, o1, n1, t1, k1, r1, a1, c1, hsp, hpl, hrl, rfl, hcell⟩ hT
    have hIW := (hI.later (hE.trans ((Ext.refl _).alloc (.cells #[.int .i64 o1, .int .i64 n1, .string t1, .slice a1 k1.len c1] 29)))).turn hT (by omega)
    have y0 : W.cell? ⟨Wp.heap.size, 0, none⟩ = some (.int .i64 o1) := hT.cell (by rw [World.cell?_alloc_new]; rfl)
    have y1 : W.cell? ⟨Wp.heap.size, 1, none⟩ = some (.int .i64 n1) := hT.cell (by rw [World.cell?_alloc_new]; rfl)
    have y2 : W.cell? ⟨Wp.heap.size, 2, none⟩ = some (.string t1) := hT.cell (by rw [World.cell?_alloc_new]; rfl)
    have y3 : W.cell? ⟨Wp.heap.size, 3, none⟩ = some (.slice a1 k1.len c1) := hT.cell (by rw [World.cell?_alloc_new]; rfl)
    obtain ⟨⟨oJ, nJ, tJ, kJ⟩, hdJ⟩ : ∃ d : D, catOn g (o, n, t, k) = d := ⟨_, rfl⟩
    have hv := hIW.var
    rw [hdJ] at hv
    have hv' : W.heap[w.heap.size + 1]? = some (.cells #[.int .i64 oJ, .int .i64 nJ, .string tJ, .slice aJ kJ.len cJ] 29 (0, 0)) := hv
    have x0 : W.cell? ⟨w.heap.size + 1, 0, none⟩ = some (.int .i64 oJ) := by simp [World.cell?, hv']
    have x1 : W.cell? ⟨w.heap.size + 1, 1, none⟩ = some (.int .i64 nJ) := by simp [World.cell?, hv']
    have x2 : W.cell? ⟨w.heap.size + 1, 2, none⟩ = some (.string tJ) := by simp [World.cell?, hv']
    have x3 : W.cell? ⟨w.heap.size + 1, 3, none⟩ = some (.slice aJ kJ.len cJ) := by simp [World.cell?, hv']
    have z0 : W.frozen? ⟨w.heap.size + 1, 0, none⟩ = false := by simp [World.frozen?, hv']
    have z1 : W.frozen? ⟨w.heap.size + 1, 1, none⟩ = false := by simp [World.frozen?, hv']
    have z2 : W.frozen? ⟨w.heap.size + 1, 2, none⟩ = false := by simp [World.frozen?, hv']
    have z3 : W.frozen? ⟨w.heap.size + 1, 3, none⟩ = false := by simp [World.frozen?, hv']
    have hl1 : w.heap.size + 1 < W.heap.size := (Array.getElem?_eq_some_iff.1 hv').1
    have HH := Lib.hid (And.intro hIW (And.intro hdJ (And.intro hgl (And.intro hsp (And.intro hpl (And.intro hrl hcell))))))
    obtain ⟨L1, hL1⟩ : ∃ L, k1.len = L := ⟨_, rfl⟩
    obtain ⟨LJ, hLJ⟩ : ∃ L, kJ.len = L := ⟨_, rfl⟩
    rw [hL1] at y3
    rw [hLJ] at x3
    clear hIW hI hdJ hgl hsp hpl hrl hcell hE hT hv hv' hI0 hrp hsk hck hfr hbx hZ0 hJ0 hE0
    gi_wp2_with fail
    obtain ⟨hI, hdJ, hgl, hsp, hpl, hrl, hcell⟩ := HH.out
    have hlen' : p.len = p'.len + g.len := by rw [hI.split, F.len_app]
    have hpp : p' = p1.app (.cons o1 n1 t1 k1 .nil) := by
      refine (app_split p' g (p1.app (.cons o1 n1 t1 k1 .nil)) r1 ?_ ?_).1
      · rw [← hI.split, hsp, F.app_assoc]; rfl
      · rw [F.len_app]; simp only [F.len]; omega
    have hv' : W.heap[w.heap.size + 1]? = some (.cells #[.int .i64 oJ, .int .i64 nJ, .string tJ, .slice aJ kJ.len cJ] 29 (0, 0)) := by have := hI.var; rw [hdJ] at this; exact this
    obtain ⟨X, hX⟩ : ∃ X, (((W.setCell ⟨w.heap.size + 1, 0, none⟩ (.int .i64 7)).setCell ⟨w.heap.size + 1, 1, none⟩ (.int .i64 0)).setCell ⟨w.heap.size + 1, 2, none⟩ (.string ⟨#[]⟩)).setCell ⟨w.heap.size + 1, 3, none⟩ (.slice (some ⟨W.heap.size, 0, none⟩) 2 2) = X := ⟨_, rfl⟩
    have hXJ := set_four hv' (.int .i64 7) (.int .i64 0) (.string ⟨#[]⟩) (.slice (some ⟨W.heap.size, 0, none⟩) 2 2)
    have hXe : Ext w X := by rw [← hX]; exact ((((Below.setCell hI.ext (p := ⟨w.heap.size + 1, 0, none⟩) (by simp) _).setCell (p := ⟨w.heap.size + 1, 1, none⟩) (by simp) _).setCell (p := ⟨w.heap.size + 1, 2, none⟩) (by simp) _).setCell (p := ⟨w.heap.size + 1, 3, none⟩) (by simp) _)
    have hXk : KeepsOthers W X := by rw [← hX]; exact (((KeepsOthers.setCell _ _ _).trans (KeepsOthers.setCell _ _ _)).trans (KeepsOthers.setCell _ _ _)).trans (KeepsOthers.setCell _ _ _)
    have hXs : X.heap.size = W.heap.size := by rw [← hX]; simp
    have hXo : ∀ q, q ≠ w.heap.size + 1 → X.heap[q]? = W.heap[q]? := fun q hq => by
      rw [← hX]
      exact (((Below.heap_setCell _ _ _ q hq).trans (Below.heap_setCell _ _ _ q hq)).trans (Below.heap_setCell _ _ _ q hq)).trans (Below.heap_setCell _ _ _ q hq)
    rw [hX] at hXJ ⊢
    rw [← hpl] at hcell
    obtain ⟨fp', fJ', hR⟩ := hI.round hpp hcell rfl hlo hdJ hXs hXo hXJ hXe
    rw [← hL1, ← hLJ]
    have hXY := keeps_of_ext ((Ext.refl X).alloc (.cells #[.int .i64 o1, .int .i64 n1, .string t1, .slice a1 k1.len c1, .int .i64 oJ, .int .i64 nJ, .string tJ, .slice aJ kJ.len cJ] 29))
    refine ⟨hXk.trans hXY, ⟨by simp [hXs], fun c hc hl => ?_⟩, ⟨p1, .cons o1 n1 t1 k1 g, _, _, fp', fJ', by simp only [F.len]; omega, hR⟩⟩
    exact ((Below.heap_alloc _ _ _ (by omega)).trans (hXo c (by omega)))
  case done =>
    rintro De A W hD ⟨p', g, aJ, cJ, fp, fJ, hgl, hI⟩ ⟨B', hE, hT⟩ hK
    have hp' : p' = .nil := F.len_eq_zero (by have := congrArg F.len hI.split; rw [F.len_app] at this; omega)
    subst hp'
    obtain rfl : p = g := hI.split
    have hIW := (hI.later hE).turn hT (by omega)
    obtain ⟨⟨oJ, nJ, tJ, kJ⟩, hdJ⟩ : ∃ d : D, catOn p (o, n, t, k) = d := ⟨_, rfl⟩
    have hv := hIW.var
    rw [hdJ] at hv ⊢
    have hv' : W.heap[w.heap.size + 1]? = some (.cells #[.int .i64 oJ, .int .i64 nJ, .string tJ, .slice aJ kJ.len cJ] 29 (0, 0)) := hv
    have x0 : W.cell? ⟨w.heap.size + 1, 0, none⟩ = some (.int .i64 oJ) := by simp [World.cell?, hv']
    have x1 : W.cell? ⟨w.heap.size + 1, 1, none⟩ = some (.int .i64 nJ) := by simp [World.cell?, hv']
    have x2 : W.cell? ⟨w.heap.size + 1, 2, none⟩ = some (.string tJ) := by simp [World.cell?, hv']
    have x3 : W.cell? ⟨w.heap.size + 1, 3, none⟩ = some (.slice aJ kJ.len cJ) := by simp [World.cell?, hv']
    have hz' := hIW.zero
    have y0 : W.cell? ⟨w.heap.size, 0, none⟩ = some (.int .i64 0) := by simp [World.cell?, hz']
    have y1 : W.cell? ⟨w.heap.size, 1, none⟩ = some (.int .i64 0) := by simp [World.cell?, hz']
    have y2 : W.cell? ⟨w.heap.size, 2, none⟩ = some (.string ⟨#[]⟩) := by simp [World.cell?, hz']
    have y3 : W.cell? ⟨w.heap.size, 3, none⟩ = some (.slice none 0 0) := by simp [World.cell?, hz']
    have z0 : W.frozen? ⟨w.heap.size, 0, none⟩ = false := by simp [World.frozen?, hz']
    have z1 : W.frozen? ⟨w.heap.size, 1, none⟩ = false := by simp [World.frozen?, hz']
    have z2 : W.frozen? ⟨w.heap.size, 2, none⟩ = false := by simp [World.frozen?, hz']
    have z3 : W.frozen? ⟨w.heap.size, 3, none⟩ = false := by simp [World.frozen?, hz']
    have HI := Lib.hid (And.intro hIW (And.intro hz' hK))
    clear hI hE hT hIW hv hv' hz' hI0 hrp hsk hck hfr hbx hZ0 hJ0 hE0 hK
    go_wp2_with fail
    obtain ⟨hI, hz', hK⟩ := HI.out
    obtain ⟨X, hX⟩ : ∃ X, (((W.setCell ⟨w.heap.size, 0, none⟩ (.int .i64 oJ)).setCell ⟨w.heap.size, 1, none⟩ (.int .i64 nJ)).setCell ⟨w.heap.size, 2, none⟩ (.string tJ)).setCell ⟨w.heap.size, 3, none⟩ (.slice aJ kJ.len cJ) = X := ⟨_, rfl⟩
    have hXz := set_four hz' (.int .i64 oJ) (.int .i64 nJ) (.string tJ) (.slice aJ kJ.len cJ)
    have hXe : Ext w X := by rw [← hX]; exact ((((Below.setCell hI.ext (p := ⟨w.heap.size, 0, none⟩) (by simp) _).setCell (p := ⟨w.heap.size, 1, none⟩) (by simp) _).setCell (p := ⟨w.heap.size, 2, none⟩) (by simp) _).setCell (p := ⟨w.heap.size, 3, none⟩) (by simp) _)
    have hXs : X.heap.size = W.heap.size := by rw [← hX]; simp
    have hXo : ∀ q, q ≠ w.heap.size → X.heap[q]? = W.heap[q]? := fun q hq => by
      rw [← hX]
      exact (((Below.heap_setCell _ _ _ q hq).trans (Below.heap_setCell _ _ _ q hq)).trans (Below.heap_setCell _ _ _ q hq)).trans (Below.heap_setCell _ _ _ q hq)
    rw [hX] at hXz ⊢
    have hKX : X.heap[De]? = some (.deferred (some [])) := (hXo De (by omega)).trans hK
    have hT2 : Turn W0.heap.size X (X.putObj De (.deferred none)) := turn_put _ hKX rfl hD
    have c0 : (X.putObj De (.deferred none)).cell? ⟨w.heap.size, 0, none⟩ = some (.int .i64 oJ) := hT2.cell (by simp [World.cell?, hXz])
    have c1 : (X.putObj De (.deferred none)).cell? ⟨w.heap.size, 1, none⟩ = some (.int .i64 nJ) := hT2.cell (by simp [World.cell?, hXz])
    have c2 : (X.putObj De (.deferred none)).cell? ⟨w.heap.size, 2, none⟩ = some (.string tJ) := hT2.cell (by simp [World.cell?, hXz])
    have c3 : (X.putObj De (.deferred none)).cell? ⟨w.heap.size, 3, none⟩ = some (.slice aJ kJ.len cJ) := hT2.cell (by simp [World.cell?, hXz])
    have hsub := hI.sub
    have hcap := hI.cap
    rw [hdJ] at hsub hcap
    have hsame : ∀ q ∈ fJ, (X.putObj De (.deferred none)).heap[q]? = W.heap[q]? := fun q hq => by
      obtain ⟨x, v, hv⟩ := subAt_held hsub q hq
      have e := hXo q (hI.apart q hq).2
      exact (hT2.cells ((World.cell?_of_block (w := W) (a := ⟨q, x, none⟩) e).trans hv)).trans e
    refine leave_mark hKX (v := .agg #[.int .i64 oJ, .int .i64 nJ, .string tJ, .slice aJ kJ.len cJ]) (by simp [results, Try.results85, go_sem, c0, c1, c2, c3]) ?_
    have hfr := hI.fresh
    exact ⟨aJ, cJ, fJ, rfl, hcap, subAt_same hsub hsame, fresh_same ⟨(List.nodup_append.1 hfr.1).2.1, fun q hq => hfr.2 q (by simp [hq])⟩ (by rw [hT2.size, hXs]; exact Nat.le_refl _) hsame, Below.trans hXe (hT2.below (by omega))⟩
  case stop =>
    rintro D c A Y _ h _ _
    exact h.elim

theorem snoc_of : ∀ f : F, f ≠ .nil → ∃ (p : F) (o n : Int) (t : ByteArray) (k : F), f = p.app (.cons o n t k .nil) := by
  intro f
  induction f with
  | nil => intro h; exact absurd rfl h
  | cons o n t k r _ ih =>
    intro _
    by_cases hr : r = .nil
    · subst hr; exact ⟨.nil, o, n, t, k, rfl⟩
    · obtain ⟨p, o2, n2, t2, k2, rfl⟩ := ih hr
      exact ⟨.cons o n t k p, o2, n2, t2, k2, rfl⟩

theorem catAllOf (w : World) (lo : Nat) (f : F) (a : Option Addr) (cap : Nat) (fs : List Nat) (hlen : f.len ≤ 100000) (hlo : lo ≤ w.heap.size) (hs : SubAt w a f fs) (hfr : Fresh lo w fs) (hcap : f.len ≤ cap) :
    Calls Try.prog 85 #[.slice a f.len cap] w (LoOut lo w (catAll f)) := by
  by_cases hf : f = .nil
  · subst hf; exact catAll_nil w lo a cap
  · rcases hs with ⟨h, _⟩ | ⟨b, off, f', rfl, _, rfl, hrow⟩
    · exact absurd h hf
    · obtain ⟨p, o, n, t, k, rfl⟩ := snoc_of f hf
      have e : (p.app (.cons o n t k .nil)).len = p.len + 1 := by rw [F.len_app]; rfl
      rw [e] at hlen hcap ⊢
      rw [show F.cons o n t k .nil = consD (o, n, t, k) .nil from rfl, catAll_snoc]
      exact catAll_snoc' w lo p o n t k b off cap p.len f' rfl (by omega) hlo hrow (hfr.2 b (by simp)).2.1 ⟨(List.nodup_cons.1 hfr.1).2, fun c hc => hfr.2 c (by simp [hc])⟩ hcap

end Go.Proofs.Ytmkibpimjaofgaa.Nf

namespace Go.Proofs.Ytmkibpimjaofgaa.Nf
open Go.RowKit P1 Copy
end Go.Proofs.Ytmkibpimjaofgaa.Nf

namespace Go.Proofs.Ytmkibpimjaofgaa.Nf
open Go.RowKit P1 Copy CatD
end Go.Proofs.Ytmkibpimjaofgaa.Nf

