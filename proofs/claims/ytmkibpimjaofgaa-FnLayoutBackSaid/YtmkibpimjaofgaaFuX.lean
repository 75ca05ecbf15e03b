import Derived.Test.YtmkibpimjaofgaaNfV
import Derived.Test.YtmkibpimjaofgaaNfX
/-
  Texts of a row joined, as a plain function, and rows that are turned to the right; nothing here speaks of the program.
-/
set_option linter.unusedVariables false
set_option linter.unusedSimpArgs false
set_option maxRecDepth 100000
set_option maxHeartbeats 3200000
namespace Go.Proofs.Ytmkibpimjaofgaa.Nf
open P1

def fits (d : D) (o : Int) (t : ByteArray) : Bool := d.1 == 2 && o == 2 && decide (d.2.2.1.size + t.size ≤ 12)
def fz : D → F → F
  | d, .nil => consD d .nil
  | d, .cons o n t k r => if fits d o t = true then fz (d.1, d.2.1, d.2.2.1 ++ t, d.2.2.2) r else consD d (fz (o, n, t, k) r)
end Go.Proofs.Ytmkibpimjaofgaa.Nf

namespace Go.Proofs.Ytmkibpimjaofgaa.Nf
open P1 Flat Wid ChP
end Go.Proofs.Ytmkibpimjaofgaa.Nf

namespace Go.Proofs.Ytmkibpimjaofgaa.Nf
open Go.RowKit P1 Copy
end Go.Proofs.Ytmkibpimjaofgaa.Nf

namespace Go.Proofs.Ytmkibpimjaofgaa.Nf
open Go.RowKit P1 Copy
end Go.Proofs.Ytmkibpimjaofgaa.Nf

namespace Go.Proofs.Ytmkibpimjaofgaa.Nf
open Go.RowKit P1 Copy CatD
end Go.Proofs.Ytmkibpimjaofgaa.Nf

namespace Go.Proofs.Ytmkibpimjaofgaa.Nf
open Go.RowKit P1 Copy
end Go.Proofs.Ytmkibpimjaofgaa.Nf

namespace Go.Proofs.Ytmkibpimjaofgaa.Nf
open Go.RowKit P1 Copy CatD
end Go.Proofs.Ytmkibpimjaofgaa.Nf

namespace Go.Proofs.Ytmkibpimjaofgaa.Nf
open Go.RowKit P1 Copy CatD

structure RpI (w1 : World) (lo : Nat) (p : F) (d : D) (b J : Nat) (p' g : F) (a : Option Addr) (c : Nat) (fp fJ : List Nat) (A : World) : Prop where
  split : p = p'.app g
  row : RowAt w1 p' b 0 fp
  var : DVar A J (catOn g d) a c
  sub : SubAt A a (catOn g d).2.2.2 fJ
  cap : (catOn g d).2.2.2.len ≤ c
  fresh : Fresh lo A (fp ++ fJ)
  old : ∀ q ∈ fp, q < w1.heap.size
  apart : ∀ q ∈ fJ, q ≠ J
  ext : Ext w1 A

theorem RpI.round {w1 W X : World} {lo b J cJ c1 b2 : Nat} {p p1 p' g k1 kJ : F} {d : D} {aJ a1 : Option Addr} {fp f1 fJ : List Nat} {o1 n1 oJ nJ : Int} {t1 tJ : ByteArray} (h : RpI w1 lo p d b J p' g aJ cJ (fp ++ f1) fJ W) (hp : p' = p1.app (.cons o1 n1 t1 k1 .nil)) (hrow : RowAt w1 p1 b 0 fp)
    (hJ : w1.heap.size ≤ J) (hlo : lo ≤ w1.heap.size) (hd : catOn g d = (oJ, nJ, tJ, kJ)) (hz : W.heap.size ≤ X.heap.size) (hXo : ∀ q, q < W.heap.size → q ≠ J → X.heap[q]? = W.heap[q]?) (hXJ : X.heap[J]? = some (.cells #[.int .i64 7, .int .i64 0, .string ⟨#[]⟩, .slice (some ⟨b2, 0, none⟩) 2 2] 29 (0, 0))) (hXe : Ext w1 X)
    (hr2 : RowAt X (.cons o1 n1 t1 k1 (.cons oJ nJ tJ kJ .nil)) b2 0 (f1 ++ fJ)) (hb2 : W.heap.size ≤ b2) (hb2' : b2 < X.heap.size) (hf2 : ∀ o, X.frozen? ⟨b2, o, none⟩ = false) :
    RpI w1 lo p d b J p1 (.cons o1 n1 t1 k1 g) (some ⟨b2, 0, none⟩) 2 fp (b2 :: (f1 ++ fJ)) X := by
  have hfr := h.fresh
  have hJW : J < W.heap.size := (Array.getElem?_eq_some_iff.1 h.var).1
  have hall : ∀ q ∈ (fp ++ f1) ++ fJ, q < W.heap.size ∧ q ≠ J := fun q hq => ⟨(hfr.2 q hq).2.1, by
    rcases List.mem_append.1 hq with hq | hq
    · have := h.old q hq; omega
    · exact h.apart q hq⟩
  refine ⟨by rw [h.split, hp, F.app_assoc]; rfl, hrow, hXJ, ?_, Nat.le_refl 2, ⟨?_, fun q hq => ?_⟩, fun q hq => h.old q (by simp [hq]), ?_, hXe⟩
  · show SubAt X _ (.cons o1 n1 t1 k1 (consD (catOn g d) .nil)) _
    rw [hd]
    exact .inr ⟨b2, 0, f1 ++ fJ, rfl, (by intro e; cases e), rfl, hr2⟩
  · rw [List.perm_middle.nodup_iff, List.nodup_cons]
    have hnd := hfr.1
    rw [List.append_assoc] at hnd
    exact ⟨fun hm => by have := (hall _ (by rw [List.append_assoc]; exact hm)).1; omega, hnd⟩
  · rcases (show q = b2 ∨ q ∈ (fp ++ f1) ++ fJ by simp at hq ⊢; rcases hq with hq | hq | hq | hq <;> simp [hq]) with rfl | hq
    · exact ⟨by have := Ext.size h.ext; omega, hb2', hf2⟩
    · exact ⟨(hfr.2 q hq).1, by have := (hall q hq).1; omega, fun x => (World.frozen?_of_block (w := W) (hXo q (hall q hq).1 (hall q hq).2)).trans ((hfr.2 q hq).2.2 x)⟩
  · intro q hq
    rcases List.mem_cons.1 hq with rfl | hq
    · omega
    · rcases List.mem_append.1 hq with hq | hq
      · have := h.old q (by simp [hq]); omega
      · exact h.apart q hq

end Go.Proofs.Ytmkibpimjaofgaa.Nf

namespace Go.Proofs.Ytmkibpimjaofgaa.Nf
open Go.RowKit P1 Copy CatD
end Go.Proofs.Ytmkibpimjaofgaa.Nf

namespace Go.Proofs.Ytmkibpimjaofgaa.Nf
open Go.RowKit P1 Copy CatD

theorem end_lo {w w3 w4 : World} {lo x : Nat} {o n : Int} {t : ByteArray} {k : F} {a : Option Addr} {cap : Nat} {fs : List Nat} (hs : SubAt w3 a k fs) (hF : Fresh lo w3 fs) (hc : k.len ≤ cap) (hx : ∀ q ∈ fs, q ≠ x) (hw : w.heap.size ≤ x) (hb : Ext w w3) (ht : Touch x (x + 1) w3 w4) :
    LoOut lo w (o, n, t, k) (.returned (.agg #[.int .i64 o, .int .i64 n, .string t, .slice a k.len cap])) w4 :=
  ⟨a, cap, fs, rfl, hc, ht.sub hs (fun c h => by have := hx c h; omega), ht.fresh hF (fun c h => by have := hx c h; omega), ht.below hb hw⟩

theorem specOf (w : World) (lo : Nat) (p : F) (o9 n9 : Int) (t9 : ByteArray) (k9 : F) (b cap : Nat) (gs : List Nat) (hl : p.len ≤ 100000) (hlo : lo ≤ w.heap.size) (hrow : RowAt w (p.app (.cons o9 n9 t9 k9 .nil)) b 0 gs) (hfr : Fresh lo w (b :: gs)) :
    Calls Try.prog 81 #[.slice (some ⟨b, 0, none⟩) (p.len + 1) cap] w (LoOut lo w (catOn p (o9, n9, t9, k9))) := by
  have HZ0 := Lib.hid (ZBox.alloc w 29)
  obtain ⟨fp, f2, hr1, hr2, rfl⟩ := RowAt.app_iff.1 hrow
  obtain ⟨N, hN⟩ : ∃ N, p.len = N := ⟨_, rfl⟩
  rw [hN, Nat.mul_comm 4, Nat.zero_add] at hr2
  rw [hN]
  obtain ⟨a9, c9, g1, g2, d0, d1, d2, d3, hc9, hs9, hg2, rfl⟩ := RowAt.cons_iff.1 hr2
  have hg2' : g2 = [] := hg2
  subst hg2'
  rw [List.append_nil] at hfr
  obtain ⟨L9, hL9⟩ : ∃ L, k9.len = L := ⟨_, rfl⟩
  rw [hL9] at d3
  have i0 : (0 : Int) ≤ (N : Int) := Int.natCast_nonneg _
  have i1 : (N : Int) < ((N + 1 : Nat) : Int) := by omega
  have i2 : ((N + 1 : Nat) : Int) - 1 = (N : Int) := by omega
  have i3 : ((N + 1 : Nat) : Int) - 2 = (N : Int) - 1 := by omega
  have i4 : (N : Int) + 1 - 1 = (N : Int) := by omega
  have i5 : (N : Int) + 1 - 2 = (N : Int) - 1 := by omega
  have i6 : (N : Int) < (N : Int) + 1 := by omega
  have i7 : ¬ ((N : Int) + 1 = 0) := by omega
  have i8 : ((N : Int) + 1 == 0) = false := by rw [beq_eq_false_iff_ne]; omega
  have hN1 : N ≤ 100000 := by omega
  have hbl : b < w.heap.size := (hfr.2 b (by simp)).2.1
  have hbl1 : b < (w.alloc (.cells #[.int .i64 0, .int .i64 0, .string ⟨#[]⟩, .slice none 0 0] 29)).heap.size := by simp; omega
  have H1 := Lib.hid (And.intro hr1 (And.intro hs9 (And.intro hc9 (And.intro hfr (And.intro hL9 hN)))))
  clear hr1 hs9 hc9 hfr hL9 hrow hr2 hN
  have hvar := (show ∀ (x y : Obj), ((w.alloc x).alloc y).heap[w.heap.size + 1]? = some y from fun x y => by have := World.alloc_heap_new (w.alloc x) y; simp only [World.size_alloc] at this; exact this)
  go_enter Try.func81, Try.ntmps81
  go_wp2_with fail
  go_loopw [4] (fun i wr => ∃ (q : Nat) (p' g : F) (aJ : Option Addr) (cJ : Nat) (fp' fJ : List Nat), q ≤ N ∧ i = .int .i64 ((q : Int) - 1) ∧ p'.len = q ∧ RpI (w.alloc (.cells #[.int .i64 0, .int .i64 0, .string ⟨#[]⟩, .slice none 0 0] 29)) lo p (o9, n9, t9, k9) b (w.heap.size + 1) p' g aJ cJ fp' fJ wr ∧ ∀ q ∈ fp' ++ fJ, q ≠ w.heap.size) (fun i _ => (intOf i + 1).toNat)
  case atStart =>
    obtain ⟨hr1, hs9, hc9, hfr, hL9, hN⟩ := H1.out
    have hlt : ∀ c ∈ b :: (fp ++ g1), c < w.heap.size := fun c hc => (hfr.2 c hc).2.1
    refine ⟨N, p, .nil, a9, c9, fp, g1, Nat.le_refl _, by first | rfl | (rw [i5]) | (rw [i3]), hN, ⟨(F.app_nil p).symm, hr1.below (hlt b (by simp)) (fun c hc => hlt c (by simp [hc])) ((Ext.refl w).alloc _), ?_, hs9.below (fun c hc => hlt c (by simp [hc])) (((Ext.refl w).alloc _).alloc _), hc9, ?_, fun q hq => by have := hlt q (by simp [hq]); simp; omega, fun q hq => by have := hlt q (by simp [hq]); omega, (Ext.refl _).alloc _⟩, fun q hq => by have := hlt q (by simp at hq ⊢; simp [hq]); omega⟩
    · subst hL9; exact hvar _ _
    · exact Fresh.below (lo := lo) ⟨(List.nodup_cons.1 hfr.1).2, fun q hq => hfr.2 q (by simp at hq ⊢; simp [hq])⟩ (fun c hc => hlt c (by simp at hc ⊢; simp [hc])) (((Ext.refl w).alloc _).alloc _)
  case round =>
    obtain ⟨q, p', g, aJ, cJ, fp', fJ, hq, rfl, hql, hI, hap0⟩ := hrel
    have HAP := Lib.hid hap0
    clear hap0
    cases q with
    | zero =>
      have hp' : p' = .nil := F.len_eq_zero hql
      subst hp'
      obtain rfl : p = g := hI.split
      obtain ⟨⟨oJ, nJ, tJ, kJ⟩, hdJ⟩ : ∃ d : D, catOn p (o9, n9, t9, k9) = d := ⟨_, rfl⟩
      have hv := hI.var
      rw [hdJ] at hv
      have hv' : wr.heap[w.heap.size + 1]? = some (.cells #[.int .i64 oJ, .int .i64 nJ, .string tJ, .slice aJ kJ.len cJ] 29 (0, 0)) := hv
      have x0 : wr.cell? ⟨w.heap.size + 1, 0, none⟩ = some (.int .i64 oJ) := by simp [World.cell?, hv']
      have x1 : wr.cell? ⟨w.heap.size + 1, 1, none⟩ = some (.int .i64 nJ) := by simp [World.cell?, hv']
      have x2 : wr.cell? ⟨w.heap.size + 1, 2, none⟩ = some (.string tJ) := by simp [World.cell?, hv']
      have x3 : wr.cell? ⟨w.heap.size + 1, 3, none⟩ = some (.slice aJ kJ.len cJ) := by simp [World.cell?, hv']
      obtain ⟨⟨z0, z1, z2, z3⟩, ⟨z4, z5, z6, z7⟩, z8⟩ := HZ0.out.ext hI.ext
      have HH := Lib.hid (And.intro hI hdJ)
      rw [show ((0 : Nat) : Int) - 1 = -1 by omega]
      clear hI hdJ hv hv'
      go_wp2_with fail
      refine bodyPost_ret (v := .agg #[.int .i64 oJ, .int .i64 nJ, .string tJ, .slice aJ kJ.len cJ]) (by simp [results, Try.results81, go_sem, z0, z1, z2, z3, z4, z5, z6, z7, z8]) rfl ?_
      obtain ⟨hI, hdJ⟩ := HH.out
      have hsub := hI.sub
      have hcp := hI.cap
      rw [hdJ] at hsub hcp ⊢
      refine end_lo (x := w.heap.size) hsub ⟨(List.nodup_append.1 hI.fresh.1).2.1, fun q hq => hI.fresh.2 q (by simp [hq])⟩ hcp (fun q hq => HAP.out q (by simp [hq])) (Nat.le_refl _) (Ext.trans ((Ext.refl w).alloc _) hI.ext) ?_
      repeat (first | exact Touch.refl _ _ _ | refine Touch.setCell ?_ (by simp) (by simp) _)
    | succ q =>
      obtain ⟨p1, o1, n1, t1, k1, r1, hsp, hpl⟩ := F.at_len p' q (by omega)
      have hr0 : r1 = .nil := F.len_eq_zero (by have := congrArg F.len hsp; rw [F.len_app] at this; simp only [F.len] at this; omega)
      subst hr0
      have hrow' := hI.row
      rw [hsp] at hrow'
      obtain ⟨fpp, f2, hrp, hr2, rfl⟩ := RowAt.app_iff.1 hrow'
      rw [hpl, Nat.mul_comm 4, Nat.zero_add] at hr2
      obtain ⟨a1, c1, f1, g2, e0, e1, e2, e3, hc1, hs1, hg2, rfl⟩ := RowAt.cons_iff.1 hr2
      have hg2' : g2 = [] := hg2
      subst hg2'
      rw [List.append_nil] at hI
      rw [← hI.ext.cell hbl1] at e0 e1 e2 e3
      obtain ⟨⟨oJ, nJ, tJ, kJ⟩, hdJ⟩ : ∃ d : D, catOn g (o9, n9, t9, k9) = d := ⟨_, rfl⟩
      have hv := hI.var
      have hsub := hI.sub
      have hcp := hI.cap
      rw [hdJ] at hv hsub hcp
      have hv' : wr.heap[w.heap.size + 1]? = some (.cells #[.int .i64 oJ, .int .i64 nJ, .string tJ, .slice aJ kJ.len cJ] 29 (0, 0)) := hv
      have hJl : w.heap.size + 1 < wr.heap.size := (Array.getElem?_eq_some_iff.1 hv').1
      have x0 : wr.cell? ⟨w.heap.size + 1, 0, none⟩ = some (.int .i64 oJ) := by simp [World.cell?, hv']
      have x1 : wr.cell? ⟨w.heap.size + 1, 1, none⟩ = some (.int .i64 nJ) := by simp [World.cell?, hv']
      have x2 : wr.cell? ⟨w.heap.size + 1, 2, none⟩ = some (.string tJ) := by simp [World.cell?, hv']
      have x3 : wr.cell? ⟨w.heap.size + 1, 3, none⟩ = some (.slice aJ kJ.len cJ) := by simp [World.cell?, hv']
      have hs1r := subAt_same hs1 (B := wr) (fun c hc => hI.ext.block c (hI.old c (by simp [hc])))
      have HC := Lib.hid (fun (W : World) (e : Ext wr W) => Draw2.l1Cat W o1 n1 t1 k1 a1 c1 f1 oJ nJ tJ kJ aJ cJ fJ (e.sub hs1r (fun c hc => (hI.fresh.2 c (by simp [hc])).2.1)) (e.sub hsub (fun c hc => (hI.fresh.2 c (by simp [hc])).2.1)) (fun c hc => Nat.lt_of_lt_of_le (hI.fresh.2 c (by simp [hc])).2.1 e.size) (fun c hc => Nat.lt_of_lt_of_le (hI.fresh.2 c (by simp [hc])).2.1 e.size) hc1 hcp)
      obtain ⟨M1, hM1⟩ : ∃ M, k1.len = M := ⟨_, rfl⟩
      obtain ⟨MJ, hMJ⟩ : ∃ M, kJ.len = M := ⟨_, rfl⟩
      rw [hM1] at e3 HC
      rw [hMJ] at x3 HC hv'
      have HV := Lib.hid hv'
      have HH := Lib.hid (And.intro hI (And.intro hdJ (And.intro hsp (And.intro hpl hrp))))
      have hbr : b < wr.heap.size := Nat.lt_of_lt_of_le hbl1 hI.ext.size
      have j0 : (0 : Int) ≤ (q : Int) := Int.natCast_nonneg _
      have j1 : (q : Int) < (N : Int) + 1 := by omega
      rw [show ((q + 1 : Nat) : Int) - 1 = (q : Int) by omega]
      clear hI hdJ hv hv' hsub hcp hsp hpl hrp hs1 hs1r hrow' hr2 hg2 hM1 hMJ
      go_wp2_with fail
      go_region_law (go_simp; go_at_call 125; refine (HC.out _ (by first | exact (Ext.refl wr).drew | exact Ext.refl wr)).mono ?_; rintro e9 w2 ⟨b2, rfl, hb1, hb2, hrow2, hfz2, hB2⟩; have q2 : Ext wr w2 := (by first | exact hB2 | exact (Ext.refl wr).drew.trans hB2); have hv2 := (q2.block _ hJl).trans HV.out; have y0 : w2.cell? ⟨w.heap.size + 1, 0, none⟩ = some (.int .i64 oJ) := (by simp [World.cell?, hv2]); have y1 : w2.cell? ⟨w.heap.size + 1, 1, none⟩ = some (.int .i64 nJ) := (by simp [World.cell?, hv2]); have y2 : w2.cell? ⟨w.heap.size + 1, 2, none⟩ = some (.string tJ) := (by simp [World.cell?, hv2]); have y3 : w2.cell? ⟨w.heap.size + 1, 3, none⟩ = some (.slice aJ MJ cJ) := (by simp [World.cell?, hv2]); have z0 : w2.frozen? ⟨w.heap.size + 1, 0, none⟩ = false := (by simp [World.frozen?, hv2]); have z1 : w2.frozen? ⟨w.heap.size + 1, 1, none⟩ = false := (by simp [World.frozen?, hv2]); have z2 : w2.frozen? ⟨w.heap.size + 1, 2, none⟩ = false := (by simp [World.frozen?, hv2]); have z3 : w2.frozen? ⟨w.heap.size + 1, 3, none⟩ = false := (by simp [World.frozen?, hv2]); have H2 := Lib.hid (And.intro hb1 (And.intro hb2 (And.intro hrow2 (And.intro hfz2 (And.intro q2 hv2))))); clear hb1 hb2 hrow2 hfz2 hB2 hv2)
      all_goals
        go_wp2_with fail
        go_roundw
        case rel =>
          obtain ⟨hI, hdJ, hsp, hpl, hrp⟩ := HH.out
          obtain ⟨hb1, hb2, hrow2, hfz2, q2, hv2⟩ := H2.out
          have hXJ := set_four hv2 (.int .i64 7) (.int .i64 0) (.string ⟨#[]⟩) (.slice (some ⟨b2, 0, none⟩) 2 2)
          have hXo : ∀ i, i ≠ w.heap.size + 1 → ((((w2.setCell ⟨w.heap.size + 1, 0, none⟩ (.int .i64 7)).setCell ⟨w.heap.size + 1, 1, none⟩ (.int .i64 0)).setCell ⟨w.heap.size + 1, 2, none⟩ (.string ⟨#[]⟩)).setCell ⟨w.heap.size + 1, 3, none⟩ (.slice (some ⟨b2, 0, none⟩) 2 2)).heap[i]? = w2.heap[i]? := fun i hi =>
            (((Below.heap_setCell _ _ _ i hi).trans (Below.heap_setCell _ _ _ i hi)).trans (Below.heap_setCell _ _ _ i hi)).trans (Below.heap_setCell _ _ _ i hi)
          have hb1' : wr.heap.size ≤ b2 := hb1
          have hap : ∀ c ∈ f1 ++ fJ, c ≠ w.heap.size + 1 := fun c hc => by
            rcases List.mem_append.1 hc with hc | hc
            · have := hI.old c (by simp [hc]); simp only [World.size_alloc] at this; omega
            · exact hI.apart c hc
          refine ⟨q, p1, .cons o1 n1 t1 k1 g, _, _, fpp, b2 :: (f1 ++ fJ), by omega, rfl, hpl, hI.round (a1 := a1) (c1 := c1) hsp hrp (by simp) (by simp; omega) hdJ (by simp; exact q2.size) (fun i hi hne => (hXo i hne).trans (q2.block i hi)) hXJ ?_ ?_ hb1' (by simp; exact hb2) ?_, fun c hc => ?_⟩
          · exact ((((Below.setCell (hI.ext.trans q2) (p := ⟨w.heap.size + 1, 0, none⟩) (by simp) _).setCell (p := ⟨w.heap.size + 1, 1, none⟩) (by simp) _).setCell (p := ⟨w.heap.size + 1, 2, none⟩) (by simp) _).setCell (p := ⟨w.heap.size + 1, 3, none⟩) (by simp) _)
          · exact hrow2.congr' (fun o' _ _ => World.cell?_of_block (w := w2) (a := ⟨b2, o', none⟩) (hXo b2 (by omega))) (fun c hc o' => World.cell?_of_block (w := w2) (a := ⟨c, o', none⟩) (hXo c (hap c hc)))
          · exact fun o' => (World.frozen?_of_block (w := w2) (a := ⟨b2, o', none⟩) (hXo b2 (by omega))).trans (hfz2 o')
          · rcases List.mem_append.1 hc with hc | hc
            · exact HAP.out c (by simp [hc])
            · rcases List.mem_cons.1 hc with rfl | hc
              · have := hJl; omega
              · rcases List.mem_append.1 hc with hc | hc
                · exact HAP.out c (by simp [hc])
                · exact HAP.out c (by simp [hc])
        case measure => first | (simp [intOf]; done) | (simp [intOf]; omega)

end Go.Proofs.Ytmkibpimjaofgaa.Nf

namespace Go.Proofs.Ytmkibpimjaofgaa.Nf
open Go.RowKit P1 Copy CatD
end Go.Proofs.Ytmkibpimjaofgaa.Nf

namespace Go.Proofs.Ytmkibpimjaofgaa.Nf
open Go.RowKit P1 Copy CatD
end Go.Proofs.Ytmkibpimjaofgaa.Nf

namespace Go.Proofs.Ytmkibpimjaofgaa.Nf
open Go.RowKit P1 Copy CatD
end Go.Proofs.Ytmkibpimjaofgaa.Nf

