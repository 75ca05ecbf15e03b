import Derived.Test.YtafhefmjnjibdaaNfR7
import Derived.Test.YtafhefmjnjibdaaDrX
/-
  The model's l7Right at a pair.
-/
set_option linter.unusedVariables false
set_option linter.unusedSimpArgs false
namespace Go.Proofs.Ytafhefmjnjibdaa.Nf
open Go.RowKit P1 Copy CatD

/-- what holds when j parts have been joined in front of the last: w1: the world behind l7Spine, J: the variable -/
structure RpI (w1 : World) (lo : Nat) (p : F) (d : D) (b J : Nat) (p' g : F) (a : Option Addr) (c : Nat) (fp fJ : List Nat) (A : World) : Prop where
  split : p = p'.app g
  row : RowAt w1 p' b 0 fp
  var : DVar A J (catOn g d) a c
  sub : SubAt A a (catOn g d).2.2.2 fJ
  cap : (catOn g d).2.2.2.len ≤ c
  fresh : Fresh lo A (fp ++ fJ)
  old : ∀ q ∈ fp, q < w1.heap.size
  apart : ∀ q ∈ fJ, q ≠ J
  ext : Ext w1 A

/-- one more part in front -/
theorem RpI.round {w1 W X : World} {lo b J cJ c1 b2 : Nat} {p p1 p' g k1 kJ : F} {d : D} {aJ a1 : Option Addr} {fp f1 fJ : List Nat} {o1 n1 oJ nJ : Int} {t1 tJ : ByteArray} (h : RpI w1 lo p d b J p' g aJ cJ (fp ++ f1) fJ W) (hp : p' = p1.app (.cons o1 n1 t1 k1 .nil)) (hrow : RowAt w1 p1 b 0 fp)
    (hJ : w1.heap.size ≤ J) (hlo : lo ≤ w1.heap.size) (hd : catOn g d = (oJ, nJ, tJ, kJ)) (hz : W.heap.size ≤ X.heap.size) (hXo : ∀ q, q < W.heap.size → q ≠ J → X.heap[q]? = W.heap[q]?) (hXJ : X.heap[J]? = some (.cells #[.int .i64 7, .int .i64 0, .string ⟨#[]⟩, .slice (some ⟨b2, 0, none⟩) 2 2] 25 (0, 0))) (hXe : Ext w1 X)
    (hr2 : RowAt X (.cons o1 n1 t1 k1 (.cons oJ nJ tJ kJ .nil)) b2 0 (f1 ++ fJ)) (hb2 : W.heap.size ≤ b2) (hb2' : b2 < X.heap.size) (hf2 : ∀ o, X.frozen? ⟨b2, o, none⟩ = false) :
    RpI w1 lo p d b J p1 (.cons o1 n1 t1 k1 g) (some ⟨b2, 0, none⟩) 2 fp (b2 :: (f1 ++ fJ)) X := by
  have hfr := h.fresh
  have hJW : J < W.heap.size := (Array.getElem?_eq_some_iff.1 h.var).1
  have hall : ∀ q ∈ (fp ++ f1) ++ fJ, q < W.heap.size ∧ q ≠ J := fun q hq => ⟨(hfr.2 q hq).2.1, by
    rcases List.mem_append.1 hq with hq | hq
    · have := h.old q hq; omega
    · exact h.apart q hq⟩
  refine ⟨by rw [h.split, hp, F.app_assoc]; rfl, hrow, hXJ, ?_, Nat.le_refl 2, ⟨?_, fun q hq => ?_⟩, fun q hq => h.old q (by simp [hq]), ?_, hXe⟩
  · show SubAt X _ (.cons o1 n1 t1 k1 (consD (catOn g d) .nil)) _
    rw [hd]
    exact .inr ⟨b2, 0, f1 ++ fJ, rfl, (by intro e; cases e), rfl, hr2⟩
  · rw [List.perm_middle.nodup_iff, List.nodup_cons]
    have hnd := hfr.1
    rw [List.append_assoc] at hnd
    exact ⟨fun hm => by have := (hall _ (by rw [List.append_assoc]; exact hm)).1; omega, hnd⟩
  · rcases (show q = b2 ∨ q ∈ (fp ++ f1) ++ fJ by simp at hq ⊢; rcases hq with hq | hq | hq | hq <;> simp [hq]) with rfl | hq
    · exact ⟨by have := Ext.size h.ext; omega, hb2', hf2⟩
    · exact ⟨(hfr.2 q hq).1, by have := (hall q hq).1; omega, fun x => (World.frozen?_of_block (w := W) (hXo q (hall q hq).1 (hall q hq).2)).trans ((hfr.2 q hq).2.2 x)⟩
  · intro q hq
    rcases List.mem_cons.1 hq with rfl | hq
    · omega
    · rcases List.mem_append.1 hq with hq | hq
      · have := h.old q (by simp [hq]); omega
      · exact h.apart q hq

set_option maxRecDepth 100000 in
set_option maxHeartbeats 3200000 in
theorem ri_pair (w : World) (n : Int) (t : ByteArray) (k : F) (a : Option Addr) (cap : Nat) (lo : Nat) (p : F) (o9 n9 : Int) (t9 : ByteArray) (k9 : F) (hlo : lo = w.heap.size + 1 + 1) (hl : p.len ≤ 100000)
    (ih : ∀ (W : World) (v : Value), Ext w W → Grow W 25 lo v .nil [] → Calls Try.prog 109 #[v, .agg #[.int .i64 7, .int .i64 n, .string t, .slice a k.len cap]] W (SpOut lo W v [] (p.app (.cons o9 n9 t9 k9 .nil)))) :
    Calls Try.prog 73 #[.agg #[.int .i64 7, .int .i64 n, .string t, .slice a k.len cap]] w (NewD w (catOn p (o9, n9, t9, k9))) := by
  obtain ⟨L, hL⟩ : ∃ L, k.len = L := ⟨_, rfl⟩
  rw [hL] at ih ⊢
  have HIH := Lib.hid (fun x y z => ih (((w.alloc x).alloc y).alloc (.cells z 25)) (.slice (some ⟨w.heap.size + 1 + 1, 0, none⟩) 0 0) ((((Ext.refl w).alloc _).alloc _).alloc _))
  have HZ := Lib.hid (fun x => zbox_second w x 25)
  clear ih hL
  go_enter Try.func73, Try.ntmps73
  go_wp2_with fail
  have hgm := fun (x y : Obj) => (show Grow (((w.alloc x).alloc y).alloc (.cells #[] 25)) 25 lo (.slice (some ⟨w.heap.size + 1 + 1, 0, none⟩) 0 0) .nil [] from by
    have h := Grow.made ((w.alloc x).alloc y) 25 lo (by rw [hlo]; simp)
    have e : ((w.alloc x).alloc y).heap.size = w.heap.size + 1 + 1 := by simp
    rw [e] at h; exact h)
  refine (HIH.out _ _ #[] (hgm _ _)).mono ?_
  rintro e1 w1 ⟨v1, fs1, rfl, hG1, hB1, _, _, _⟩
  have HZ1 := Lib.hid (zbox_below (HZ.out _) (((Below.refl lo _).alloc (by rw [hlo]; simp) _).trans hB1) (by omega))
  have hE1 : Ext w w1 := Below.trans ((((Ext.refl w).alloc _).alloc _).alloc _) (hB1.mono (by omega))
  obtain ⟨b, cb, f', rfl, hfs, hrow⟩ : ∃ b c f', v1 = .slice (some ⟨b, 0, none⟩) (p.app (.cons o9 n9 t9 k9 .nil)).len c ∧ fs1 = b :: f' ∧ RowAt w1 (p.app (.cons o9 n9 t9 k9 .nil)) b 0 f' := by
    rcases hG1.2.1 with ⟨h, _⟩ | ⟨b, c, f', h1, _, h2, h3⟩
    · exact absurd h app_ne
    · exact ⟨b, c, f', h1, h2, h3⟩
  subst hfs
  have hfr := hG1.fresh
  obtain ⟨fp, f2, hr1, hr2, rfl⟩ := RowAt.app_iff.1 hrow
  obtain ⟨N, hN⟩ : ∃ N, p.len = N := ⟨_, rfl⟩
  rw [hN, Nat.mul_comm 4, Nat.zero_add] at hr2
  obtain ⟨a9, c9, g1, g2, d0, d1, d2, d3, hc9, hs9, hg2, rfl⟩ := RowAt.cons_iff.1 hr2
  have hg2' : g2 = [] := hg2
  subst hg2'
  rw [List.append_nil] at hfr
  rw [show (p.app (.cons o9 n9 t9 k9 .nil)).len = N + 1 by rw [F.len_app, hN]; rfl]
  obtain ⟨L9, hL9⟩ : ∃ L, k9.len = L := ⟨_, rfl⟩
  rw [hL9] at d3
  have i0 : (0 : Int) ≤ (N : Int) := Int.natCast_nonneg _
  have i1 : (N : Int) < ((N + 1 : Nat) : Int) := by omega
  have i2 : ((N + 1 : Nat) : Int) - 1 = (N : Int) := by omega
  have i3 : ((N + 1 : Nat) : Int) - 2 = (N : Int) - 1 := by omega
  have hN1 : N ≤ 100000 := by omega
  have hE0 := Lib.hid (show w.heap.size + 1 + 1 ≤ w1.heap.size ∧ True from ⟨by have h := hB1.size; simp at h; omega, trivial⟩)
  have hbl : b < w1.heap.size := (hfr.2 b (by simp)).2.1
  have H1 := Lib.hid (And.intro hr1 (And.intro hs9 (And.intro hc9 (And.intro hfr (And.intro hL9 hN)))))
  clear hr1 hs9 hc9 hfr hL9 hrow hr2 hG1 hB1 hN
  have hvar := fun (W : World) => World.alloc_heap_new W (.cells #[.int .i64 o9, .int .i64 n9, .string t9, .slice a9 L9 c9] 25)
  go_wp2_with fail
  go_loopw [5] (fun i wr => ∃ (q : Nat) (p' g : F) (aJ : Option Addr) (cJ : Nat) (fp' fJ : List Nat), q ≤ N ∧ i = .int .i64 ((q : Int) - 1) ∧ p'.len = q ∧ RpI w1 lo p (o9, n9, t9, k9) b w1.heap.size p' g aJ cJ fp' fJ wr) (fun i _ => (intOf i + 1).toNat)
  case atStart =>
    obtain ⟨hr1, hs9, hc9, hfr, hL9, hN⟩ := H1.out
    refine ⟨N, p, .nil, a9, c9, fp, g1, Nat.le_refl _, by rw [show (N : Int) + 1 - 2 = (N : Int) - 1 by omega], hN, (F.app_nil p).symm, hr1, ?_, hs9.below (fun c hc => (hfr.2 c (by simp [hc])).2.1) ((Ext.refl w1).alloc _), hc9, ?_, fun q hq => (hfr.2 q (by simp [hq])).2.1, fun q hq => by have := (hfr.2 q (by simp [hq])).2.1; omega, (Ext.refl w1).alloc _⟩
    · subst hL9; exact hvar w1
    · exact Fresh.below (lo := lo) ⟨(List.nodup_cons.1 hfr.1).2, fun q hq => hfr.2 q (by simp at hq ⊢; simp [hq])⟩ (fun c hc => (hfr.2 c (by simp at hc ⊢; simp [hc])).2.1) ((Ext.refl w1).alloc _)
  case round =>
    obtain ⟨q, p', g, aJ, cJ, fp', fJ, hq, rfl, hql, hI⟩ := hrel
    cases q with
    | zero =>
      have hp' : p' = .nil := F.len_eq_zero hql
      subst hp'
      obtain rfl : p = g := hI.split
      obtain ⟨⟨oJ, nJ, tJ, kJ⟩, hdJ⟩ : ∃ d : D, catOn p (o9, n9, t9, k9) = d := ⟨_, rfl⟩
      have hv := hI.var
      rw [hdJ] at hv
      have hv' : wr.heap[w1.heap.size]? = some (.cells #[.int .i64 oJ, .int .i64 nJ, .string tJ, .slice aJ kJ.len cJ] 25 (0, 0)) := hv
      have x0 : wr.cell? ⟨w1.heap.size, 0, none⟩ = some (.int .i64 oJ) := by simp [World.cell?, hv']
      have x1 : wr.cell? ⟨w1.heap.size, 1, none⟩ = some (.int .i64 nJ) := by simp [World.cell?, hv']
      have x2 : wr.cell? ⟨w1.heap.size, 2, none⟩ = some (.string tJ) := by simp [World.cell?, hv']
      have x3 : wr.cell? ⟨w1.heap.size, 3, none⟩ = some (.slice aJ kJ.len cJ) := by simp [World.cell?, hv']
      obtain ⟨⟨z0, z1, z2, z3⟩, ⟨z4, z5, z6, z7⟩, z8⟩ := HZ1.out.ext hI.ext
      have HH := Lib.hid (And.intro hI (And.intro hdJ hE1))
      rw [show ((0 : Nat) : Int) - 1 = -1 by omega]
      clear hI hdJ hv hv' hE1
      go_wp2_with fail
      refine bodyPost_ret (v := .agg #[.int .i64 oJ, .int .i64 nJ, .string tJ, .slice aJ kJ.len cJ]) (by simp [results, Try.results73, go_sem, z0, z1, z2, z3, z4, z5, z6, z7, z8]) rfl ?_
      obtain ⟨hI, hdJ, hE1⟩ := HH.out
      have hsub := hI.sub
      have hcp := hI.cap
      rw [hdJ] at hsub hcp ⊢
      refine end_new2 (lo := w.heap.size + 1) (hi := w.heap.size + 2) (B := lo) (w3 := wr) hsub ⟨(List.nodup_append.1 hI.fresh.1).2.1, fun q hq => hI.fresh.2 q (by simp [hq])⟩ hcp (by omega) (by omega) (by omega) (hE1.trans hI.ext) ?_
      repeat (first | exact Touch.refl _ _ _ | refine Touch.setCell ?_ (by simp) (by simp) _)
    | succ q =>
      obtain ⟨p1, o1, n1, t1, k1, r1, hsp, hpl⟩ := F.at_len p' q (by omega)
      have hr0 : r1 = .nil := F.len_eq_zero (by have := congrArg F.len hsp; rw [F.len_app] at this; simp only [F.len] at this; omega)
      subst hr0
      have hrow' := hI.row
      rw [hsp] at hrow'
      obtain ⟨fpp, f2, hrp, hr2, rfl⟩ := RowAt.app_iff.1 hrow'
      rw [hpl, Nat.mul_comm 4, Nat.zero_add] at hr2
      obtain ⟨a1, c1, f1, g2, e0, e1, e2, e3, hc1, hs1, hg2, rfl⟩ := RowAt.cons_iff.1 hr2
      have hg2' : g2 = [] := hg2
      subst hg2'
      rw [List.append_nil] at hI
      rw [← hI.ext.cell hbl] at e0 e1 e2 e3
      obtain ⟨⟨oJ, nJ, tJ, kJ⟩, hdJ⟩ : ∃ d : D, catOn g (o9, n9, t9, k9) = d := ⟨_, rfl⟩
      have hv := hI.var
      have hsub := hI.sub
      have hcp := hI.cap
      rw [hdJ] at hv hsub hcp
      have hv' : wr.heap[w1.heap.size]? = some (.cells #[.int .i64 oJ, .int .i64 nJ, .string tJ, .slice aJ kJ.len cJ] 25 (0, 0)) := hv
      have hJl : w1.heap.size < wr.heap.size := (Array.getElem?_eq_some_iff.1 hv').1
      have x0 : wr.cell? ⟨w1.heap.size, 0, none⟩ = some (.int .i64 oJ) := by simp [World.cell?, hv']
      have x1 : wr.cell? ⟨w1.heap.size, 1, none⟩ = some (.int .i64 nJ) := by simp [World.cell?, hv']
      have x2 : wr.cell? ⟨w1.heap.size, 2, none⟩ = some (.string tJ) := by simp [World.cell?, hv']
      have x3 : wr.cell? ⟨w1.heap.size, 3, none⟩ = some (.slice aJ kJ.len cJ) := by simp [World.cell?, hv']
      have hs1r := subAt_same hs1 (B := wr) (fun c hc => hI.ext.block c (hI.old c (by simp [hc])))
      have HC := Lib.hid (fun (W : World) (e : Ext wr W) => Draw2.l1Cat W o1 n1 t1 k1 a1 c1 f1 oJ nJ tJ kJ aJ cJ fJ (e.sub hs1r (fun c hc => (hI.fresh.2 c (by simp [hc])).2.1)) (e.sub hsub (fun c hc => (hI.fresh.2 c (by simp [hc])).2.1)) (fun c hc => Nat.lt_of_lt_of_le (hI.fresh.2 c (by simp [hc])).2.1 e.size) (fun c hc => Nat.lt_of_lt_of_le (hI.fresh.2 c (by simp [hc])).2.1 e.size) hc1 hcp)
      obtain ⟨M1, hM1⟩ : ∃ M, k1.len = M := ⟨_, rfl⟩
      obtain ⟨MJ, hMJ⟩ : ∃ M, kJ.len = M := ⟨_, rfl⟩
      rw [hM1] at e3 HC
      rw [hMJ] at x3 HC hv'
      have HV := Lib.hid hv'
      have HH := Lib.hid (And.intro hI (And.intro hdJ (And.intro hsp (And.intro hpl hrp))))
      have hbr : b < wr.heap.size := Nat.lt_of_lt_of_le hbl hI.ext.size
      have j0 : (0 : Int) ≤ (q : Int) := Int.natCast_nonneg _
      have j1 : (q : Int) < (N : Int) + 1 := by omega
      rw [show ((q + 1 : Nat) : Int) - 1 = (q : Int) by omega]
      clear hI hdJ hv hv' hsub hcp hsp hpl hrp hs1 hs1r hrow' hr2 hg2 hE1 hM1 hMJ
      go_wp2_with fail
      go_region_law (go_simp; go_at_call 88; refine (HC.out _ (by first | exact (Ext.refl wr).drew | exact Ext.refl wr)).mono ?_; rintro e9 w2 ⟨b2, rfl, hb1, hb2, hrow2, hfz2, hB2⟩; have q2 : Ext wr w2 := (by first | exact hB2 | exact (Ext.refl wr).drew.trans hB2); have hv2 := (q2.block _ hJl).trans HV.out; have y0 : w2.cell? ⟨w1.heap.size, 0, none⟩ = some (.int .i64 oJ) := (by simp [World.cell?, hv2]); have y1 : w2.cell? ⟨w1.heap.size, 1, none⟩ = some (.int .i64 nJ) := (by simp [World.cell?, hv2]); have y2 : w2.cell? ⟨w1.heap.size, 2, none⟩ = some (.string tJ) := (by simp [World.cell?, hv2]); have y3 : w2.cell? ⟨w1.heap.size, 3, none⟩ = some (.slice aJ MJ cJ) := (by simp [World.cell?, hv2]); have z0 : w2.frozen? ⟨w1.heap.size, 0, none⟩ = false := (by simp [World.frozen?, hv2]); have z1 : w2.frozen? ⟨w1.heap.size, 1, none⟩ = false := (by simp [World.frozen?, hv2]); have z2 : w2.frozen? ⟨w1.heap.size, 2, none⟩ = false := (by simp [World.frozen?, hv2]); have z3 : w2.frozen? ⟨w1.heap.size, 3, none⟩ = false := (by simp [World.frozen?, hv2]); have H2 := Lib.hid (And.intro hb1 (And.intro hb2 (And.intro hrow2 (And.intro hfz2 (And.intro q2 hv2))))); clear hb1 hb2 hrow2 hfz2 hB2 hv2)
      all_goals
        go_wp2_with fail
        go_roundw
        case rel =>
          obtain ⟨hI, hdJ, hsp, hpl, hrp⟩ := HH.out
          obtain ⟨hb1, hb2, hrow2, hfz2, q2, hv2⟩ := H2.out
          have hXJ := set_four hv2 (.int .i64 7) (.int .i64 0) (.string ⟨#[]⟩) (.slice (some ⟨b2, 0, none⟩) 2 2)
          have hXo : ∀ i, i ≠ w1.heap.size → ((((w2.setCell ⟨w1.heap.size, 0, none⟩ (.int .i64 7)).setCell ⟨w1.heap.size, 1, none⟩ (.int .i64 0)).setCell ⟨w1.heap.size, 2, none⟩ (.string ⟨#[]⟩)).setCell ⟨w1.heap.size, 3, none⟩ (.slice (some ⟨b2, 0, none⟩) 2 2)).heap[i]? = w2.heap[i]? := fun i hi =>
            (((Below.heap_setCell _ _ _ i hi).trans (Below.heap_setCell _ _ _ i hi)).trans (Below.heap_setCell _ _ _ i hi)).trans (Below.heap_setCell _ _ _ i hi)
          have hb1' : wr.heap.size ≤ b2 := hb1
          have hap : ∀ c ∈ f1 ++ fJ, c ≠ w1.heap.size := fun c hc => by
            rcases List.mem_append.1 hc with hc | hc
            · have := hI.old c (by simp [hc]); omega
            · exact hI.apart c hc
          refine ⟨q, p1, .cons o1 n1 t1 k1 g, _, _, fpp, b2 :: (f1 ++ fJ), by omega, rfl, hpl, hI.round (a1 := a1) (c1 := c1) hsp hrp (Nat.le_refl _) (by have := hE0.out.1; omega) hdJ (by simp; exact q2.size) (fun i hi hne => (hXo i hne).trans (q2.block i hi)) hXJ ?_ ?_ hb1' (by simp; exact hb2) ?_⟩
          · exact ((((Below.setCell (hI.ext.trans q2) (p := ⟨w1.heap.size, 0, none⟩) (by simp) _).setCell (p := ⟨w1.heap.size, 1, none⟩) (by simp) _).setCell (p := ⟨w1.heap.size, 2, none⟩) (by simp) _).setCell (p := ⟨w1.heap.size, 3, none⟩) (by simp) _)
          · exact hrow2.congr' (fun o' _ _ => World.cell?_of_block (w := w2) (a := ⟨b2, o', none⟩) (hXo b2 (by omega))) (fun c hc o' => World.cell?_of_block (w := w2) (a := ⟨c, o', none⟩) (hXo c (hap c hc)))
          · exact fun o' => (World.frozen?_of_block (w := w2) (a := ⟨b2, o', none⟩) (hXo b2 (by omega))).trans (hfz2 o')
        case measure => first | (simp [intOf]; done) | (simp [intOf]; omega)

end Go.Proofs.Ytafhefmjnjibdaa.Nf

