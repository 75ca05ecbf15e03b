import Derived.Test.YtclifbjnooilmaaGreatDr5
import Derived.Test.YtclifbjnooilmaaGreatGgO
import Derived.Test.YtclifbjnooilmaaGreatFacts
import Derived.Deep.DeepCutAuto
/-
 Without choices, all is best: the law FnBestOne returns true for whatever draws, and its argument reads as it did. No condition of ours.
-/
set_option linter.unusedVariables false
set_option linter.unusedSimpArgs false
set_option maxRecDepth 100000
set_option maxHeartbeats 6400000
namespace Go.Proofs.YtclifbjnooilmaaGreat.lawBestOne
open Go.ChangeShapes Go.WideShapes Go.ChangeAt Go.RowKit P1 Draw6 LawC CntC DocK CatD
theorem walk_good (w : World) (a0 : Option Addr) (len0 cap0 : Nat) (hb0 : Bytes w a0 len0) (hlc0 : len0 ≤ cap0) (hcm0 : cap0 ≤ maxLen) (hl0 : len0 ≤ 1048576) :
  Calls Tryz.prog 7 #[.slice a0 len0 cap0] w fun e w' => e = .returned (.bool true) ∧ Ext w w' := by
 have HD0 := Lib.hid (Dr5.drawBestCost w a0 len0 cap0 hb0 hlc0 hcm0)
 clear hb0
 unfold maxLen at hcm0
 go_enter Tryz.func7, Tryz.ntmps7
 go_wp2_with fail
 refine HD0.out.mono ?_
 rintro e1 w1 ⟨o, n, t, k, a, c, fs, i, rfl, hi, hc, hsz, hsub, hfr, hb1⟩
 obtain ⟨w3, hV⟩ : ∃ V, w1.alloc (.cells #[.int .i64 o, .int .i64 n, .string t, .slice a k.len c] 25) = V := ⟨_, rfl⟩
 have he : Ext w1 w3 := by rw [← hV]; exact (Ext.refl _).alloc _
 have X3 := Lib.hid (show w3.cell? ⟨w1.heap.size, 0, none⟩ = some (.int .i64 o) ∧ w3.cell? ⟨w1.heap.size, 1, none⟩ = some (.int .i64 n) ∧ w3.cell? ⟨w1.heap.size, 2, none⟩ = some (.string t) ∧ w3.cell? ⟨w1.heap.size, 3, none⟩ = some (.slice a k.len c) from by rw [← hV]; exact box_new w1 25 (.int .i64 o) (.int .i64 n) (.string t) (.slice a k.len c))
 have L3 := Lib.hid (show w1.heap.size < w3.heap.size by rw [← hV]; simp)
 have D3 := Lib.hid (show DocK.Doc0 w3 n t k a c fs from (DocK.Doc0.mk hsub (fun c hc => (hfr.2 c hc).2) hc (by omega)).ext he)
 have E1 := Lib.hid (show Ext w w3 from Ext.trans (show Ext w w1 from hb1) he)
 have E3 := Lib.hid (Ext.refl w3)
 clear he hsub hfr hb1 hc
 obtain ⟨⟨okW, o2, n2, t2, k2⟩, hR2⟩ : ∃ R, Nf.woRes o n t k = R := ⟨_, rfl⟩
 have hsz2 : t2.size + k2.size ≤ 100000 := Nf.ch_tiny hR2
 have hsz3 := hsz2
 obtain ⟨⟨v1, v2, ok⟩, hB⟩ : ∃ R, Be.bcR i o2 n2 t2 k2 = R := ⟨_, rfl⟩
 obtain ⟨⟨g1, g2, fine⟩, hG⟩ : ∃ R, Be.ggR i o2 n2 t2 k2 = R := ⟨_, rfl⟩
 obtain ⟨⟨J, gp⟩, hF⟩ : ∃ R, Be.fgR o2 n2 t2 k2 = R := ⟨_, rfl⟩
 have hone : okW = true → ok = true → fine = true ∧ g1 = 0 ∧ g2 = 0 ∧ gp = false := by
  intro h1 h2
  rw [h1] at hR2
  rw [h2] at hB
  obtain ⟨e1, e2⟩ := Be.one_facts hR2 hB
  rw [hG] at e1
  rw [hF] at e2
  injection e1 with e3 e4
  injection e4 with e4 e5
  injection e2 with e6 e7
  exact ⟨e5, e3, e4, e7⟩
 have HWI := Lib.hid (show ∀ W : World, Ext w3 W → Calls Tryz.prog 30 #[.agg #[.int .i64 o, .int .i64 n, .string t, .slice a k.len c]] W (DocRes W (okW, o2, n2, t2, k2)) from fun W e => by have h := Nf.implWithoutGroups W o n t k a c fs (D3.out.ext e).sub (D3.out.ext e).ok D3.out.cap_le (by have := D3.out.size; omega); rw [hR2] at h; exact h)
 have HWS := Lib.hid (show ∀ W : World, Ext w3 W → Calls Tryz.prog 31 #[.agg #[.int .i64 o, .int .i64 n, .string t, .slice a k.len c]] W (DocRes W (okW, o2, n2, t2, k2)) from fun W e => by have h := Nf.specWithoutGroups W o n t k a c fs (D3.out.ext e).sub (D3.out.ext e).ok D3.out.cap_le (by have := D3.out.size; omega); rw [hR2] at h; exact h)
 have HB := Lib.hid hB
 have HG := Lib.hid hG
 have HF := Lib.hid hF
 have heq := Be.cost_refl v1 v2
 have hoo : (ok != ok) = false := by simp
 have hoe : (ok == ok) = true := by simp
 have hww : (okW != okW) = false := by simp
 clear hR2 hB hG hF
 obtain ⟨x0, x1, x2, x3⟩ := X3.out
 have l := L3.out
 go_wp2_with fail
 try rw [hV]
 clear hV
 refine (HWI.out _ E3.out).mono ?_
 rintro e4 wx2 ⟨a2, c2, f2, rfl, hc9, hs9, hfr9, hb⟩
 obtain ⟨w4, hV⟩ : ∃ V, wx2.alloc (.cells #[.int .i64 o2, .int .i64 n2, .string t2, .slice a2 k2.len c2] 25) = V := ⟨_, rfl⟩
 have hbb : Ext w3 w4 := by rw [← hV]; exact Ext.trans (show Ext w3 wx2 from hb) ((Ext.refl _).alloc _)
 have X4 := Lib.hid (box4 X3.out L3.out hbb)
 have L4 := Lib.hid (Nat.lt_of_lt_of_le L3.out hbb.size)
 have E4 := Lib.hid (E3.out.trans hbb)
 have S4 := Lib.hid hbb
 have hlV : wx2.heap.size < w4.heap.size := by rw [← hV]; simp
 have Y4 := Lib.hid (show w4.cell? ⟨wx2.heap.size, 0, none⟩ = some (.int .i64 o2) ∧ w4.cell? ⟨wx2.heap.size, 1, none⟩ = some (.int .i64 n2) ∧ w4.cell? ⟨wx2.heap.size, 2, none⟩ = some (.string t2) ∧ w4.cell? ⟨wx2.heap.size, 3, none⟩ = some (.slice a2 k2.len c2) from by rw [← hV]; exact box_new wx2 25 (.int .i64 o2) (.int .i64 n2) (.string t2) (.slice a2 k2.len c2))
 have M4 := Lib.hid hlV
 have A2 := Lib.hid (show DocK.Doc0 w4 n2 t2 k2 a2 c2 f2 from (DocK.Doc0.mk hs9 (fun c hc => (hfr9.2 c hc).2) hc9 hsz2).ext (by rw [← hV]; exact (Ext.refl _).alloc _))
 clear hb hbb hc9 hs9 hfr9 hlV x0 x1 x2 x3 l
 obtain ⟨x0, x1, x2, x3⟩ := X4.out
 have l := L4.out
 go_wp2_with fail
 try rw [hV]
 clear hV
 have HBI := Lib.hid (show ∀ W : World, Ext w4 W → Calls Tryz.prog 23 #[.agg #[.int .i64 o2, .int .i64 n2, .string t2, .slice a2 k2.len c2], .int .i64 i] W fun e w' => e = .returned (.tuple #[.agg #[.int .i64 v1, .int .i64 v2], .bool ok]) ∧ Ext W w' from fun W e => by have h := Be.implBestCost i W o2 n2 t2 k2 a2 c2 f2 (A2.out.ext e).sub (A2.out.ext e).ok A2.out.cap_le (by have := A2.out.size; omega) A2.out.fits A2.out.tfit; unfold Be.CoOut at h; rw [HB.out] at h; exact h)
 have HBS := Lib.hid (show ∀ W : World, Ext w4 W → Calls Tryz.prog 32 #[.agg #[.int .i64 o2, .int .i64 n2, .string t2, .slice a2 k2.len c2], .int .i64 i] W fun e w' => e = .returned (.tuple #[.agg #[.int .i64 v1, .int .i64 v2], .bool ok]) ∧ Ext W w' from fun W e => by have h := Be.specBestCost i W o2 n2 t2 k2 a2 c2 f2 (A2.out.ext e).sub (A2.out.ext e).lt A2.out.cap_le (by have := A2.out.size; omega) A2.out.fits A2.out.tfit; unfold Be.CoOut at h; rw [HB.out] at h; exact h)
 have HGI := Lib.hid (show ∀ W : World, Ext w4 W → Calls Tryz.prog 21 #[.agg #[.int .i64 o2, .int .i64 n2, .string t2, .slice a2 k2.len c2], .int .i64 i] W fun e w' => e = .returned (.tuple #[.agg #[.int .i64 g1, .int .i64 g2], .bool fine]) ∧ Ext W w' from fun W e => by have h := Be.implGreedyGap i W o2 n2 t2 k2 a2 c2 f2 (A2.out.ext e).sub (A2.out.ext e).ok A2.out.cap_le (by have := A2.out.size; omega) A2.out.fits A2.out.tfit; unfold Be.CoOut at h; rw [HG.out] at h; exact h)
 have HFG := Lib.hid (show ∀ W : World, Ext w4 W → Calls Tryz.prog 25 #[.agg #[.int .i64 o2, .int .i64 n2, .string t2, .slice a2 k2.len c2]] W fun e w' => e = .returned (.tuple #[.int .i64 J, .bool gp]) ∧ Ext W w' from fun W e => by have h := Be.implFirstGap W o2 n2 t2 k2 a2 c2 f2 (A2.out.ext e).sub (A2.out.ext e).ok A2.out.cap_le (by have := A2.out.size; omega) A2.out.fits A2.out.tfit; rw [HF.out] at h; exact h)
 refine (HWS.out _ E4.out).mono ?_
 rintro e5 wx3 ⟨a3, c3, f3, rfl, hc9, hs9, hfr9, hb⟩
 obtain ⟨w5, hV⟩ : ∃ V, wx3.alloc (.cells #[.int .i64 o2, .int .i64 n2, .string t2, .slice a3 k2.len c3] 25) = V := ⟨_, rfl⟩
 have hbb : Ext w4 w5 := by rw [← hV]; exact Ext.trans (show Ext w4 wx3 from hb) ((Ext.refl _).alloc _)
 have X5 := Lib.hid (box4 X4.out L4.out hbb)
 have L5 := Lib.hid (Nat.lt_of_lt_of_le L4.out hbb.size)
 have Y5 := Lib.hid (box4 Y4.out M4.out hbb)
 have M5 := Lib.hid (Nat.lt_of_lt_of_le M4.out hbb.size)
 have E5 := Lib.hid (E4.out.trans hbb)
 have S5 := Lib.hid hbb
 have hlV : wx3.heap.size < w5.heap.size := by rw [← hV]; simp
 have Z5 := Lib.hid (show w5.cell? ⟨wx3.heap.size, 0, none⟩ = some (.int .i64 o2) ∧ w5.cell? ⟨wx3.heap.size, 1, none⟩ = some (.int .i64 n2) ∧ w5.cell? ⟨wx3.heap.size, 2, none⟩ = some (.string t2) ∧ w5.cell? ⟨wx3.heap.size, 3, none⟩ = some (.slice a3 k2.len c3) from by rw [← hV]; exact box_new wx3 25 (.int .i64 o2) (.int .i64 n2) (.string t2) (.slice a3 k2.len c3))
 have P5 := Lib.hid hlV
 have A3 := Lib.hid (show DocK.Doc0 w5 n2 t2 k2 a3 c3 f3 from (DocK.Doc0.mk hs9 (fun c hc => (hfr9.2 c hc).2) hc9 hsz3).ext (by rw [← hV]; exact (Ext.refl _).alloc _))
 clear hb hbb hc9 hs9 hfr9 hlV x0 x1 x2 x3 l
 obtain ⟨y0, y1, y2, y3⟩ := Y5.out
 have m := M5.out
 go_wp2_with fail
 try rw [hV]
 clear hV
 refine (HBI.out _ S5.out).mono ?_
 rintro e6 wx6 ⟨rfl, hb⟩
 obtain ⟨w6, hV⟩ : ∃ V, wx6.alloc (.cells #[.int .i64 v1, .int .i64 v2] 33) = V := ⟨_, rfl⟩
 have hbb : Ext w5 w6 := by rw [← hV]; exact Ext.trans (show Ext w5 wx6 from hb) ((Ext.refl _).alloc _)
 have X6 := Lib.hid (box4 X5.out L5.out hbb)
 have L6 := Lib.hid (Nat.lt_of_lt_of_le L5.out hbb.size)
 have Y6 := Lib.hid (box4 Y5.out M5.out hbb)
 have M6 := Lib.hid (Nat.lt_of_lt_of_le M5.out hbb.size)
 have Z6 := Lib.hid (box4 Z5.out P5.out hbb)
 have P6 := Lib.hid (Nat.lt_of_lt_of_le P5.out hbb.size)
 have E6 := Lib.hid (E5.out.trans hbb)
 have S6 := Lib.hid hbb
 have Ga6 := Lib.hid (show w6.cell? ⟨wx6.heap.size, 0, none⟩ = some (.int .i64 v1) ∧ w6.cell? ⟨wx6.heap.size, 1, none⟩ = some (.int .i64 v2) from by rw [← hV]; exact ⟨by rw [World.cell?_alloc_new]; rfl, by rw [World.cell?_alloc_new]; rfl⟩)
 have Gl6 := Lib.hid (show wx6.heap.size < w6.heap.size by rw [← hV]; simp)
 clear hb hbb y0 y1 y2 y3 m
 obtain ⟨y0, y1, y2, y3⟩ := Y6.out
 have m := M6.out
 go_wp2_with fail
 try rw [hV]
 clear hV
 refine (HBS.out _ (S5.out.trans S6.out)).mono ?_
 rintro e7 wx7 ⟨rfl, hb⟩
 obtain ⟨w7, hV⟩ : ∃ V, wx7.alloc (.cells #[.int .i64 v1, .int .i64 v2] 33) = V := ⟨_, rfl⟩
 have hbb : Ext w6 w7 := by rw [← hV]; exact Ext.trans (show Ext w6 wx7 from hb) ((Ext.refl _).alloc _)
 have X7 := Lib.hid (box4 X6.out L6.out hbb)
 have L7 := Lib.hid (Nat.lt_of_lt_of_le L6.out hbb.size)
 have Y7 := Lib.hid (box4 Y6.out M6.out hbb)
 have M7 := Lib.hid (Nat.lt_of_lt_of_le M6.out hbb.size)
 have Z7 := Lib.hid (box4 Z6.out P6.out hbb)
 have P7 := Lib.hid (Nat.lt_of_lt_of_le P6.out hbb.size)
 have Ga7 := Lib.hid (Be.box2 Ga6.out Gl6.out hbb)
 have Gl7 := Lib.hid (Nat.lt_of_lt_of_le Gl6.out hbb.size)
 have E7 := Lib.hid (E6.out.trans hbb)
 have S7 := Lib.hid hbb
 have Wa7 := Lib.hid (show w7.cell? ⟨wx7.heap.size, 0, none⟩ = some (.int .i64 v1) ∧ w7.cell? ⟨wx7.heap.size, 1, none⟩ = some (.int .i64 v2) from by rw [← hV]; exact ⟨by rw [World.cell?_alloc_new]; rfl, by rw [World.cell?_alloc_new]; rfl⟩)
 have Wl7 := Lib.hid (show wx7.heap.size < w7.heap.size by rw [← hV]; simp)
 clear hb hbb y0 y1 y2 y3 m
 cases ok with
 | false =>
   clear hone
   obtain ⟨ga0, ga1⟩ := Ga7.out
   have gl := Gl7.out
   obtain ⟨wa0, wa1⟩ := Wa7.out
   have wl := Wl7.out
   go_wp2_with fail
   try rw [hV]
   clear hV
   go_ret
   exact ⟨by first | rfl | simp, E1.out.trans (E3.out.trans E7.out)⟩
 | true =>
 cases okW with
 | false =>
   clear hone
   obtain ⟨ga0, ga1⟩ := Ga7.out
   have gl := Gl7.out
   obtain ⟨wa0, wa1⟩ := Wa7.out
   have wl := Wl7.out
   go_wp2_with fail
   try rw [hV]
   clear hV
   go_ret
   exact ⟨by first | rfl | simp, E1.out.trans (E3.out.trans E7.out)⟩
 | true =>
 obtain ⟨rfl, hg1, hg2, rfl⟩ := hone (by first | rfl | trivial) (by first | rfl | trivial)
 have heq0 := Be.cost_is hg1 hg2
 clear hone hg1 hg2
 obtain ⟨y0, y1, y2, y3⟩ := Y7.out
 have m := M7.out
 obtain ⟨ga0, ga1⟩ := Ga7.out
 have gl := Gl7.out
 obtain ⟨wa0, wa1⟩ := Wa7.out
 have wl := Wl7.out
 go_wp2_with fail
 try rw [hV]
 clear hV
 refine (HGI.out _ ((S5.out.trans S6.out).trans S7.out)).mono ?_
 rintro e8 wx8 ⟨rfl, hb⟩
 obtain ⟨w8, hV⟩ : ∃ V, wx8.alloc (.cells #[.int .i64 g1, .int .i64 g2] 33) = V := ⟨_, rfl⟩
 have hbb : Ext w7 w8 := by rw [← hV]; exact Ext.trans (show Ext w7 wx8 from hb) ((Ext.refl _).alloc _)
 have X8 := Lib.hid (box4 X7.out L7.out hbb)
 have L8 := Lib.hid (Nat.lt_of_lt_of_le L7.out hbb.size)
 have Y8 := Lib.hid (box4 Y7.out M7.out hbb)
 have M8 := Lib.hid (Nat.lt_of_lt_of_le M7.out hbb.size)
 have Z8 := Lib.hid (box4 Z7.out P7.out hbb)
 have P8 := Lib.hid (Nat.lt_of_lt_of_le P7.out hbb.size)
 have Ga8 := Lib.hid (Be.box2 Ga7.out Gl7.out hbb)
 have Gl8 := Lib.hid (Nat.lt_of_lt_of_le Gl7.out hbb.size)
 have Wa8 := Lib.hid (Be.box2 Wa7.out Wl7.out hbb)
 have Wl8 := Lib.hid (Nat.lt_of_lt_of_le Wl7.out hbb.size)
 have E8 := Lib.hid (E7.out.trans hbb)
 have S8 := Lib.hid hbb
 have Ba8 := Lib.hid (show w8.cell? ⟨wx8.heap.size, 0, none⟩ = some (.int .i64 g1) ∧ w8.cell? ⟨wx8.heap.size, 1, none⟩ = some (.int .i64 g2) from by rw [← hV]; exact ⟨by rw [World.cell?_alloc_new]; rfl, by rw [World.cell?_alloc_new]; rfl⟩)
 have Bl8 := Lib.hid (show wx8.heap.size < w8.heap.size by rw [← hV]; simp)
 clear hb hbb y0 y1 y2 y3 m ga0 ga1 gl wa0 wa1 wl
 obtain ⟨y0, y1, y2, y3⟩ := Y8.out
 have m := M8.out
 go_wp2_with fail
 try rw [hV]
 clear hV
 refine (HFG.out _ (((S5.out.trans S6.out).trans S7.out).trans S8.out)).mono ?_
 rintro e9 w9 ⟨rfl, hb⟩
 have hbb : Ext w8 w9 := hb
 have X9 := Lib.hid (box4 X8.out L8.out hbb)
 have L9 := Lib.hid (Nat.lt_of_lt_of_le L8.out hbb.size)
 have Y9 := Lib.hid (box4 Y8.out M8.out hbb)
 have M9 := Lib.hid (Nat.lt_of_lt_of_le M8.out hbb.size)
 have Z9 := Lib.hid (box4 Z8.out P8.out hbb)
 have P9 := Lib.hid (Nat.lt_of_lt_of_le P8.out hbb.size)
 have Ga9 := Lib.hid (Be.box2 Ga8.out Gl8.out hbb)
 have Gl9 := Lib.hid (Nat.lt_of_lt_of_le Gl8.out hbb.size)
 have Wa9 := Lib.hid (Be.box2 Wa8.out Wl8.out hbb)
 have Wl9 := Lib.hid (Nat.lt_of_lt_of_le Wl8.out hbb.size)
 have Ba9 := Lib.hid (Be.box2 Ba8.out Bl8.out hbb)
 have Bl9 := Lib.hid (Nat.lt_of_lt_of_le Bl8.out hbb.size)
 have E9 := Lib.hid (E8.out.trans hbb)
 have S9 := Lib.hid hbb
 clear hb hbb y0 y1 y2 y3 m
 obtain ⟨ba0, ba1⟩ := Ba9.out
 have bl := Bl9.out
 go_wp2_with fail
 go_ret
 exact ⟨by first | rfl | simp, E1.out.trans (E3.out.trans E9.out)⟩
set_option maxHeartbeats 400000 in
theorem walk_big (w : World) (a0 : Option Addr) (len0 cap0 : Nat) (hl0 : 1048576 < len0) :
  Calls Tryz.prog 7 #[.slice a0 len0 cap0] w fun e w' => e = .returned (.bool true) ∧ Ext w w' := by
 have h1 : (1048576 : Int) < (len0 : Int) := by omega
 go_enter Tryz.func7, Tryz.ntmps7
 go_wp2_with fail
 go_ret
 exact ⟨rfl, Ext.refl w⟩
theorem walk (w : World) (a0 : Option Addr) (len0 cap0 : Nat) (hb0 : Bytes w a0 len0) (hlc0 : len0 ≤ cap0) (hcm0 : cap0 ≤ maxLen) :
  Calls Tryz.prog 7 #[.slice a0 len0 cap0] w fun e w' => e = .returned (.bool true) ∧ Below w.heap.size w w' := by
 by_cases h : 1048576 < len0
 ·exact walk_big w a0 len0 cap0 h
 ·exact walk_good w a0 len0 cap0 hb0 hlc0 hcm0 (by omega)
theorem lifted (os : Os) (started : os.Started) (H : Type) (enc : TypeId × Value → H) :
  ReturnsInHanded {} Tryz.checked os 7 .any (Rows.fnBestOneSpec.pre6 enc Tryz.prog Tryz.f7 Rows.fnBestOneRow.domain false) (Rows.fnBestOneSpec.post enc Tryz.prog Tryz.f7 false true false false) := by
 refine returnsInHanded_of_change (C := Tryz.checked) Facts.own started (by kernel_rfl) Tryz.func7
  (ChangeSpec.witness6 (enc := enc) (C := Tryz.checked) false ⟨#[], #[.slice none 0 0], []⟩ 8 (by kernel_rfl) (by kernel_rfl) (by kernel_rfl) (by kernel_rfl)) ?_
 intro W base args ds gs before hval0 hW hcnd0 _
 clear hcnd0
 have hval : ∀ (j : Nat) t v, Tryz.f7.params[j]? = some t → args[j]? = some v → Value.okWide Tryz.prog W .any base t v := hval0
 have hW' := hW
 obtain ⟨p, q, hA0, hV, rfl, hfz, hnd⟩ := hW
 have hA : DataW.TrodAll enc Tryz.prog W 0 (fun _ => true) true Tryz.f7.params.toList args.toList ds p := hA0
 rw [Tryz.params7] at hA hval
 obtain ⟨v0, d0, rfl, rfl, h0⟩ := trodAll_one hA
 obtain ⟨rfl, rfl⟩ := trodVars_none hV
 obtain ⟨a0, len0, cap0, rfl⟩ := okWide_slice Tryz.underlying22 (hval 0 22 v0 rfl rfl)
 clear hA0 hval0
 simp only [List.append_nil] at hW'
 have hlt : ∀ x ∈ p, x.block < W.heap.size := fun x hx => by simpa using hW'.lt x hx
 obtain ⟨hb0, hlc0, hcm0⟩ := opened h0
 refine (walk W a0 len0 cap0 hb0 hlc0 hcm0).mono fun e W' ⟨he, hb⟩ => ?_
 subst he
 refine ⟨_, rfl, [_], [], p, [], p, [], hW', trodAll_mk1 (shut_bool Tryz.underlying4 _), ?_, rfl, hb.frame _, fun h => by cases h⟩
 exact trodAll_mk1 (Below.trod Facts.laidOut (by kernel_rfl) (of_decide_eq_true (by kernel_rfl)) h0 hb hlt)
theorem named : Tryz.prog.funcNamed Rows.fnBestOneRow.func = some 7 := by kernel_rfl
theorem closed : joinedFacts Tryz.prog 7 Tryz.f7 Rows.fnBestOneSpec Rows.fnBestOneRow = true :=
 Facts.closed_of rfl rfl rfl rfl (h28b := rfl) (by kernel_rfl) (by kernel_rfl) (by kernel_rfl) (by kernel_rfl) (by kernel_rfl) (by kernel_rfl) (by kernel_rfl) (by kernel_rfl) (by kernel_rfl) (by kernel_rfl) (by kernel_rfl) (by kernel_rfl) (by kernel_rfl) (by kernel_rfl) (by kernel_rfl) (by kernel_rfl) (by kernel_rfl) (by kernel_rfl) (by kernel_rfl) (by kernel_rfl) (by kernel_rfl) (by kernel_rfl) (by kernel_rfl) (by kernel_rfl)
theorem instanced : Tryz.f7.isInstance Tryz.prog Rows.fnBestOneRow.origin Rows.fnBestOneRow.targs := of_decide_eq_true (by kernel_rfl)
theorem wrapped : Tryz.f7.isWrapper Tryz.prog Rows.fnBestOneRow.wrapper Rows.fnBestOneRow.mainSum := by
 unfold Func.isWrapper
 rw [if_neg (of_decide_eq_false (by kernel_rfl))]
 exact ⟨rfl, rfl⟩
theorem holds : Rows.FnBestOneSaid :=
 OpenClaim.holds_of_wide 7 Tryz.f7 rfl rfl rfl rfl rfl rfl rfl ⟨rfl, rfl, rfl, rfl, rfl⟩ rfl rfl rfl rfl rfl named Tryz.func7 closed instanced wrapped
  (fun os started H enc _ => lifted os started H enc)
end Go.Proofs.YtclifbjnooilmaaGreat.lawBestOne
