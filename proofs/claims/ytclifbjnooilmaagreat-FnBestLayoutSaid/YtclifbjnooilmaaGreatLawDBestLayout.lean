import Derived.Test.YtclifbjnooilmaaGreatDr5
import Derived.Test.YtclifbjnooilmaaGreatGgX
import Derived.Test.YtclifbjnooilmaaGreatBeF
import Derived.Test.YtclifbjnooilmaaGreatFacts
import Derived.Deep.DeepCutAuto
/-
 The best layout is best: the law FnBestLayout returns true for whatever draws, and its argument reads as it did. No condition of ours.
-/
set_option linter.unusedVariables false
set_option linter.unusedSimpArgs false
set_option maxRecDepth 100000
set_option maxHeartbeats 6400000
namespace Go.Proofs.YtclifbjnooilmaaGreat.lawBestLayout
open Go.ChangeShapes Go.WideShapes Go.ChangeAt Go.RowKit P1 Draw6 LawC CntC DocK CatD
theorem walk_good (w : World) (a0 : Option Addr) (len0 cap0 : Nat) (hb0 : Bytes w a0 len0) (hlc0 : len0 ≤ cap0) (hcm0 : cap0 ≤ maxLen) (hl0 : len0 ≤ 1048576) :
  Calls Tryz.prog 3 #[.slice a0 len0 cap0] w fun e w' => e = .returned (.bool true) ∧ Ext w w' := by
 have HD0 := Lib.hid (Dr5.drawBestLayout w a0 len0 cap0 hb0 hlc0 hcm0)
 clear hb0
 unfold maxLen at hcm0
 go_enter Tryz.func3, Tryz.ntmps3
 go_wp2_with fail
 refine HD0.out.mono ?_
 rintro e1 w1 ⟨o, n, t, k, a, c, fs, i, rfl, hi, hc, hsz, hsub, hfr, hb1⟩
 obtain ⟨w3, hV⟩ : ∃ V, w1.alloc (.cells #[.int .i64 o, .int .i64 n, .string t, .slice a k.len c] 25) = V := ⟨_, rfl⟩
 have he : Ext w1 w3 := by rw [← hV]; exact (Ext.refl _).alloc _
 have X3 := Lib.hid (show w3.cell? ⟨w1.heap.size, 0, none⟩ = some (.int .i64 o) ∧ w3.cell? ⟨w1.heap.size, 1, none⟩ = some (.int .i64 n) ∧ w3.cell? ⟨w1.heap.size, 2, none⟩ = some (.string t) ∧ w3.cell? ⟨w1.heap.size, 3, none⟩ = some (.slice a k.len c) from by rw [← hV]; exact box_new w1 25 (.int .i64 o) (.int .i64 n) (.string t) (.slice a k.len c))
 have L3 := Lib.hid (show w1.heap.size < w3.heap.size by rw [← hV]; simp)
 have D3 := Lib.hid (show DocK.Doc0 w3 n t k a c fs from (DocK.Doc0.mk hsub (fun c hc => (hfr.2 c hc).2) hc (by omega)).ext he)
 have E1 := Lib.hid (show Ext w w3 from Ext.trans (show Ext w w1 from hb1) he)
 have E3 := Lib.hid (Ext.refl w3)
 clear he hsub hfr hb1 hc
 obtain ⟨⟨L, ok⟩, hR⟩ : ∃ R, Be.beR i o n t k = R := ⟨_, rfl⟩
 have hfc : ok = true → Cst.wv i = true ∧ It.toldD o n t k = true ∧ Rn.rightD i o n t k = true ∧ P1.lv L = true ∧ L ∈ It.laysD o n t k ∧ (∀ l ∈ It.laysD o n t k, P1.lv l = true ∧ ¬ Cst.cmpC (ov i l) (l.length : Int) (ov i L) (L.length : Int) < 0) ∧ P1.lv (Be.rnX i o n t k) = true ∧ 0 ≤ Cst.cmpC (ov i (Be.rnX i o n t k)) ((Be.rnX i o n t k).length : Int) (ov i L) (L.length : Int) := by
  intro h
  rw [h] at hR
  exact Be.best_facts hR
 have HBI := Lib.hid (show ∀ W : World, Ext w3 W → Calls Tryz.prog 12 #[.agg #[.int .i64 o, .int .i64 n, .string t, .slice a k.len c], .int .i64 i] W (DocO.Out W L ok) from fun W e => by have h := Be.implBest (D3.out.ext e) o i; rw [hR] at h; exact h)
 have HBS := Lib.hid (show ∀ W : World, Ext w3 W → Calls Tryz.prog 13 #[.agg #[.int .i64 o, .int .i64 n, .string t, .slice a k.len c], .int .i64 i] W (DocO.Out W L ok) from fun W e => by have h := Be.specBest (D3.out.ext e) o i; rw [hR] at h; exact h)
 have HRD := Lib.hid (show ∀ W : World, Ext w3 W → Calls Tryz.prog 18 #[.agg #[.int .i64 o, .int .i64 n, .string t, .slice a k.len c], .int .i64 i] W (DocO.Out W (Rn.rnR i o n t k).1 (Rn.rnR i o n t k).2) from fun W e => by exact DocR.implRender (D3.out.ext e) o i)
 have HLL := Lib.hid (show ∀ W : World, Ext w3 W → Calls Tryz.prog 16 #[.agg #[.int .i64 o, .int .i64 n, .string t, .slice a k.len c]] W (DocL.LOut W (It.laysD o n t k) (It.toldD o n t k)) from fun W e => by exact DocL.implLays (D3.out.ext e) o)
 have HHA := Lib.hid (show ∀ (W : World), Ext w3 W → ∀ (al : Option Addr) (cl : Nat), DocO.LayIs W L al cl → Calls Tryz.prog 19 #[.agg #[.int .i64 o, .int .i64 n, .string t, .slice a k.len c], .slice al L.length cl] W fun e w' => e = .returned (.bool (Ls.inL (It.laysD o n t k) L)) ∧ Ext W w' from fun W e al cl hl => DocL.implHas (D3.out.ext e) o hl)
 have hoo : (ok != ok) = false := by simp
 have hoe : (ok == ok) = true := by simp
 obtain ⟨ML, hML⟩ : ∃ m, L.length = m := ⟨_, rfl⟩
 have HML := Lib.hid hML
 clear hR hML
 obtain ⟨x0, x1, x2, x3⟩ := X3.out
 have l := L3.out
 go_wp2_with fail
 try rw [hV]
 clear hV
 refine (HBI.out _ E3.out).mono ?_
 rintro e4 w4 ⟨pa, ca, rfl, hla, hb⟩
 have hbb : Ext w3 w4 := hb
 have X4 := Lib.hid (box4 X3.out L3.out hbb)
 have L4 := Lib.hid (Nat.lt_of_lt_of_le L3.out hbb.size)
 have E4 := Lib.hid (E3.out.trans hbb)
 have S4 := Lib.hid hbb
 have KA := Lib.hid hla
 clear hla
 rw [HML.out]
 clear hb hbb x0 x1 x2 x3 l
 obtain ⟨x0, x1, x2, x3⟩ := X4.out
 have l := L4.out
 go_wp2_with fail
 refine (HBS.out _ E4.out).mono ?_
 rintro e5 w5 ⟨pb, cb, rfl, hlb, hb⟩
 have hbb : Ext w4 w5 := hb
 have X5 := Lib.hid (box4 X4.out L4.out hbb)
 have L5 := Lib.hid (Nat.lt_of_lt_of_le L4.out hbb.size)
 have E5 := Lib.hid (E4.out.trans hbb)
 have S5 := Lib.hid hbb
 have KB := Lib.hid hlb
 clear hlb
 rw [HML.out]
 clear hb hbb x0 x1 x2 x3 l
 have HLS := Lib.hid (fun (W : World) (e : Ext w5 W) => DocO.LayIs.same ((KA.out.ext S5.out).ext e) ((KB.out.ext (Ext.refl w5)).ext e))
 rw [HML.out] at HLS
 obtain ⟨x0, x1, x2, x3⟩ := X5.out
 have l := L5.out
 go_wp2_with fail
 refine (HLS.out _ (Ext.refl w5)).mono ?_
 rintro e6 w6 ⟨rfl, hb⟩
 have hbb : Ext w5 w6 := hb
 have X6 := Lib.hid (box4 X5.out L5.out hbb)
 have L6 := Lib.hid (Nat.lt_of_lt_of_le L5.out hbb.size)
 have E6 := Lib.hid (E5.out.trans hbb)
 have S6 := Lib.hid hbb
 clear hb hbb x0 x1 x2 x3 l
 cases ok with
 | false =>
   clear hfc
   go_wp2_with fail
   refine (HLS.out _ S6.out).mono ?_
   rintro e9 w99 ⟨rfl, hb9⟩
   have q9 := Lib.hid (show Ext w6 w99 from hb9)
   clear hb9
   go_wp2_with fail
   go_ret
   exact ⟨by first | rfl | simp, E1.out.trans (E3.out.trans (E6.out.trans q9.out))⟩
 | true =>
 obtain ⟨hwv, hto, hrt, hlL, hin, hall, hlR, hge⟩ := hfc (by rfl)
 clear hfc
 rw [RnR.rnR_yes hrt] at HRD
 rw [hto] at HLL
 rw [Ls.inL_iff.2 hin] at HHA
 obtain ⟨LS, hLS⟩ : ∃ X, It.laysD o n t k = X := ⟨_, rfl⟩
 rw [hLS] at HLL hall
 obtain ⟨R, hX⟩ : ∃ X, Be.rnX i o n t k = X := ⟨_, rfl⟩
 have HRD := Lib.hid (show ∀ W : World, Ext w3 W → Calls Tryz.prog 18 #[.agg #[.int .i64 o, .int .i64 n, .string t, .slice a k.len c], .int .i64 i] W (DocO.Out W R true) from fun W e => by rw [← hX]; exact HRD.out W e)
 rw [hX] at hlR hge
 have HCR := Lib.hid (Be.co_yes hwv hlR)
 have HCL := Lib.hid (Be.co_yes hwv hlL)
 have HAL := Lib.hid hall
 have hcl := fun (l : Ls.Lay) (hl : P1.lv l = true) => Be.co_yes (x := i) hwv hl
 have HCC := Lib.hid hcl
 obtain ⟨b1, hb1⟩ : ∃ r, ov i L = r := ⟨_, rfl⟩
 obtain ⟨r1, hr1⟩ : ∃ r, ov i R = r := ⟨_, rfl⟩
 have HB1 := Lib.hid hb1
 rw [hb1, hr1] at hge
 rw [hb1] at HCL
 rw [hr1] at HCR
 rw [HML.out] at hge
 obtain ⟨MR, hMR⟩ : ∃ m, R.length = m := ⟨_, rfl⟩
 have HMR := Lib.hid hMR
 rw [hMR] at hge
 have hms := It.lays_len o n t k
 rw [hLS] at hms
 obtain ⟨MS, hMS⟩ : ∃ m, LS.length = m := ⟨_, rfl⟩
 rw [hMS] at hms
 have HMS := Lib.hid hMS
 have HCM := Lib.hid (fun (W : World) => Cst.implCompareCosts r1 (MR : Int) b1 (ML : Int) W)
 obtain ⟨z, hz⟩ : ∃ z, Cst.cmpC r1 (MR : Int) b1 (ML : Int) = z := ⟨_, rfl⟩
 rw [hz] at HCM hge
 have hgb : decide (0 ≤ z) = true := decide_eq_true hge
 clear hwv hto hrt hlL hin hall hlR hLS hX hb1 hr1 hMR hMS hz hcl
 have HCA := Lib.hid (fun (W : World) (e : Ext w6 W) => Be.costAt ((KA.out.ext (S5.out.trans S6.out)).ext e) i)
 rw [HCL.out, HML.out] at HCA
 go_wp2_with fail
 refine (HCA.out _ (Ext.refl w6)).mono ?_
 rintro e7 wx7 ⟨rfl, hb⟩
 obtain ⟨w7, hV⟩ : ∃ V, wx7.alloc (.cells #[.int .i64 b1, .int .i64 (ML : Int)] 33) = V := ⟨_, rfl⟩
 have hbb : Ext w6 w7 := by rw [← hV]; exact Ext.trans (show Ext w6 wx7 from hb) ((Ext.refl _).alloc _)
 have X7 := Lib.hid (box4 X6.out L6.out hbb)
 have L7 := Lib.hid (Nat.lt_of_lt_of_le L6.out hbb.size)
 have E7 := Lib.hid (E6.out.trans hbb)
 have S7 := Lib.hid hbb
 have Ba7 := Lib.hid (show w7.cell? ⟨wx7.heap.size, 0, none⟩ = some (.int .i64 b1) ∧ w7.cell? ⟨wx7.heap.size, 1, none⟩ = some (.int .i64 (ML : Int)) from by rw [← hV]; exact ⟨by rw [World.cell?_alloc_new]; rfl, by rw [World.cell?_alloc_new]; rfl⟩)
 have Bl7 := Lib.hid (show wx7.heap.size < w7.heap.size by rw [← hV]; simp)
 clear hb hbb 
 obtain ⟨x0, x1, x2, x3⟩ := X7.out
 have l := L7.out
 go_wp2_with fail
 try rw [hV]
 clear hV
 refine (HLL.out _ E7.out).mono ?_
 rintro e8 w8 ⟨pl, cl, rfl, hll, hb⟩
 have hbb : Ext w7 w8 := hb
 have X8 := Lib.hid (box4 X7.out L7.out hbb)
 have L8 := Lib.hid (Nat.lt_of_lt_of_le L7.out hbb.size)
 have Ba8 := Lib.hid (Be.box2 Ba7.out Bl7.out hbb)
 have Bl8 := Lib.hid (Nat.lt_of_lt_of_le Bl7.out hbb.size)
 have E8 := Lib.hid (E7.out.trans hbb)
 have S8 := Lib.hid hbb
 have KL := Lib.hid hll
 clear hll
 rw [HMS.out]
 clear hb hbb x0 x1 x2 x3 l
 obtain ⟨x0, x1, x2, x3⟩ := X8.out
 have l := L8.out
 obtain ⟨ba0, ba1⟩ := Ba8.out
 have bl := Bl8.out
 go_wp2_with fail
 go_loopw [13] (fun v wr => ∃ q : Nat, q ≤ MS ∧ v = .int .i64 (q : Int) ∧ Ext w8 wr) (fun v _ => MS - (intOf v).toNat)
 case atStart => exact ⟨0, by omega, rfl, Ext.refl _⟩
 case round =>
  obtain ⟨q, hq, rfl, hext⟩ := hrel
  have q0 : (0 : Int) ≤ (q : Int) := Int.natCast_nonneg _
  have B9 := Lib.hid (Be.box2 Ba8.out Bl8.out hext)
  have Q9 := Lib.hid (Nat.lt_of_lt_of_le Bl8.out hext.size)
  have X9 := Lib.hid (box4 X8.out L8.out hext)
  have L9 := Lib.hid (Nat.lt_of_lt_of_le L8.out hext.size)
  have R9 := Lib.hid hext
  clear x0 x1 x2 x3 l ba0 ba1 bl
  by_cases hqm : q < MS
  ·have hql : q < LS.length := by rw [HMS.out]; exact hqm
   have q1 : (q : Int) < (MS : Int) := by omega
   obtain ⟨bz, of, az, cz, rfl, hbz, hcell, hlz⟩ := (KL.out.ext hext).get hql
   obtain ⟨hlv, hcmp⟩ := HAL.out LS[q] (List.getElem_mem hql)
   have HCZ := Lib.hid (fun (W : World) (e : Ext wr W) => Be.costAt (hlz.ext e) i)
   rw [HCC.out _ hlv] at HCZ
   rw [HB1.out, HML.out] at hcmp
   obtain ⟨v1, hv1⟩ : ∃ r, ov i LS[q] = r := ⟨_, rfl⟩
   obtain ⟨v2, hv2⟩ : ∃ r, LS[q].length = r := ⟨_, rfl⟩
   rw [hv1, hv2] at hcmp HCZ
   rw [hv2] at hcell
   have HCM2 := Lib.hid (fun (W : World) => Cst.implCompareCosts v1 (v2 : Int) b1 (ML : Int) W)
   obtain ⟨z2, hz2⟩ : ∃ z, Cst.cmpC v1 (v2 : Int) b1 (ML : Int) = z := ⟨_, rfl⟩
   rw [hz2] at hcmp HCM2
   have hcb : decide (z2 < 0) = false := decide_eq_false (by omega)
   clear hext hlz hlv hv1 hv2 hz2
   go_wp2_with fail
   refine (HCZ.out _ (Ext.refl _)).mono ?_
   rintro e10 wx10 ⟨rfl, hb⟩
   obtain ⟨w10, hV⟩ : ∃ V, wx10.alloc (.cells #[.int .i64 v1, .int .i64 (v2 : Int)] 33) = V := ⟨_, rfl⟩
   have hbb : Ext wr w10 := by rw [← hV]; exact Ext.trans (show Ext wr wx10 from hb) ((Ext.refl _).alloc _)
   obtain ⟨k0, k1⟩ : w10.cell? ⟨wx10.heap.size, 0, none⟩ = some (.int .i64 v1) ∧ w10.cell? ⟨wx10.heap.size, 1, none⟩ = some (.int .i64 (v2 : Int)) := by rw [← hV]; exact ⟨by rw [World.cell?_alloc_new]; rfl, by rw [World.cell?_alloc_new]; rfl⟩
   have kl : wx10.heap.size < w10.heap.size := by rw [← hV]; simp
   obtain ⟨b0', b1'⟩ := Be.box2 B9.out Q9.out hbb
   have q' := Nat.lt_of_lt_of_le Q9.out hbb.size
   have R10 := Lib.hid (R9.out.trans hbb)
   clear hb hbb hcell hbz
   go_wp2_with fail
   try rw [hV]
   clear hV
   refine (HCM2.out _).mono ?_
   rintro e11 w11 ⟨rfl, hb⟩
   have R11 := Lib.hid (R10.out.trans (show Ext w10 w11 from hb))
   clear hb k0 k1 kl b0' b1' q'
   go_wp2_with fail
   go_roundw
   case rel => exact ⟨q + 1, by omega, by go_num, R11.out⟩
   case measure => simp [intOf]; omega
  ·have hqn : ¬ ((q : Int) < (MS : Int)) := by omega
   obtain ⟨x0, x1, x2, x3⟩ := X9.out
   have l := L9.out
   clear hext
   go_wp2_with fail
   refine (HRD.out _ (E8.out.trans R9.out)).mono ?_
   rintro e20 w20 ⟨pr, cr, rfl, hlr, hb⟩
   have R20 := Lib.hid (R9.out.trans (show Ext wr w20 from hb))
   have HCB := Lib.hid (fun (W : World) (e : Ext w20 W) => Be.costAt (hlr.ext e) i)
   rw [HCR.out] at HCB
   rw [HMR.out] at HCB ⊢
   clear hb hlr x0 x1 x2 x3 l
   go_wp2_with fail
   refine (HCB.out _ (Ext.refl _)).mono ?_
   rintro e21 wx21 ⟨rfl, hb⟩
   obtain ⟨w21, hV⟩ : ∃ V, wx21.alloc (.cells #[.int .i64 r1, .int .i64 (MR : Int)] 33) = V := ⟨_, rfl⟩
   have hbb : Ext w20 w21 := by rw [← hV]; exact Ext.trans (show Ext w20 wx21 from hb) ((Ext.refl _).alloc _)
   have C21 := Lib.hid (show w21.cell? ⟨wx21.heap.size, 0, none⟩ = some (.int .i64 r1) ∧ w21.cell? ⟨wx21.heap.size, 1, none⟩ = some (.int .i64 (MR : Int)) from by rw [← hV]; exact ⟨by rw [World.cell?_alloc_new]; rfl, by rw [World.cell?_alloc_new]; rfl⟩)
   have M21 := Lib.hid (show wx21.heap.size < w21.heap.size by rw [← hV]; simp)
   have R21 := Lib.hid (R20.out.trans hbb)
   have X21 := Lib.hid (box4 X8.out L8.out R21.out)
   have L21 := Lib.hid (Nat.lt_of_lt_of_le L8.out R21.out.size)
   obtain ⟨x0, x1, x2, x3⟩ := X21.out
   have l := L21.out
   clear hb hbb
   go_wp2_with fail
   try rw [hV]
   clear hV
   have HH := Lib.hid (HHA.out w21 (E8.out.trans R21.out) _ _ ((KA.out.ext (((S5.out.trans S6.out).trans S7.out).trans S8.out)).ext R21.out))
   rw [HML.out] at HH
   refine HH.out.mono ?_
   rintro e22 w22 ⟨rfl, hb⟩
   have hbb : Ext w21 w22 := hb
   obtain ⟨c0, c1⟩ := Be.box2 C21.out M21.out hbb
   have cm := Nat.lt_of_lt_of_le M21.out hbb.size
   obtain ⟨d0, d1⟩ := Be.box2 Ba8.out Bl8.out (R21.out.trans hbb)
   have dm := Nat.lt_of_lt_of_le Bl8.out (R21.out.trans hbb).size
   have R22 := Lib.hid (R21.out.trans hbb)
   clear hb hbb x0 x1 x2 x3 l
   go_wp2_with fail
   refine (HCM.out _).mono ?_
   rintro e23 w23 ⟨rfl, hb⟩
   have R23 := Lib.hid (R22.out.trans (show Ext w22 w23 from hb))
   clear hb c0 c1 cm d0 d1 dm
   go_wp2_with fail
   go_ret
   exact ⟨by first | rfl | simp [hge] | simpa using hge, E1.out.trans (E3.out.trans (E8.out.trans R23.out))⟩
set_option maxHeartbeats 400000 in
theorem walk_big (w : World) (a0 : Option Addr) (len0 cap0 : Nat) (hl0 : 1048576 < len0) :
  Calls Tryz.prog 3 #[.slice a0 len0 cap0] w fun e w' => e = .returned (.bool true) ∧ Ext w w' := by
 have h1 : (1048576 : Int) < (len0 : Int) := by omega
 go_enter Tryz.func3, Tryz.ntmps3
 go_wp2_with fail
 go_ret
 exact ⟨rfl, Ext.refl w⟩
theorem walk (w : World) (a0 : Option Addr) (len0 cap0 : Nat) (hb0 : Bytes w a0 len0) (hlc0 : len0 ≤ cap0) (hcm0 : cap0 ≤ maxLen) :
  Calls Tryz.prog 3 #[.slice a0 len0 cap0] w fun e w' => e = .returned (.bool true) ∧ Below w.heap.size w w' := by
 by_cases h : 1048576 < len0
 ·exact walk_big w a0 len0 cap0 h
 ·exact walk_good w a0 len0 cap0 hb0 hlc0 hcm0 (by omega)
theorem lifted (os : Os) (started : os.Started) (H : Type) (enc : TypeId × Value → H) :
  ReturnsInHanded {} Tryz.checked os 3 .any (Rows.fnBestLayoutSpec.pre6 enc Tryz.prog Tryz.f3 Rows.fnBestLayoutRow.domain false) (Rows.fnBestLayoutSpec.post enc Tryz.prog Tryz.f3 false true false false) := by
 refine returnsInHanded_of_change (C := Tryz.checked) Facts.own started (by kernel_rfl) Tryz.func3
  (ChangeSpec.witness6 (enc := enc) (C := Tryz.checked) false ⟨#[], #[.slice none 0 0], []⟩ 8 (by kernel_rfl) (by kernel_rfl) (by kernel_rfl) (by kernel_rfl)) ?_
 intro W base args ds gs before hval0 hW hcnd0 _
 clear hcnd0
 have hval : ∀ (j : Nat) t v, Tryz.f3.params[j]? = some t → args[j]? = some v → Value.okWide Tryz.prog W .any base t v := hval0
 have hW' := hW
 obtain ⟨p, q, hA0, hV, rfl, hfz, hnd⟩ := hW
 have hA : DataW.TrodAll enc Tryz.prog W 0 (fun _ => true) true Tryz.f3.params.toList args.toList ds p := hA0
 rw [Tryz.params3] at hA hval
 obtain ⟨v0, d0, rfl, rfl, h0⟩ := trodAll_one hA
 obtain ⟨rfl, rfl⟩ := trodVars_none hV
 obtain ⟨a0, len0, cap0, rfl⟩ := okWide_slice Tryz.underlying22 (hval 0 22 v0 rfl rfl)
 clear hA0 hval0
 simp only [List.append_nil] at hW'
 have hlt : ∀ x ∈ p, x.block < W.heap.size := fun x hx => by simpa using hW'.lt x hx
 obtain ⟨hb0, hlc0, hcm0⟩ := opened h0
 refine (walk W a0 len0 cap0 hb0 hlc0 hcm0).mono fun e W' ⟨he, hb⟩ => ?_
 subst he
 refine ⟨_, rfl, [_], [], p, [], p, [], hW', trodAll_mk1 (shut_bool Tryz.underlying4 _), ?_, rfl, hb.frame _, fun h => by cases h⟩
 exact trodAll_mk1 (Below.trod Facts.laidOut (by kernel_rfl) (of_decide_eq_true (by kernel_rfl)) h0 hb hlt)
theorem named : Tryz.prog.funcNamed Rows.fnBestLayoutRow.func = some 3 := by kernel_rfl
theorem closed : joinedFacts Tryz.prog 3 Tryz.f3 Rows.fnBestLayoutSpec Rows.fnBestLayoutRow = true :=
 Facts.closed_of rfl rfl rfl rfl (h28b := rfl) (by kernel_rfl) (by kernel_rfl) (by kernel_rfl) (by kernel_rfl) (by kernel_rfl) (by kernel_rfl) (by kernel_rfl) (by kernel_rfl) (by kernel_rfl) (by kernel_rfl) (by kernel_rfl) (by kernel_rfl) (by kernel_rfl) (by kernel_rfl) (by kernel_rfl) (by kernel_rfl) (by kernel_rfl) (by kernel_rfl) (by kernel_rfl) (by kernel_rfl) (by kernel_rfl) (by kernel_rfl) (by kernel_rfl) (by kernel_rfl)
theorem instanced : Tryz.f3.isInstance Tryz.prog Rows.fnBestLayoutRow.origin Rows.fnBestLayoutRow.targs := of_decide_eq_true (by kernel_rfl)
theorem wrapped : Tryz.f3.isWrapper Tryz.prog Rows.fnBestLayoutRow.wrapper Rows.fnBestLayoutRow.mainSum := by
 unfold Func.isWrapper
 rw [if_neg (of_decide_eq_false (by kernel_rfl))]
 exact ⟨rfl, rfl⟩
theorem holds : Rows.FnBestLayoutSaid :=
 OpenClaim.holds_of_wide 3 Tryz.f3 rfl rfl rfl rfl rfl rfl rfl ⟨rfl, rfl, rfl, rfl, rfl⟩ rfl rfl rfl rfl rfl named Tryz.func3 closed instanced wrapped
  (fun os started H enc _ => lifted os started H enc)
end Go.Proofs.YtclifbjnooilmaaGreat.lawBestLayout
