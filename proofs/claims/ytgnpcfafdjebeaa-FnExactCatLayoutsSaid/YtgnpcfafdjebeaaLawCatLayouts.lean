/-
  For every two lists of lines that can be read as data, CatLayouts of the program answers as CatLayouts of the model, changes nothing of its arguments, and its answer owns its memory: the law FnExactCatLayouts returns true, and its arguments read as they did. No condition of ours.
-/
import Derived.Test.YtgnpcfafdjebeaaOpenL
import Derived.Test.YtgnpcfafdjebeaaLayL
import Derived.Test.YtgnpcfafdjebeaaLayCS
import Derived.Test.YtgnpcfafdjebeaaLayK
import Derived.Test.YtgnpcfafdjebeaaLawKit
import Derived.Test.YtgnpcfafdjebeaaFacts
import Derived.Test.YtgnpcfafdjebeaaRows
set_option linter.unusedVariables false
set_option linter.unusedSimpArgs false
namespace Go.Proofs.Ytgnpcfafdjebeaa.lawCatLayouts
open Go.ChangeShapes Go.WideShapes Go.ChangeAt Go.RowKit P1

set_option maxRecDepth 100000 in
set_option maxHeartbeats 1600000 in
theorem walk_big0 (w : World) (l0 : List (Int × ByteArray)) (a0 : Option Addr) (c0 : Nat) (f0 : List Nat) (l1 : List (Int × ByteArray)) (a1 : Option Addr) (c1 : Nat) (f1 : List Nat) (hs0 : LaySub w a0 l0 f0) (hc0 : l0.length ≤ c0) (hl0 : l0.length ≤ maxLen) (ht0 : L.Fits l0) (hs1 : LaySub w a1 l1 f1) (hc1 : l1.length ≤ c1) (hl1 : l1.length ≤ maxLen) (ht1 : L.Fits l1)  (hbig : 1048576 < (L.size l0 : Int)) :
    Calls Try.prog 20 #[.slice a0 l0.length c0, .slice a1 l1.length c1] w fun e w' => e = .returned (.bool true) ∧ Below w.heap.size w w' := by
  have hsz0 := fun (w1 : World) (h1 : Ext w w1) => LayL.szRowS l0 w1 a0 c0 f0 1048576 (hs0.below hs0.lt h1) hc0 hl0 ht0 (by omega) (by omega)
  rw [leftR_no hbig] at hsz0
  have HSZ0 := Lib.hid hsz0
  clear hsz0 hbig hs0 hc0 hl0 ht0 hs1 hc1 hl1 ht1 
  go_enter Try.func20, Try.ntmps20
  go_wp2_with fail
  refine (HSZ0.out _ (Ext.refl w)).mono ?_
  rintro e1 w1 ⟨rfl, hb1⟩
  have H1 := Lib.hid (show Ext w w1 from hb1)
  clear hb1
  go_wp2_with fail
  go_ret
  exact ⟨rfl, H1.out⟩

set_option maxRecDepth 100000 in
set_option maxHeartbeats 1600000 in
theorem walk_big1 (w : World) (l0 : List (Int × ByteArray)) (a0 : Option Addr) (c0 : Nat) (f0 : List Nat) (l1 : List (Int × ByteArray)) (a1 : Option Addr) (c1 : Nat) (f1 : List Nat) (hs0 : LaySub w a0 l0 f0) (hc0 : l0.length ≤ c0) (hl0 : l0.length ≤ maxLen) (ht0 : L.Fits l0) (hs1 : LaySub w a1 l1 f1) (hc1 : l1.length ≤ c1) (hl1 : l1.length ≤ maxLen) (ht1 : L.Fits l1) (z0 : Int) (hz0 : 1048576 - (L.size l0 : Int) = z0) (hzn0 : 0 ≤ z0) (hbig : z0 < (L.size l1 : Int)) :
    Calls Try.prog 20 #[.slice a0 l0.length c0, .slice a1 l1.length c1] w fun e w' => e = .returned (.bool true) ∧ Below w.heap.size w w' := by
  have hsz0 := fun (w1 : World) (h1 : Ext w w1) => LayL.szRowS l0 w1 a0 c0 f0 1048576 (hs0.below hs0.lt h1) hc0 hl0 ht0 (by omega) (by omega)
  rw [leftR_yes (by omega), hz0] at hsz0
  have hzq0 : ¬ (z0 < 0) := by omega
  have HSZ0 := Lib.hid hsz0
  have hsz1 := fun (w1 : World) (h1 : Ext w w1) => LayL.szRowS l1 w1 a1 c1 f1 z0 (hs1.below hs1.lt h1) hc1 hl1 ht1 (by omega) (by omega)
  rw [leftR_no hbig] at hsz1
  have HSZ1 := Lib.hid hsz1
  clear hsz0 hsz1 hbig hs0 hc0 hl0 ht0 hs1 hc1 hl1 ht1 hz0
  go_enter Try.func20, Try.ntmps20
  go_wp2_with fail
  refine (HSZ0.out _ (Ext.refl w)).mono ?_
  rintro e1 w1 ⟨rfl, hb1⟩
  have H1 := Lib.hid (show Ext w w1 from hb1)
  clear hb1
  go_wp2_with fail
  refine (HSZ1.out _ H1.out).mono ?_
  rintro e1 w2 ⟨rfl, hb2⟩
  have H2 := Lib.hid (show Ext w w2 from H1.out.trans hb2)
  clear hb2
  go_wp2_with fail
  go_ret
  exact ⟨rfl, H2.out⟩

set_option maxRecDepth 100000 in
set_option maxHeartbeats 12800000 in
theorem walk_good (w : World) (l0 : List (Int × ByteArray)) (a0 : Option Addr) (c0 : Nat) (f0 : List Nat) (l1 : List (Int × ByteArray)) (a1 : Option Addr) (c1 : Nat) (f1 : List Nat) (hs0 : LaySub w a0 l0 f0) (hc0 : l0.length ≤ c0) (hl0 : l0.length ≤ maxLen) (ht0 : L.Fits l0) (hs1 : LaySub w a1 l1 f1) (hc1 : l1.length ≤ c1) (hl1 : l1.length ≤ maxLen) (ht1 : L.Fits l1)  (z0 : Int) (hz0 : 1048576 - (L.size l0 : Int) = z0) (hzn0 : 0 ≤ z0) (z1 : Int) (hz1 : z0 - (L.size l1 : Int) = z1) (hzn1 : 0 ≤ z1) :
    Calls Try.prog 20 #[.slice a0 l0.length c0, .slice a1 l1.length c1] w fun e w' => e = .returned (.bool true) ∧ Below w.heap.size w w' := by
  have hsz0 := fun (w1 : World) (h1 : Ext w w1) => LayL.szRowS l0 w1 a0 c0 f0 1048576 (hs0.below hs0.lt h1) hc0 hl0 ht0 (by omega) (by omega)
  rw [leftR_yes (by omega), hz0] at hsz0
  have hzq0 : ¬ (z0 < 0) := by omega
  have hle0 : l0.length ≤ 1048576 := by unfold L.size at hz0; omega
  have hto0 := fun (w1 : World) (h1 : Ext w w1) => LayL.toRowS l0 w1 a0 c0 f0 (hs0.below hs0.lt h1) hc0 hle0
  have heq0 := fun (w1 : World) (a1 a2 : Option Addr) (f1 f2 : List Nat) (h1 : LaySub w1 a1 l0 f1) (h2 : LaySub w1 a2 l0 f2) => LayL.eqRowS l0 l0 w1 a1 a2 l0.length l0.length f1 f2 h1 h2 (Nat.le_refl _) (Nat.le_refl _) hl0 hl0
  rw [decide_eq_true rfl] at heq0
  have hsz1 := fun (w1 : World) (h1 : Ext w w1) => LayL.szRowS l1 w1 a1 c1 f1 z0 (hs1.below hs1.lt h1) hc1 hl1 ht1 (by omega) (by omega)
  rw [leftR_yes (by omega), hz1] at hsz1
  have hzq1 : ¬ (z1 < 0) := by omega
  have hle1 : l1.length ≤ 1048576 := by unfold L.size at hz1; omega
  have hto1 := fun (w1 : World) (h1 : Ext w w1) => LayL.toRowS l1 w1 a1 c1 f1 (hs1.below hs1.lt h1) hc1 hle1
  have heq1 := fun (w1 : World) (a1 a2 : Option Addr) (f1 f2 : List Nat) (h1 : LaySub w1 a1 l1 f1) (h2 : LaySub w1 a2 l1 f2) => LayL.eqRowS l1 l1 w1 a1 a2 l1.length l1.length f1 f2 h1 h2 (Nat.le_refl _) (Nat.le_refl _) hl1 hl1
  rw [decide_eq_true rfl] at heq1
  have hspec := fun (w1 : World) (b0 : Option Addr) (g0 : List Nat) (h0 : LaySub w1 b0 l0 g0) (b1 : Option Addr) (g1 : List Nat) (h1 : LaySub w1 b1 l1 g1) => LayC.specCatLayouts l0 l1 w1 b0 l0.length g0 h0 (Nat.le_refl _) hl0 ht0 b1 l1.length g1 h1 (Nat.le_refl _) hl1 ht1
  have himpl := fun (w1 : World) (b0 : Option Addr) (g0 : List Nat) (h0 : LaySub w1 b0 l0 g0) (b1 : Option Addr) (g1 : List Nat) (h1 : LaySub w1 b1 l1 g1) => LayC.implCatLayouts l0 l1 w1 b0 l0.length g0 h0 (Nat.le_refl _) hl0 ht0 b1 l1.length g1 h1 (Nat.le_refl _) hl1 ht1
  have hlr := LayC.catLR_len l0 l1
  obtain ⟨⟨X, ok⟩, hr⟩ : ∃ r, catLR l0 l1 = r := ⟨_, rfl⟩
  rw [hr] at hspec himpl hlr
  have hXl : X.length ≤ 1048576 := hlr
  have hXm : X.length ≤ maxLen := by unfold maxLen; omega
  have heqX := fun (w1 : World) (a1 a2 : Option Addr) (c1 c2 : Nat) (f1 f2 : List Nat) (h1 : LaySub w1 a1 X f1) (h2 : LaySub w1 a2 X f2) (h3 : X.length ≤ c1) (h4 : X.length ≤ c2) => LayL.eqRowS X X w1 a1 a2 c1 c2 f1 f2 h1 h2 h3 h4 hXm hXm
  rw [decide_eq_true rfl] at heqX
  obtain ⟨k1, hk1⟩ : ∃ k : Nat, 1 + 2 * l0.length = k := ⟨_, rfl⟩
  have hkn1 : ¬ ((k1 : Int) < 0) := by omega
  have HMK0 := Lib.hid (fun (w1 : World) (b : Option Addr) (g : List Nat) (lo : Nat) (h : LaySub w1 b l0 g) (hF : Fresh lo w1 g) => LayM.markRowS l0 1 k1 1 rfl hk1 (by omega) (by omega) w1 b l0.length g lo h hF (Nat.le_refl _))
  obtain ⟨k2, hk2⟩ : ∃ k : Nat, k1 + 2 * l1.length = k := ⟨_, rfl⟩
  have hkn2 : ¬ ((k2 : Int) < 0) := by omega
  have HMK1 := Lib.hid (fun (w1 : World) (b : Option Addr) (g : List Nat) (lo : Nat) (h : LaySub w1 b l1 g) (hF : Fresh lo w1 g) => LayM.markRowS l1 k1 k2 k1 rfl hk2 (by omega) (by omega) w1 b l1.length g lo h hF (Nat.le_refl _))
  obtain ⟨mm, hmm⟩ : ∃ k : Nat, 1 + 2 * X.length = k := ⟨_, rfl⟩
  have hmn : ¬ ((mm : Int) < 0) := by omega
  have hme : ((mm : Int) != (mm : Int)) = false := by simp
  have HMG := Lib.hid (fun (w1 : World) (b : Option Addr) (c : Nat) (g : List Nat) (lo : Nat) (h : LaySub w1 b X g) (hF : Fresh lo w1 g) (hc : X.length ≤ c) => LayM.markRowS X 1 mm 1 rfl hmm (by omega) (by omega) w1 b c g lo h hF hc)
  have HHG := Lib.hid (fun (w1 : World) (b : Option Addr) (c : Nat) (g : List Nat) (h : LaySub w1 b (L.mk X 1) g) (hc : X.length ≤ c) => LayM.heldRowS X 1 mm X.length 1 rfl hmm rfl (by omega) (by omega) w1 b c g h hc)
  have HSP := Lib.hid (fun (w1 : World) (b0 : Option Addr) (g0 : List Nat) (h0 : LaySub w1 b0 l0 g0) (b1 : Option Addr) (g1 : List Nat) (h1 : LaySub w1 b1 l1 g1) => (hspec w1 b0 g0 h0 b1 g1 h1).mono fun _ _ h => LayN.LayRes.out h)
  have HIM := Lib.hid (fun (w1 : World) (b0 : Option Addr) (g0 : List Nat) (h0 : LaySub w1 b0 l0 g0) (b1 : Option Addr) (g1 : List Nat) (h1 : LaySub w1 b1 l1 g1) => (himpl w1 b0 g0 h0 b1 g1 h1).mono fun _ _ h => LayN.LayRes.out h)
  have HEQX := Lib.hid heqX
  have HSZ0 := Lib.hid hsz0
  have HTO0 := Lib.hid hto0
  have HEQ0 := Lib.hid heq0
  have HSZ1 := Lib.hid hsz1
  have HTO1 := Lib.hid hto1
  have HEQ1 := Lib.hid heq1
  clear hspec himpl heqX hr hlr hXl hXm hmm hk1 hk2 hsz0 hto0 heq0 hs0 hc0 hl0 ht0 hz0 hle0 hsz1 hto1 heq1 hs1 hc1 hl1 ht1 hz1 hle1
  have hvv : (ok != ok) = false := by simp
  go_enter Try.func20, Try.ntmps20
  go_wp2_with fail
  refine (HSZ0.out _ (Ext.refl w)).mono ?_
  rintro e1 w1 ⟨rfl, hb⟩
  have E1 := Lib.hid (show Ext w w1 from Ext.trans (Ext.refl w) hb)
  have S1 := Lib.hid hb.size
  clear hb
  go_wp2_with fail
  refine (HSZ1.out _ E1.out).mono ?_
  rintro e1 w2 ⟨rfl, hb⟩
  have E2 := Lib.hid (show Ext w w2 from Ext.trans E1.out hb)
  have S2 := Lib.hid hb.size
  clear hb
  go_wp2_with fail
  refine (HTO0.out _ E2.out).mono ?_
  rintro e1 w3 ⟨ps0, qs0, rfl, hs, hfr, hb⟩
  have Ks0 := Lib.hid (LayN.Lies.new hs hfr)
  have E3 := Lib.hid (show Ext w w3 from Ext.trans E2.out hb)
  have S3 := Lib.hid hb.size
  clear hs hfr hb
  go_wp2_with fail
  refine (HTO1.out _ E3.out).mono ?_
  rintro e1 w4 ⟨ps1, qs1, rfl, hs, hfr, hb⟩
  have Ks0q := Lib.hid (Ks0.out.below hb)
  clear Ks0
  have Ks0 := Lib.hid Ks0q.out
  clear Ks0q
  have Ks1 := Lib.hid (LayN.Lies.new hs hfr)
  have E4 := Lib.hid (show Ext w w4 from Ext.trans E3.out hb)
  have S4 := Lib.hid hb.size
  clear hs hfr hb
  go_wp2_with fail
  refine (HSP.out _ _ _ Ks0.out.sub _ _ Ks1.out.sub).mono ?_
  rintro e1 w5 ⟨pw, cw, qw, rfl, hc, hs, hfr, hb⟩
  have Ks0q := Lib.hid (Ks0.out.below hb)
  clear Ks0
  have Ks0 := Lib.hid Ks0q.out
  clear Ks0q
  have Ks1q := Lib.hid (Ks1.out.below hb)
  clear Ks1
  have Ks1 := Lib.hid Ks1q.out
  clear Ks1q
  have Kw := Lib.hid (LayN.Lies.new hs hfr)
  have E5 := Lib.hid (show Ext w w5 from Ext.trans E4.out hb)
  have S5 := Lib.hid hb.size
  have Cw := Lib.hid hc
  clear hc hs hfr hb
  go_wp2_with fail
  clear Ks0
  clear Ks1
  refine (HTO0.out _ E5.out).mono ?_
  rintro e1 w6 ⟨px0, qx0, rfl, hs, hfr, hb⟩
  have Kwq := Lib.hid (Kw.out.below hb)
  clear Kw
  have Kw := Lib.hid Kwq.out
  clear Kwq
  have Kx0 := Lib.hid (LayN.Lies.new hs hfr)
  have E6 := Lib.hid (show Ext w w6 from Ext.trans E5.out hb)
  have S6 := Lib.hid hb.size
  clear hs hfr hb
  go_wp2_with fail
  refine (HTO1.out _ E6.out).mono ?_
  rintro e1 w7 ⟨px1, qx1, rfl, hs, hfr, hb⟩
  have Kwq := Lib.hid (Kw.out.below hb)
  clear Kw
  have Kw := Lib.hid Kwq.out
  clear Kwq
  have Kx0q := Lib.hid (Kx0.out.below hb)
  clear Kx0
  have Kx0 := Lib.hid Kx0q.out
  clear Kx0q
  have Kx1 := Lib.hid (LayN.Lies.new hs hfr)
  have E7 := Lib.hid (show Ext w w7 from Ext.trans E6.out hb)
  have S7 := Lib.hid hb.size
  clear hs hfr hb
  go_wp2_with fail
  refine (HIM.out _ _ _ Kx0.out.sub _ _ Kx1.out.sub).mono ?_
  rintro e1 w8 ⟨pg, cg, qg, rfl, hc, hs, hfr, hb⟩
  have Kwq := Lib.hid (Kw.out.below hb)
  clear Kw
  have Kw := Lib.hid Kwq.out
  clear Kwq
  have Kx0q := Lib.hid (Kx0.out.below hb)
  clear Kx0
  have Kx0 := Lib.hid Kx0q.out
  clear Kx0q
  have Kx1q := Lib.hid (Kx1.out.below hb)
  clear Kx1
  have Kx1 := Lib.hid Kx1q.out
  clear Kx1q
  have Kg := Lib.hid (LayN.Lies.new hs hfr)
  have E8 := Lib.hid (show Ext w w8 from Ext.trans E7.out hb)
  have S8 := Lib.hid hb.size
  have Cg := Lib.hid hc
  clear hc hs hfr hb
  go_wp2_with fail
  refine (HEQX.out _ _ _ _ _ _ _ Kg.out.sub Kw.out.sub Cg.out Cw.out).mono ?_
  rintro e1 w9 ⟨rfl, hb⟩
  have Kwq := Lib.hid (Kw.out.below hb)
  clear Kw
  have Kw := Lib.hid Kwq.out
  clear Kwq
  have Kx0q := Lib.hid (Kx0.out.below hb)
  clear Kx0
  have Kx0 := Lib.hid Kx0q.out
  clear Kx0q
  have Kx1q := Lib.hid (Kx1.out.below hb)
  clear Kx1
  have Kx1 := Lib.hid Kx1q.out
  clear Kx1q
  have Kgq := Lib.hid (Kg.out.below hb)
  clear Kg
  have Kg := Lib.hid Kgq.out
  clear Kgq
  have E9 := Lib.hid (show Ext w w9 from Ext.trans E8.out hb)
  have S9 := Lib.hid hb.size
  clear hb
  go_wp2_with fail
  refine (HTO0.out _ E9.out).mono ?_
  rintro e1 w10 ⟨py0, qy0, rfl, hs, hfr, hb⟩
  have Kwq := Lib.hid (Kw.out.below hb)
  clear Kw
  have Kw := Lib.hid Kwq.out
  clear Kwq
  have Kx0q := Lib.hid (Kx0.out.below hb)
  clear Kx0
  have Kx0 := Lib.hid Kx0q.out
  clear Kx0q
  have Kx1q := Lib.hid (Kx1.out.below hb)
  clear Kx1
  have Kx1 := Lib.hid Kx1q.out
  clear Kx1q
  have Kgq := Lib.hid (Kg.out.below hb)
  clear Kg
  have Kg := Lib.hid Kgq.out
  clear Kgq
  have Ky0 := Lib.hid (LayN.Lies.new hs hfr)
  have E10 := Lib.hid (show Ext w w10 from Ext.trans E9.out hb)
  have S10 := Lib.hid hb.size
  clear hs hfr hb
  go_wp2_with fail
  refine (HEQ0.out _ _ _ _ _ Kx0.out.sub Ky0.out.sub).mono ?_
  rintro e1 w11 ⟨rfl, hb⟩
  have Kwq := Lib.hid (Kw.out.below hb)
  clear Kw
  have Kw := Lib.hid Kwq.out
  clear Kwq
  have Kx0q := Lib.hid (Kx0.out.below hb)
  clear Kx0
  have Kx0 := Lib.hid Kx0q.out
  clear Kx0q
  have Kx1q := Lib.hid (Kx1.out.below hb)
  clear Kx1
  have Kx1 := Lib.hid Kx1q.out
  clear Kx1q
  have Kgq := Lib.hid (Kg.out.below hb)
  clear Kg
  have Kg := Lib.hid Kgq.out
  clear Kgq
  have Ky0q := Lib.hid (Ky0.out.below hb)
  clear Ky0
  have Ky0 := Lib.hid Ky0q.out
  clear Ky0q
  have E11 := Lib.hid (show Ext w w11 from Ext.trans E10.out hb)
  have S11 := Lib.hid hb.size
  clear hb
  go_wp2_with fail
  clear Ky0
  refine (HTO1.out _ E11.out).mono ?_
  rintro e1 w12 ⟨py1, qy1, rfl, hs, hfr, hb⟩
  have Kwq := Lib.hid (Kw.out.below hb)
  clear Kw
  have Kw := Lib.hid Kwq.out
  clear Kwq
  have Kx0q := Lib.hid (Kx0.out.below hb)
  clear Kx0
  have Kx0 := Lib.hid Kx0q.out
  clear Kx0q
  have Kx1q := Lib.hid (Kx1.out.below hb)
  clear Kx1
  have Kx1 := Lib.hid Kx1q.out
  clear Kx1q
  have Kgq := Lib.hid (Kg.out.below hb)
  clear Kg
  have Kg := Lib.hid Kgq.out
  clear Kgq
  have Ky1 := Lib.hid (LayN.Lies.new hs hfr)
  have E12 := Lib.hid (show Ext w w12 from Ext.trans E11.out hb)
  have S12 := Lib.hid hb.size
  clear hs hfr hb
  go_wp2_with fail
  refine (HEQ1.out _ _ _ _ _ Kx1.out.sub Ky1.out.sub).mono ?_
  rintro e1 w13 ⟨rfl, hb⟩
  have Kwq := Lib.hid (Kw.out.below hb)
  clear Kw
  have Kw := Lib.hid Kwq.out
  clear Kwq
  have Kx0q := Lib.hid (Kx0.out.below hb)
  clear Kx0
  have Kx0 := Lib.hid Kx0q.out
  clear Kx0q
  have Kx1q := Lib.hid (Kx1.out.below hb)
  clear Kx1
  have Kx1 := Lib.hid Kx1q.out
  clear Kx1q
  have Kgq := Lib.hid (Kg.out.below hb)
  clear Kg
  have Kg := Lib.hid Kgq.out
  clear Kgq
  have Ky1q := Lib.hid (Ky1.out.below hb)
  clear Ky1
  have Ky1 := Lib.hid Ky1q.out
  clear Ky1q
  have E13 := Lib.hid (show Ext w w13 from Ext.trans E12.out hb)
  have S13 := Lib.hid hb.size
  clear hb
  go_wp2_with fail
  clear Ky1
  refine (HMK0.out _ _ _ _ Kx0.out.sub Kx0.out.fresh).mono ?_
  rintro e1 w14 ⟨rfl, hs, hO⟩
  have Kwq := Lib.hid (Kw.out.only hO Kx0.out (Or.inl (by have := S1.out; have := S2.out; have := S3.out; have := S4.out; have := S5.out; have := S6.out; have := S7.out; have := S8.out; have := S9.out; have := S10.out; have := S11.out; have := S12.out; have := S13.out; omega)))
  clear Kw
  have Kw := Lib.hid Kwq.out
  clear Kwq
  have Kx1q := Lib.hid (Kx1.out.only hO Kx0.out (Or.inr (by have := S1.out; have := S2.out; have := S3.out; have := S4.out; have := S5.out; have := S6.out; have := S7.out; have := S8.out; have := S9.out; have := S10.out; have := S11.out; have := S12.out; have := S13.out; omega)))
  clear Kx1
  have Kx1 := Lib.hid Kx1q.out
  clear Kx1q
  have Kgq := Lib.hid (Kg.out.only hO Kx0.out (Or.inr (by have := S1.out; have := S2.out; have := S3.out; have := S4.out; have := S5.out; have := S6.out; have := S7.out; have := S8.out; have := S9.out; have := S10.out; have := S11.out; have := S12.out; have := S13.out; omega)))
  clear Kg
  have Kg := Lib.hid Kgq.out
  clear Kgq
  have E14 := Lib.hid (Kx0.out.ext E13.out hO (by have := S1.out; have := S1.out; have := S2.out; have := S3.out; have := S4.out; have := S5.out; have := S6.out; have := S7.out; have := S8.out; have := S9.out; have := S10.out; have := S11.out; have := S12.out; have := S13.out; omega))
  have S14 := Lib.hid hO.size
  have Kx0q := Lib.hid (Kx0.out.mark hO hs)
  clear Kx0 hs hO
  have Kx0 := Lib.hid Kx0q.out
  clear Kx0q
  go_wp2_with fail
  refine (HMK1.out _ _ _ _ Kx1.out.sub Kx1.out.fresh).mono ?_
  rintro e1 w15 ⟨rfl, hs, hO⟩
  have Kwq := Lib.hid (Kw.out.only hO Kx1.out (Or.inl (by have := S1.out; have := S2.out; have := S3.out; have := S4.out; have := S5.out; have := S6.out; have := S7.out; have := S8.out; have := S9.out; have := S10.out; have := S11.out; have := S12.out; have := S13.out; have := S14.out; omega)))
  clear Kw
  have Kw := Lib.hid Kwq.out
  clear Kwq
  have Kx0q := Lib.hid (Kx0.out.only hO Kx1.out (Or.inl (by have := S1.out; have := S2.out; have := S3.out; have := S4.out; have := S5.out; have := S6.out; have := S7.out; have := S8.out; have := S9.out; have := S10.out; have := S11.out; have := S12.out; have := S13.out; have := S14.out; omega)))
  clear Kx0
  have Kx0 := Lib.hid Kx0q.out
  clear Kx0q
  have Kgq := Lib.hid (Kg.out.only hO Kx1.out (Or.inr (by have := S1.out; have := S2.out; have := S3.out; have := S4.out; have := S5.out; have := S6.out; have := S7.out; have := S8.out; have := S9.out; have := S10.out; have := S11.out; have := S12.out; have := S13.out; have := S14.out; omega)))
  clear Kg
  have Kg := Lib.hid Kgq.out
  clear Kgq
  have E15 := Lib.hid (Kx1.out.ext E14.out hO (by have := S1.out; have := S1.out; have := S2.out; have := S3.out; have := S4.out; have := S5.out; have := S6.out; have := S7.out; have := S8.out; have := S9.out; have := S10.out; have := S11.out; have := S12.out; have := S13.out; have := S14.out; omega))
  have S15 := Lib.hid hO.size
  have Kx1q := Lib.hid (Kx1.out.mark hO hs)
  clear Kx1 hs hO
  have Kx1 := Lib.hid Kx1q.out
  clear Kx1q
  go_wp2_with fail
  clear Kx0
  clear Kx1
  refine (HEQX.out _ _ _ _ _ _ _ Kg.out.sub Kw.out.sub Cg.out Cw.out).mono ?_
  rintro e1 w16 ⟨rfl, hb⟩
  have Kwq := Lib.hid (Kw.out.below hb)
  clear Kw
  have Kw := Lib.hid Kwq.out
  clear Kwq
  have Kgq := Lib.hid (Kg.out.below hb)
  clear Kg
  have Kg := Lib.hid Kgq.out
  clear Kgq
  have E16 := Lib.hid (show Ext w w16 from Ext.trans E15.out hb)
  have S16 := Lib.hid hb.size
  clear hb
  go_wp2_with fail
  refine (HMG.out _ _ _ _ _ Kg.out.sub Kg.out.fresh Cg.out).mono ?_
  rintro e1 w17 ⟨rfl, hs, hO⟩
  have Kwq := Lib.hid (Kw.out.only hO Kg.out (Or.inl (by have := S1.out; have := S2.out; have := S3.out; have := S4.out; have := S5.out; have := S6.out; have := S7.out; have := S8.out; have := S9.out; have := S10.out; have := S11.out; have := S12.out; have := S13.out; have := S14.out; have := S15.out; have := S16.out; omega)))
  clear Kw
  have Kw := Lib.hid Kwq.out
  clear Kwq
  have E17 := Lib.hid (Kg.out.ext E16.out hO (by have := S1.out; have := S1.out; have := S2.out; have := S3.out; have := S4.out; have := S5.out; have := S6.out; have := S7.out; have := S8.out; have := S9.out; have := S10.out; have := S11.out; have := S12.out; have := S13.out; have := S14.out; have := S15.out; have := S16.out; omega))
  have S17 := Lib.hid hO.size
  have Kgq := Lib.hid (Kg.out.mark hO hs)
  clear Kg hs hO
  have Kg := Lib.hid Kgq.out
  clear Kgq
  go_wp2_with fail
  refine (HHG.out _ _ _ _ Kg.out.sub Cg.out).mono ?_
  rintro e1 w18 ⟨rfl, hb⟩
  have Kwq := Lib.hid (Kw.out.below hb)
  clear Kw
  have Kw := Lib.hid Kwq.out
  clear Kwq
  have Kgq := Lib.hid (Kg.out.below hb)
  clear Kg
  have Kg := Lib.hid Kgq.out
  clear Kgq
  have E18 := Lib.hid (show Ext w w18 from Ext.trans E17.out hb)
  have S18 := Lib.hid hb.size
  clear hb
  go_wp2_with fail
  refine (HTO0.out _ E18.out).mono ?_
  rintro e1 w19 ⟨pv0, qv0, rfl, hs, hfr, hb⟩
  have Kwq := Lib.hid (Kw.out.below hb)
  clear Kw
  have Kw := Lib.hid Kwq.out
  clear Kwq
  have Kgq := Lib.hid (Kg.out.below hb)
  clear Kg
  have Kg := Lib.hid Kgq.out
  clear Kgq
  have Kv0 := Lib.hid (LayN.Lies.new hs hfr)
  have E19 := Lib.hid (show Ext w w19 from Ext.trans E18.out hb)
  have S19 := Lib.hid hb.size
  clear hs hfr hb
  go_wp2_with fail
  refine (HTO1.out _ E19.out).mono ?_
  rintro e1 w20 ⟨pv1, qv1, rfl, hs, hfr, hb⟩
  have Kwq := Lib.hid (Kw.out.below hb)
  clear Kw
  have Kw := Lib.hid Kwq.out
  clear Kwq
  have Kgq := Lib.hid (Kg.out.below hb)
  clear Kg
  have Kg := Lib.hid Kgq.out
  clear Kgq
  have Kv0q := Lib.hid (Kv0.out.below hb)
  clear Kv0
  have Kv0 := Lib.hid Kv0q.out
  clear Kv0q
  have Kv1 := Lib.hid (LayN.Lies.new hs hfr)
  have E20 := Lib.hid (show Ext w w20 from Ext.trans E19.out hb)
  have S20 := Lib.hid hb.size
  clear hs hfr hb
  go_wp2_with fail
  refine (HIM.out _ _ _ Kv0.out.sub _ _ Kv1.out.sub).mono ?_
  rintro e1 w21 ⟨ph, ch, qh, rfl, hc, hs, hfr, hb⟩
  have Kwq := Lib.hid (Kw.out.below hb)
  clear Kw
  have Kw := Lib.hid Kwq.out
  clear Kwq
  have Kgq := Lib.hid (Kg.out.below hb)
  clear Kg
  have Kg := Lib.hid Kgq.out
  clear Kgq
  have Kv0q := Lib.hid (Kv0.out.below hb)
  clear Kv0
  have Kv0 := Lib.hid Kv0q.out
  clear Kv0q
  have Kv1q := Lib.hid (Kv1.out.below hb)
  clear Kv1
  have Kv1 := Lib.hid Kv1q.out
  clear Kv1q
  have Kh := Lib.hid (LayN.Lies.new hs hfr)
  have E21 := Lib.hid (show Ext w w21 from Ext.trans E20.out hb)
  have S21 := Lib.hid hb.size
  have Ch := Lib.hid hc
  clear hc hs hfr hb
  go_wp2_with fail
  clear Kv0
  clear Kv1
  refine (HEQX.out _ _ _ _ _ _ _ Kh.out.sub Kw.out.sub Ch.out Cw.out).mono ?_
  rintro e1 w22 ⟨rfl, hb⟩
  have Kwq := Lib.hid (Kw.out.below hb)
  clear Kw
  have Kw := Lib.hid Kwq.out
  clear Kwq
  have Kgq := Lib.hid (Kg.out.below hb)
  clear Kg
  have Kg := Lib.hid Kgq.out
  clear Kgq
  have Khq := Lib.hid (Kh.out.below hb)
  clear Kh
  have Kh := Lib.hid Khq.out
  clear Khq
  have E22 := Lib.hid (show Ext w w22 from Ext.trans E21.out hb)
  have S22 := Lib.hid hb.size
  clear hb
  go_wp2_with fail
  refine (HHG.out _ _ _ _ Kg.out.sub Cg.out).mono ?_
  rintro e1 w23 ⟨rfl, hb⟩
  have Kwq := Lib.hid (Kw.out.below hb)
  clear Kw
  have Kw := Lib.hid Kwq.out
  clear Kwq
  have Kgq := Lib.hid (Kg.out.below hb)
  clear Kg
  have Kg := Lib.hid Kgq.out
  clear Kgq
  have Khq := Lib.hid (Kh.out.below hb)
  clear Kh
  have Kh := Lib.hid Khq.out
  clear Khq
  have E23 := Lib.hid (show Ext w w23 from Ext.trans E22.out hb)
  have S23 := Lib.hid hb.size
  clear hb
  go_wp2_with fail
  go_ret
  exact ⟨rfl, E23.out⟩

theorem walk (w : World) (l0 : List (Int × ByteArray)) (a0 : Option Addr) (c0 : Nat) (f0 : List Nat) (l1 : List (Int × ByteArray)) (a1 : Option Addr) (c1 : Nat) (f1 : List Nat) (hs0 : LaySub w a0 l0 f0) (hc0 : l0.length ≤ c0) (hl0 : l0.length ≤ maxLen) (ht0 : L.Fits l0) (hs1 : LaySub w a1 l1 f1) (hc1 : l1.length ≤ c1) (hl1 : l1.length ≤ maxLen) (ht1 : L.Fits l1)  :
    Calls Try.prog 20 #[.slice a0 l0.length c0, .slice a1 l1.length c1] w fun e w' => e = .returned (.bool true) ∧ Below w.heap.size w w' := by
  by_cases h0 : (1048576 : Int) < (L.size l0 : Int)
  · exact walk_big0 w l0 a0 c0 f0 l1 a1 c1 f1 hs0 hc0 hl0 ht0 hs1 hc1 hl1 ht1  h0
  · by_cases h1 : (1048576 : Int) - (L.size l0 : Int) < (L.size l1 : Int)
    · exact walk_big1 w l0 a0 c0 f0 l1 a1 c1 f1 hs0 hc0 hl0 ht0 hs1 hc1 hl1 ht1 _ rfl (by omega) h1
    ·
      exact walk_good w l0 a0 c0 f0 l1 a1 c1 f1 hs0 hc0 hl0 ht0 hs1 hc1 hl1 ht1  _ rfl (by omega) _ rfl (by omega)

set_option maxRecDepth 100000 in
theorem lifted (os : Os) (started : os.Started) (H : Type) (enc : TypeId × Value → H) :
    ReturnsInHanded {} Try.checked os 20 .any (Rows.fnExactCatLayoutsSpec.pre6 enc Try.prog Try.f20 Rows.fnExactCatLayoutsRow.domain false) (Rows.fnExactCatLayoutsSpec.post enc Try.prog Try.f20 false true false false) := by
  refine returnsInHanded_of_change (C := Try.checked) Facts.own started (by kernel_rfl) Try.func20
    (ChangeSpec.witness6 (enc := enc) (C := Try.checked) false ⟨#[], #[.slice none 0 0, .slice none 0 0], []⟩ 8 (by kernel_rfl) (by kernel_rfl) (by kernel_rfl) (by kernel_rfl)) ?_
  intro W base args ds gs before hval0 hW hcnd0 _
  clear hcnd0
  have hval : ∀ (j : Nat) t v, Try.f20.params[j]? = some t → args[j]? = some v → Value.okWide Try.prog W .any base t v := hval0
  have hW' := hW
  obtain ⟨p, q, hA0, hV, rfl, hfz, hnd⟩ := hW
  have hA : DataW.TrodAll enc Try.prog W 0 (fun _ => true) true Try.f20.params.toList args.toList ds p := hA0
  rw [Try.params20] at hA hval
  obtain ⟨v0, v1, d0, d1, p0, p1, rfl, rfl, rfl, h0, h1⟩ := trodAll_two hA
  obtain ⟨rfl, rfl⟩ := trodVars_none hV
  obtain ⟨l0, a0, c0, f0, rfl, ht0, hl0, hc0, hs0⟩ := OpenL.open_rows (hval 0 50 v0 rfl rfl) h0
  obtain ⟨l1, a1, c1, f1, rfl, ht1, hl1, hc1, hs1⟩ := OpenL.open_rows (hval 1 50 v1 rfl rfl) h1
  clear hA0 hval0
  simp only [List.append_nil] at hW'
  have hlt : ∀ x ∈ p0 ++ p1, x.block < W.heap.size := fun x hx => by simpa using hW'.lt x hx
  refine (walk W l0 a0 c0 f0 l1 a1 c1 f1 hs0 hc0 hl0 ht0 hs1 hc1 hl1 ht1 ).mono fun e W' ⟨he, hb⟩ => ?_
  subst he
  refine ⟨_, rfl, [d0, d1], [], p0 ++ p1, [], p0 ++ p1, [], hW', trodAll_mk1 (shut_bool Try.underlying4 _), ?_, rfl, hb.frame _, fun h => by cases h⟩
  exact trodAll_mk2 (Below.trod Facts.laidOut (by kernel_rfl) (of_decide_eq_true (by kernel_rfl)) h0 hb (fun x hx => hlt x (List.mem_append_left _ hx))) (Below.trod Facts.laidOut (by kernel_rfl) (of_decide_eq_true (by kernel_rfl)) h1 hb (fun x hx => hlt x (List.mem_append_right _ hx)))

theorem named : Try.prog.funcNamed Rows.fnExactCatLayoutsRow.func = some 20 := by kernel_rfl
theorem closed : joinedFacts Try.prog 20 Try.f20 Rows.fnExactCatLayoutsSpec Rows.fnExactCatLayoutsRow = true :=
  Facts.closed_of rfl rfl rfl rfl (h28b := rfl) (by kernel_rfl) (by kernel_rfl) (by kernel_rfl) (by kernel_rfl) (by kernel_rfl) (by kernel_rfl) (by kernel_rfl) (by kernel_rfl) (by kernel_rfl) (by kernel_rfl) (by kernel_rfl) (by kernel_rfl) (by kernel_rfl) (by kernel_rfl) (by kernel_rfl) (by kernel_rfl) (by kernel_rfl) (by kernel_rfl) (by kernel_rfl) (by kernel_rfl) (by kernel_rfl) (by kernel_rfl) (by kernel_rfl) (by kernel_rfl)
theorem instanced : Try.f20.isInstance Try.prog Rows.fnExactCatLayoutsRow.origin Rows.fnExactCatLayoutsRow.targs := of_decide_eq_true (by kernel_rfl)
theorem wrapped : Try.f20.isWrapper Try.prog Rows.fnExactCatLayoutsRow.wrapper Rows.fnExactCatLayoutsRow.mainSum := by
  unfold Func.isWrapper
  rw [if_neg (of_decide_eq_false (by kernel_rfl))]
  exact ⟨rfl, rfl⟩

theorem holds : Rows.FnExactCatLayoutsSaid :=
  OpenClaim.holds_of_wide 20 Try.f20 rfl rfl rfl rfl rfl rfl rfl ⟨rfl, rfl, rfl, rfl, rfl⟩ rfl rfl rfl rfl rfl named Try.func20 closed instanced wrapped
    (fun os started H enc _ => lifted os started H enc)

end Go.Proofs.Ytgnpcfafdjebeaa.lawCatLayouts
