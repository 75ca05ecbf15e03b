import Derived.Test.YtjcaiecapapceaaRnX2
import Derived.Test.YtjcaiecapapceaaEqY
/-
 The least width in which two documents are rendered in another way: FirstWidth and SameRenders of the program and of the model.
-/
set_option linter.unusedVariables false
set_option linter.unusedSimpArgs false
set_option maxRecDepth 100000
set_option maxHeartbeats 6400000
namespace Go.Proofs.Ytjcaiecapapceaa.Eqd
open Go.RowKit Go.Shelf P1 LayL LayV LayM LayN Cnt CntC Rn RnM Rq RnR RnV
def fwO (o n : Int) (t : ByteArray) (k : F) (o' n' : Int) (t' : ByteArray) (k' : F) : Option Nat := (List.range 201).find? (fun j => !decide (lyW o n t k j = lyW o' n' t' k' j))
def fwR (o n : Int) (t : ByteArray) (k : F) (o' n' : Int) (t' : ByteArray) (k' : F) : Int × Bool := if (validD o n t k && validD o' n' t' k') = true then (match fwO o n t k o' n' t' k' with | some j => ((j : Int), true) | none => (0, false)) else (0, false)
def sameRn (o n : Int) (t : ByteArray) (k : F) (o' n' : Int) (t' : ByteArray) (k' : F) : Bool := (validD o n t k && validD o' n' t' k') && (fwO o n t k o' n' t' k').isNone
section
variable {o n : Int} {t : ByteArray} {k : F} {o' n' : Int} {t' : ByteArray} {k' : F}
theorem fwO_some {j : Nat} (hj : j ≤ 200) (h1 : ∀ i, i < j → lyW o n t k i = lyW o' n' t' k' i) (h2 : lyW o n t k j ≠ lyW o' n' t' k' j) : fwO o n t k o' n' t' k' = some j := by
 unfold fwO
 rw [List.find?_range_eq_some]
 refine ⟨by simp [h2], by simp; omega, fun i hi => by simp [h1 i hi]⟩
theorem fwO_none (h1 : ∀ i, i ≤ 200 → lyW o n t k i = lyW o' n' t' k' i) : fwO o n t k o' n' t' k' = none := by
 unfold fwO
 rw [List.find?_range_eq_none]
 intro i hi
 simp [h1 i (by omega)]
theorem fwR_some (hv : (validD o n t k && validD o' n' t' k') = true) {j : Nat} (h : fwO o n t k o' n' t' k' = some j) : fwR o n t k o' n' t' k' = ((j : Int), true) := by unfold fwR; rw [if_pos hv, h]
theorem fwR_none (hv : (validD o n t k && validD o' n' t' k') = true) (h : fwO o n t k o' n' t' k' = none) : fwR o n t k o' n' t' k' = (0, false) := by unfold fwR; rw [if_pos hv, h]
theorem fwR_no (hv : (validD o n t k && validD o' n' t' k') = false) : fwR o n t k o' n' t' k' = (0, false) := by unfold fwR; rw [if_neg (by rw [hv]; decide)]
end
theorem rn_at (o n : Int) (t : ByteArray) (k : F) {j : Nat} (hj : j ≤ 200) : rnR (j : Int) o n t k = (if validD o n t k then lyW o n t k j else [], validD o n t k) := by
 cases hv : validD o n t k with
 | true => rw [rnR_yes (right_w hv hj)]; rfl
 | false => rw [rnR_no (by simp [rightD, hv])]; rfl
theorem implFirstWidth (w : World) (o0 n0 : Int) (t0 : ByteArray) (k0 : F) (a0 : Option Addr) (c0 : Nat) (f0 : List Nat) (h0 : DocIn w t0 k0 a0 c0 f0) (o1 n1 : Int) (t1 : ByteArray) (k1 : F) (a1 : Option Addr) (c1 : Nat) (f1 : List Nat) (h1 : DocIn w t1 k1 a1 c1 f1) :
  Calls Try.prog 26 #[.agg #[.int .i64 o0, .int .i64 n0, .string t0, .slice a0 k0.len c0], .agg #[.int .i64 o1, .int .i64 n1, .string t1, .slice a1 k1.len c1]] w fun e w' => e = .returned (.tuple #[.int .i64 (fwR o0 n0 t0 k0 o1 n1 t1 k1).1, .bool (fwR o0 n0 t0 k0 o1 n1 t1 k1).2]) ∧ Below w.heap.size w w' := by
 have hA := fun (j : Nat) (hj : j ≤ 200) (W : World) (e : Ext w W) => (implRenderDoc W (j : Int) o0 n0 t0 k0 a0 c0 f0 (h0.ext e).sub (h0.ext e).ok (h0.ext e).cap_le (h0.ext e).size (h0.ext e).fits (h0.ext e).tfit).mono fun _ _ g => LayRes.out (by rwa [rn_at o0 n0 t0 k0 hj] at g)
 have hB := fun (j : Nat) (hj : j ≤ 200) (W : World) (e : Ext w W) => (implRenderDoc W (j : Int) o1 n1 t1 k1 a1 c1 f1 (h1.ext e).sub (h1.ext e).ok (h1.ext e).cap_le (h1.ext e).size (h1.ext e).fits (h1.ext e).tfit).mono fun _ _ g => LayRes.out (by rwa [rn_at o1 n1 t1 k1 hj] at g)
 obtain ⟨p0, hp0⟩ : ∃ p, validD o0 n0 t0 k0 = p := ⟨_, rfl⟩
 obtain ⟨p1, hp1⟩ : ∃ p, validD o1 n1 t1 k1 = p := ⟨_, rfl⟩
 rw [hp0] at hA
 rw [hp1] at hB
 have HT := Lib.hid (fun (w' : World) => two_new w (.int .i64 o0) (.int .i64 n0) (.string t0) (.slice a0 k0.len c0) (.int .i64 o1) (.int .i64 n1) (.string t1) (.slice a1 k1.len c1) 25 (w' := w'))
 have HE := Lib.hid (show ∀ x y, Ext w ((w.alloc x).alloc y) from fun x y => ((Ext.refl w).alloc x).alloc y)
 obtain ⟨WW, hWW⟩ : ∃ W, ((w.alloc (.cells #[.int .i64 o0, .int .i64 n0, .string t0, .slice a0 k0.len c0] 25)).alloc (.cells #[.int .i64 o1, .int .i64 n1, .string t1, .slice a1 k1.len c1] 25)) = W := ⟨_, rfl⟩
 rw [hWW] at HT
 have HWW := Lib.hid hWW
 obtain ⟨L0, hL0⟩ : ∃ L, k0.len = L := ⟨_, rfl⟩
 obtain ⟨L1, hL1⟩ : ∃ L, k1.len = L := ⟨_, rfl⟩
 rw [hL0] at hA
 rw [hL1] at hB
 rw [hL0, hL1] at HT HWW ⊢
 clear hWW h0 h1
 by_cases hp : (p0 && p1) = true
 ·obtain ⟨rfl, rfl⟩ : p0 = true ∧ p1 = true := by simpa using hp
  have hgx := fun j => ly_len (t := t0) (o := o0) (n := n0) (k := k0) hp0 j
  have hgy := fun j => ly_len (t := t1) (o := o1) (n := n1) (k := k1) hp1 j
  have HV := Lib.hid (show (validD o0 n0 t0 k0 && validD o1 n1 t1 k1) = true by rw [hp0, hp1]; rfl)
  have hsome := fun (j : Nat) (hj : j ≤ 200) h2 h3 => fwR_some HV.out (fwO_some (o := o0) (n := n0) (t := t0) (k := k0) (o' := o1) (n' := n1) (t' := t1) (k' := k1) hj h2 h3)
  have hnone := fun h2 => fwR_none HV.out (fwO_none (o := o0) (n := n0) (t := t0) (k := k0) (o' := o1) (n' := n1) (t' := t1) (k' := k1) h2)
  obtain ⟨r, hr⟩ : ∃ r, fwR o0 n0 t0 k0 o1 n1 t1 k1 = r := ⟨_, rfl⟩
  rw [hr] at hsome hnone ⊢
  simp only [if_true] at hA hB
  obtain ⟨X, hX⟩ : ∃ X : Nat → (List (Int × ByteArray)), (fun j => lyW o0 n0 t0 k0 j) = X := ⟨_, rfl⟩
  obtain ⟨Y, hY⟩ : ∃ Y : Nat → (List (Int × ByteArray)), (fun j => lyW o1 n1 t1 k1 j) = Y := ⟨_, rfl⟩
  have hX' : ∀ j, lyW o0 n0 t0 k0 j = X j := fun j => by rw [← hX]
  have hY' : ∀ j, lyW o1 n1 t1 k1 j = Y j := fun j => by rw [← hY]
  simp only [hX'] at hA hgx hsome hnone
  simp only [hY'] at hB hgy hsome hnone
  have HA := Lib.hid hA
  have HB := Lib.hid hB
  have HGX := Lib.hid hgx
  have HGY := Lib.hid hgy
  have HS := Lib.hid hsome
  have HN := Lib.hid hnone
  obtain ⟨r0, r1⟩ := r
  clear hA hB hgx hgy hsome hnone hX hY hX' hY' hp0 hp1 hp hL0 hL1 hr
  go_enter Try.func26, Try.ntmps26
  go_wp2_with fail
  try rw [HWW.out]
  go_loopw [11] (fun i wr => ∃ (j : Nat), j ≤ 201 ∧ i = .int .i64 (j : Int) ∧ Hid (∀ q, q < j → X q = Y q) ∧ Hid (Ext WW wr)) (fun i _ => 201 - (intOf i).toNat)
  case atStart => exact ⟨0, by omega, rfl, Lib.hid (fun q hq => absurd hq (Nat.not_lt_zero q)), Lib.hid (Ext.refl _)⟩
  case round =>
   obtain ⟨j, hj, rfl, HQ, HR⟩ := hrel
   obtain ⟨⟨u0, u1, u2, u3⟩, ⟨v0, v1, v2, v3⟩, hex⟩ := HT.out _ HR.out
   have HX := Lib.hid hex
   have i0 : (0 : Int) ≤ (j : Int) := Int.natCast_nonneg _
   clear hex
   by_cases hjn : j < 201
   ·have HAJ := Lib.hid (HA.out j (by omega))
    have HBJ := Lib.hid (HB.out j (by omega))
    have i1 : (j : Int) < 201 := by omega
    go_wp2_with fail
    refine (HAJ.out _ HX.out).mono ?_
    rintro e1 w1 ⟨x1, y1, g1, rfl, hc1', hs1, hF1, hb1⟩
    have K1 := Lib.hid (show Ext WW w1 from Ext.trans HR.out hb1)
    have H1 := Lib.hid (And.intro hs1 hc1')
    clear hb1 hs1 hF1 hc1' u0 u1 u2 u3 v0 v1 v2 v3
    obtain ⟨⟨u0, u1, u2, u3⟩, ⟨v0, v1, v2, v3⟩, hex⟩ := HT.out _ K1.out
    have HX1 := Lib.hid hex
    clear hex
    obtain ⟨m, hm⟩ : ∃ m, (X j).length = m := ⟨_, rfl⟩
    rw [hm]
    go_wp2_with fail
    refine (HBJ.out _ HX1.out).mono ?_
    rintro e2 w2 ⟨x2, y2, g2, rfl, hc2', hs2, hF2, hb2⟩
    have K2 := Lib.hid (show Ext WW w2 from Ext.trans K1.out hb2)
    have hsame := LaySm.implLayoutSame (X j) (Y j) w2 x1 y1 g1 (H1.out.1.below H1.out.1.lt hb2) x2 y2 g2 hs2 H1.out.2 hc2' (HGX.out j) (HGY.out j)
    clear hb2 hs2 hF2 hc2' u0 u1 u2 u3 v0 v1 v2 v3
    obtain ⟨m2, hm2⟩ : ∃ m, (Y j).length = m := ⟨_, rfl⟩
    rw [hm2]
    rw [hm, hm2] at hsame
    have HSM := Lib.hid hsame
    clear hsame hm hm2
    by_cases hxy : X j = Y j
    ·rw [decide_eq_true hxy] at HSM
     have HXY := Lib.hid hxy
     clear hxy
     go_wp2_with fail
     refine HSM.out.mono ?_
     rintro e3 w3 ⟨rfl, hb3⟩
     have K3 := Lib.hid (show Ext WW w3 from Ext.trans K2.out hb3)
     clear hb3
     go_wp2_with fail
     go_roundw
     case rel => exact ⟨j + 1, by omega, by go_num, Lib.hid (fun q hq => by
      by_cases hqj : q < j
      ·exact HQ.out q hqj
      ·obtain rfl : j = q := by omega
       exact HXY.out), K3⟩
     case measure => simp [intOf]; omega
    ·rw [decide_eq_false hxy] at HSM
     have HXY := Lib.hid (HS.out j (by omega) HQ.out hxy)
     clear hxy
     go_wp2_with fail
     refine HSM.out.mono ?_
     rintro e3 w3 ⟨rfl, hb3⟩
     have K3 := Lib.hid (Ext.trans K2.out hb3)
     clear hb3
     go_wp2_with fail
     go_ret2
     have e := HXY.out
     injection e with e1 e2
     subst e1 e2
     exact ⟨rfl, (HT.out _ K3.out).2.2⟩
   ·obtain rfl : 201 = j := by omega
    have HXY := Lib.hid (HN.out fun q hq => HQ.out q (by omega))
    go_wp2_with fail
    go_ret2
    have e := HXY.out
    injection e with e1 e2
    subst e1 e2
    exact ⟨rfl, HX.out⟩
 ·have hq : (p0 && p1) = false := by simpa using hp
  rw [fwR_no (by rw [hp0, hp1]; exact hq)]
  have hA := hA 0 (by omega)
  have hB := hB 0 (by omega)
  obtain ⟨X, hX⟩ : ∃ X : (List (Int × ByteArray)), (if p0 = true then lyW o0 n0 t0 k0 0 else []) = X := ⟨_, rfl⟩
  obtain ⟨Y, hY⟩ : ∃ Y : (List (Int × ByteArray)), (if p1 = true then lyW o1 n1 t1 k1 0 else []) = Y := ⟨_, rfl⟩
  rw [hX] at hA
  rw [hY] at hB
  rw [show ((0 : Nat) : Int) = 0 from rfl] at hA hB
  have HA := Lib.hid hA
  have HB := Lib.hid hB
  clear hA hB hX hY hp0 hp1 hp hL0 hL1
  cases p0 <;> cases p1 <;> first | (exact absurd hq (by decide)) | skip
  all_goals
   clear hq
   go_enter Try.func26, Try.ntmps26
   go_wp2_with fail
   try rw [HWW.out]
   go_loopw [11] (fun i wr => i = .int .i64 0 ∧ Hid (Ext WW wr)) (fun i _ => 0)
   case atStart => exact ⟨rfl, Lib.hid (Ext.refl _)⟩
   case round =>
    obtain ⟨rfl, HR⟩ := hrel
    obtain ⟨⟨u0, u1, u2, u3⟩, ⟨v0, v1, v2, v3⟩, hex⟩ := HT.out _ HR.out
    have HX := Lib.hid hex
    clear hex
    go_wp2_with fail
    refine (HA.out _ HX.out).mono ?_
    rintro e1 w1 ⟨x1, y1, g1, rfl, hc1', hs1, hF1, hb1⟩
    have K1 := Lib.hid (show Ext WW w1 from Ext.trans HR.out hb1)
    clear hb1 hs1 hF1 hc1' u0 u1 u2 u3 v0 v1 v2 v3
    obtain ⟨⟨u0, u1, u2, u3⟩, ⟨v0, v1, v2, v3⟩, hex⟩ := HT.out _ K1.out
    have HX1 := Lib.hid hex
    clear hex
    obtain ⟨m, hm⟩ : ∃ m, X.length = m := ⟨_, rfl⟩
    rw [hm]
    clear hm
    go_wp2_with fail
    refine (HB.out _ HX1.out).mono ?_
    rintro e2 w2 ⟨x2, y2, g2, rfl, hc2', hs2, hF2, hb2⟩
    have K2 := Lib.hid (Ext.trans HX1.out hb2)
    clear hb2 hs2 hF2 hc2' u0 u1 u2 u3 v0 v1 v2 v3
    obtain ⟨m2, hm2⟩ : ∃ m, Y.length = m := ⟨_, rfl⟩
    rw [hm2]
    clear hm2
    go_wp2_with fail
    go_ret2
    exact ⟨rfl, K2.out⟩
def RunOut (w : World) (X : (List (Int × ByteArray))) (e : Ending) (w' : World) : Prop := ∃ (a : Option Addr) (cap : Nat) (f : List Nat) (a' : Option Addr) (n' c' : Nat), e = .returned (.agg #[.slice a X.length cap, .slice a' n' c']) ∧ X.length ≤ cap ∧ LaySub w' a X f ∧ Below w.heap.size w w'
theorem runAt (w : World) (o n : Int) (t : ByteArray) (k : F) (a : Option Addr) (cap : Nat) (fs : List Nat) (h : DocIn w t k a cap fs) (hv : validD o n t k = true) {j : Nat} (hj : j ≤ 200) :
  Calls Try.prog 35 #[.agg #[.int .i64 o, .int .i64 n, .string t, .slice a k.len cap], .int .i64 (j : Int)] w (RunOut w (lyW o n t k j)) := by
 refine (l4Run w (j : Int) o n t k a cap fs h.sub h.lt h.cap_le h.size hv (by omega) (by omega)).mono ?_
 rintro e1 w1 ⟨g, cp, ag, cg, rfl, hrow, _, hb⟩
 have hrow2 := own_lw (j := j) hrow
 obtain ⟨al, cl, gl, hvv, hcl, hsl, hfl⟩ := own_lay hrow2 rfl
 rw [hvv]
 exact ⟨al, cl, gl, _, _, _, rfl, hcl, hsl, hb⟩
def wdI : Option Nat → Int
 | some j => (j : Int)
 | none => -1
theorem l8First (w : World) (o0 n0 : Int) (t0 : ByteArray) (k0 : F) (a0 : Option Addr) (c0 : Nat) (f0 : List Nat) (h0 : DocIn w t0 k0 a0 c0 f0) (hv0 : validD o0 n0 t0 k0 = true) (o1 n1 : Int) (t1 : ByteArray) (k1 : F) (a1 : Option Addr) (c1 : Nat) (f1 : List Nat) (h1 : DocIn w t1 k1 a1 c1 f1) (hv1 : validD o1 n1 t1 k1 = true) :
  Calls Try.prog 59 #[.agg #[.int .i64 o0, .int .i64 n0, .string t0, .slice a0 k0.len c0], .agg #[.int .i64 o1, .int .i64 n1, .string t1, .slice a1 k1.len c1]] w fun e w' => e = .returned (.int .i64 (wdI (fwO o0 n0 t0 k0 o1 n1 t1 k1))) ∧ Below w.heap.size w w' := by
 have hA := fun (j : Nat) (hj : j ≤ 200) (W : World) (e : Ext w W) => runAt W o0 n0 t0 k0 a0 c0 f0 (h0.ext e) hv0 hj
 have hB := fun (j : Nat) (hj : j ≤ 200) (W : World) (e : Ext w W) => runAt W o1 n1 t1 k1 a1 c1 f1 (h1.ext e) hv1 hj
 have HT := Lib.hid (fun (w' : World) => two_new w (.int .i64 o0) (.int .i64 n0) (.string t0) (.slice a0 k0.len c0) (.int .i64 o1) (.int .i64 n1) (.string t1) (.slice a1 k1.len c1) 25 (w' := w'))
 have HE := Lib.hid (show ∀ x y, Ext w ((w.alloc x).alloc y) from fun x y => ((Ext.refl w).alloc x).alloc y)
 obtain ⟨WW, hWW⟩ : ∃ W, ((w.alloc (.cells #[.int .i64 o0, .int .i64 n0, .string t0, .slice a0 k0.len c0] 25)).alloc (.cells #[.int .i64 o1, .int .i64 n1, .string t1, .slice a1 k1.len c1] 25)) = W := ⟨_, rfl⟩
 rw [hWW] at HT
 have HWW := Lib.hid hWW
 obtain ⟨L0, hL0⟩ : ∃ L, k0.len = L := ⟨_, rfl⟩
 obtain ⟨L1, hL1⟩ : ∃ L, k1.len = L := ⟨_, rfl⟩
 rw [hL0] at hA
 rw [hL1] at hB
 rw [hL0, hL1] at HT HWW ⊢
 have hgx := fun j => ly_len (t := t0) (o := o0) (n := n0) (k := k0) hv0 j
 have hgy := fun j => ly_len (t := t1) (o := o1) (n := n1) (k := k1) hv1 j
 have hsome := fun (j : Nat) (hj : j ≤ 200) h2 h3 => (fwO_some (o := o0) (n := n0) (t := t0) (k := k0) (o' := o1) (n' := n1) (t' := t1) (k' := k1) hj h2 h3)
 have hnone := fun h2 => (fwO_none (o := o0) (n := n0) (t := t0) (k := k0) (o' := o1) (n' := n1) (t' := t1) (k' := k1) h2)
 obtain ⟨r, hr⟩ : ∃ r, fwO o0 n0 t0 k0 o1 n1 t1 k1 = r := ⟨_, rfl⟩
 rw [hr] at hsome hnone ⊢
 obtain ⟨X, hX⟩ : ∃ X : Nat → (List (Int × ByteArray)), (fun j => lyW o0 n0 t0 k0 j) = X := ⟨_, rfl⟩
 obtain ⟨Y, hY⟩ : ∃ Y : Nat → (List (Int × ByteArray)), (fun j => lyW o1 n1 t1 k1 j) = Y := ⟨_, rfl⟩
 have hX' : ∀ j, lyW o0 n0 t0 k0 j = X j := fun j => by rw [← hX]
 have hY' : ∀ j, lyW o1 n1 t1 k1 j = Y j := fun j => by rw [← hY]
 simp only [hX'] at hA hgx hsome hnone
 simp only [hY'] at hB hgy hsome hnone
 have HA := Lib.hid hA
 have HB := Lib.hid hB
 have HSM := Lib.hid (fun (j : Nat) (W : World) (x y : Option Addr) (cx cy : Nat) (fx fy : List Nat) (h1 : LaySub W x (X j) fx) (h2 : LaySub W y (Y j) fy) (h3 : (X j).length ≤ cx) (h4 : (Y j).length ≤ cy) => LaySm.specLayoutSame (X j) (Y j) W x cx fx h1 y cy fy h2 h3 h4 (hgx j) (hgy j))
 have HS := Lib.hid hsome
 have HN := Lib.hid hnone
 clear hA hB hgx hgy hsome hnone hX hY hX' hY' hL0 hL1 hr h0 h1 hv0 hv1 hWW
 have hf0 := field0
 go_enter Try.func59, Try.ntmps59
 go_wp2_with fail
 try rw [HWW.out]
 go_loopw [5] (fun i wr => ∃ (j : Nat), j ≤ 201 ∧ i = .int .i64 (j : Int) ∧ Hid (∀ q, q < j → X q = Y q) ∧ Hid (Ext WW wr)) (fun i _ => 201 - (intOf i).toNat)
 case atStart => exact ⟨0, by omega, rfl, Lib.hid (fun q hq => absurd hq (Nat.not_lt_zero q)), Lib.hid (Ext.refl _)⟩
 case round =>
  obtain ⟨j, hj, rfl, HQ, HR⟩ := hrel
  obtain ⟨⟨u0, u1, u2, u3⟩, ⟨v0, v1, v2, v3⟩, hex⟩ := HT.out _ HR.out
  have HX := Lib.hid hex
  have i0 : (0 : Int) ≤ (j : Int) := Int.natCast_nonneg _
  clear hex
  by_cases hjn : j < 201
  ·have i1 : (j : Int) ≤ 200 := by omega
   have HAJ := Lib.hid (HA.out j (by omega))
   have HBJ := Lib.hid (HB.out j (by omega))
   obtain ⟨bb, hbb⟩ : ∃ b, decide (X j = Y j) = b := ⟨_, rfl⟩
   have hsj := HSM.out j
   rw [hbb] at hsj
   obtain ⟨m, hm⟩ : ∃ m, (X j).length = m := ⟨_, rfl⟩
   obtain ⟨m2, hm2⟩ : ∃ m, (Y j).length = m := ⟨_, rfl⟩
   rw [hm, hm2] at hsj
   have HSJ := Lib.hid hsj
   have HM := Lib.hid (And.intro hm hm2)
   have HBB := Lib.hid hbb
   clear hsj hm hm2 hbb
   cases bb
   all_goals
    go_wp2_with fail
    go_region_held3 (fun w' => w'.cell? ⟨w.heap.size, 0, none⟩ = some (.int .i64 o0) ∧ w'.cell? ⟨w.heap.size, 1, none⟩ = some (.int .i64 n0) ∧ w'.cell? ⟨w.heap.size, 2, none⟩ = some (.string t0) ∧ w'.cell? ⟨w.heap.size, 3, none⟩ = some (.slice a0 L0 c0) ∧ w'.cell? ⟨w.heap.size + 1, 0, none⟩ = some (.int .i64 o1) ∧ w'.cell? ⟨w.heap.size + 1, 1, none⟩ = some (.int .i64 n1) ∧ w'.cell? ⟨w.heap.size + 1, 2, none⟩ = some (.string t1) ∧ w'.cell? ⟨w.heap.size + 1, 3, none⟩ = some (.slice a1 L1 c1))
     (first | (go_keep; done) | with_reducible exact eight (HT.out _ q3) | with_reducible exact eight (HT.out _ q2) | with_reducible exact eight (HT.out _ q1))
     (first
      | (go_at_call_of 35 (Value.agg #[.int .i64 o0, .int .i64 n0, .string t0, .slice a0 L0 c0]); refine (HAJ.out _ (by exact HX.out.drew)).mono ?_; rintro e1 w1 ⟨x1, y1, g1, z1, n1', d1, rfl, hc1', hs1, hb1⟩; have q1 : Ext WW w1 := Ext.trans HR.out ((Ext.refl wr).drew.trans hb1); have J1 := Lib.hid (And.intro hs1 hc1'); rw [HM.out.1]; clear hc1' hs1 hb1)
      | (go_at_call_of 35 (Value.agg #[.int .i64 o1, .int .i64 n1, .string t1, .slice a1 L1 c1]); refine (HBJ.out _ (by exact (HT.out _ q1).2.2)).mono ?_; rintro e2 w2 ⟨x2, y2, g2, z2, n2', d2, rfl, hc2', hs2, hb2⟩; have q2 : Ext WW w2 := q1.trans hb2; have J2 := Lib.hid (And.intro hs2 (And.intro hc2' (J1.out.1.below J1.out.1.lt hb2))); rw [HM.out.2]; clear hc2' hs2 hb2)
      | (go_at_call 92; refine (HSJ.out _ _ _ _ _ _ _ (by exact J2.out.2.2) (by exact J2.out.1) (by have := J1.out.2; have := HM.out.1; omega) (by have := J2.out.2.1; have := HM.out.2; omega)).mono ?_; rintro e3 w3 ⟨rfl, hb3⟩; have q3 : Ext WW w3 := q2.trans hb3))
    go_wp2_with fail
   ·have hne : X j ≠ Y j := of_decide_eq_false HBB.out
    have e := HS.out j (by omega) HQ.out hne
    go_ret
    exact ⟨by rw [e]; rfl, (HT.out _ q3).2.2⟩
   ·have heq : X j = Y j := of_decide_eq_true HBB.out
    have HXY := Lib.hid heq
    clear heq
    go_roundw
    case rel => exact ⟨j + 1, by omega, by go_num, Lib.hid (fun q hq => by
     by_cases hqj : q < j
     ·exact HQ.out q hqj
     ·obtain rfl : j = q := by omega
      exact HXY.out), Lib.hid q3⟩
    case measure => simp [intOf]; omega
  ·obtain rfl : 201 = j := by omega
   have e := HN.out fun q hq => HQ.out q (by omega)
   have HXY := Lib.hid e
   clear e
   go_wp2_with fail
   go_ret
   exact ⟨by rw [HXY.out]; rfl, HX.out⟩
theorem specFirstWidth (w : World) (o0 n0 : Int) (t0 : ByteArray) (k0 : F) (a0 : Option Addr) (c0 : Nat) (f0 : List Nat) (h0 : DocIn w t0 k0 a0 c0 f0) (o1 n1 : Int) (t1 : ByteArray) (k1 : F) (a1 : Option Addr) (c1 : Nat) (f1 : List Nat) (h1 : DocIn w t1 k1 a1 c1 f1) :
  Calls Try.prog 27 #[.agg #[.int .i64 o0, .int .i64 n0, .string t0, .slice a0 k0.len c0], .agg #[.int .i64 o1, .int .i64 n1, .string t1, .slice a1 k1.len c1]] w fun e w' => e = .returned (.tuple #[.int .i64 (fwR o0 n0 t0 k0 o1 n1 t1 k1).1, .bool (fwR o0 n0 t0 k0 o1 n1 t1 k1).2]) ∧ Below w.heap.size w w' := by
 have hA := fun (W : World) (e : Ext w W) => SpecC.docValid W o0 n0 t0 k0 a0 c0 f0 (h0.ext e).sub (h0.ext e).lt (h0.ext e).cap_le (by have := h0.size; omega) h0.fits h0.tfit
 have hB := fun (W : World) (e : Ext w W) => SpecC.docValid W o1 n1 t1 k1 a1 c1 f1 (h1.ext e).sub (h1.ext e).lt (h1.ext e).cap_le (by have := h1.size; omega) h1.fits h1.tfit
 have hF := fun (hv0 : validD o0 n0 t0 k0 = true) (hv1 : validD o1 n1 t1 k1 = true) (W : World) (e : Ext w W) => l8First W o0 n0 t0 k0 a0 c0 f0 (h0.ext e) hv0 o1 n1 t1 k1 a1 c1 f1 (h1.ext e) hv1
 have HT := Lib.hid (fun (w' : World) => two_new w (.int .i64 o0) (.int .i64 n0) (.string t0) (.slice a0 k0.len c0) (.int .i64 o1) (.int .i64 n1) (.string t1) (.slice a1 k1.len c1) 25 (w' := w'))
 have HE := Lib.hid (show ∀ x y, Ext w ((w.alloc x).alloc y) from fun x y => ((Ext.refl w).alloc x).alloc y)
 obtain ⟨WW, hWW⟩ : ∃ W, ((w.alloc (.cells #[.int .i64 o0, .int .i64 n0, .string t0, .slice a0 k0.len c0] 25)).alloc (.cells #[.int .i64 o1, .int .i64 n1, .string t1, .slice a1 k1.len c1] 25)) = W := ⟨_, rfl⟩
 rw [hWW] at HT
 have HWW := Lib.hid hWW
 obtain ⟨L0, hL0⟩ : ∃ L, k0.len = L := ⟨_, rfl⟩
 obtain ⟨L1, hL1⟩ : ∃ L, k1.len = L := ⟨_, rfl⟩
 rw [hL0] at hA hF
 rw [hL1] at hB hF
 rw [hL0, hL1] at HT HWW ⊢
 have HX0 := Lib.hid (show Ext w WW by rw [← hWW]; exact HE.out _ _)
 clear hWW
 cases hp0 : validD o0 n0 t0 k0 with
 | false =>
   rw [fwR_no (by rw [hp0]; rfl)]
   rw [hp0] at hA
   have HA := Lib.hid hA
   clear hA hB hF hp0 hL0 hL1 h0 h1
   go_enter Try.func27, Try.ntmps27
   go_wp2_with fail
   try rw [HWW.out]
   refine (HA.out _ HX0.out).mono ?_
   rintro e1 w1 ⟨rfl, hb1⟩
   have K1 := Lib.hid (Ext.trans HX0.out hb1)
   clear hb1
   go_wp2_with fail
   go_ret2
   exact ⟨rfl, K1.out⟩
 | true =>
   cases hp1 : validD o1 n1 t1 k1 with
   | false =>
     rw [fwR_no (by rw [hp0, hp1]; rfl)]
     rw [hp0] at hA
     rw [hp1] at hB
     have HA := Lib.hid hA
     have HB := Lib.hid hB
     clear hA hB hF hp0 hp1 hL0 hL1 h0 h1
     go_enter Try.func27, Try.ntmps27
     go_wp2_with fail
     try rw [HWW.out]
     refine (HA.out _ HX0.out).mono ?_
     rintro e1 w1 ⟨rfl, hb1⟩
     have K1 := Lib.hid (show Ext WW w1 from hb1)
     clear hb1
     obtain ⟨⟨u0, u1, u2, u3⟩, ⟨v0, v1, v2, v3⟩, hex⟩ := HT.out _ K1.out
     have HX1 := Lib.hid hex
     clear hex
     go_wp2_with fail
     refine (HB.out _ HX1.out).mono ?_
     rintro e2 w2 ⟨rfl, hb2⟩
     have K2 := Lib.hid (Ext.trans HX1.out hb2)
     clear hb2
     go_wp2_with fail
     go_ret2
     exact ⟨rfl, K2.out⟩
   | true =>
     have hF := hF hp0 hp1
     have hr : fwR o0 n0 t0 k0 o1 n1 t1 k1 = match fwO o0 n0 t0 k0 o1 n1 t1 k1 with | some j => ((j : Int), true) | none => (0, false) := by unfold fwR; rw [if_pos (by rw [hp0, hp1]; rfl)]
     rw [hr]
     rw [hp0] at hA
     rw [hp1] at hB
     have hlt : ∀ j, fwO o0 n0 t0 k0 o1 n1 t1 k1 = some j → j < 201 := fun j hj => by unfold fwO at hj; rw [List.find?_range_eq_some] at hj; simpa using hj.2.1
     obtain ⟨r, hrr⟩ : ∃ r, fwO o0 n0 t0 k0 o1 n1 t1 k1 = r := ⟨_, rfl⟩
     rw [hrr] at hF hlt ⊢
     have HA := Lib.hid hA
     have HB := Lib.hid hB
     have HLT := Lib.hid hlt
     clear hA hB hp0 hp1 hL0 hL1 h0 h1 hr hrr hlt
     cases r with
     | none =>
       rw [show wdI none = -1 from rfl] at hF
       have HF := Lib.hid hF
       clear hF
       go_enter Try.func27, Try.ntmps27
       go_wp2_with fail
       try rw [HWW.out]
       refine (HA.out _ HX0.out).mono ?_
       rintro e1 w1 ⟨rfl, hb1⟩
       have K1 := Lib.hid (show Ext WW w1 from hb1)
       clear hb1
       obtain ⟨⟨u0, u1, u2, u3⟩, ⟨v0, v1, v2, v3⟩, hex⟩ := HT.out _ K1.out
       have HX1 := Lib.hid hex
       clear hex
       go_wp2_with fail
       refine (HB.out _ HX1.out).mono ?_
       rintro e2 w2 ⟨rfl, hb2⟩
       have K2 := Lib.hid (show Ext WW w2 from Ext.trans K1.out hb2)
       clear hb2 u0 u1 u2 u3 v0 v1 v2 v3
       obtain ⟨⟨u0, u1, u2, u3⟩, ⟨v0, v1, v2, v3⟩, hex⟩ := HT.out _ K2.out
       have HX2 := Lib.hid hex
       clear hex
       go_wp2_with fail
       refine (HF.out _ HX2.out).mono ?_
       rintro e3 w3 ⟨rfl, hb3⟩
       have K3 := Lib.hid (Ext.trans HX2.out hb3)
       clear hb3
       go_wp2_with fail
       go_ret2
       exact ⟨rfl, K3.out⟩
     | some j =>
       rw [show wdI (some j) = (j : Int) from rfl] at hF
       have HF := Lib.hid hF
       have i0 : (0 : Int) ≤ (j : Int) := Int.natCast_nonneg _
       have i1 : ¬ ((j : Int) < 0) := by omega
       clear hF
       go_enter Try.func27, Try.ntmps27
       go_wp2_with fail
       try rw [HWW.out]
       refine (HA.out _ HX0.out).mono ?_
       rintro e1 w1 ⟨rfl, hb1⟩
       have K1 := Lib.hid (show Ext WW w1 from hb1)
       clear hb1
       obtain ⟨⟨u0, u1, u2, u3⟩, ⟨v0, v1, v2, v3⟩, hex⟩ := HT.out _ K1.out
       have HX1 := Lib.hid hex
       clear hex
       go_wp2_with fail
       refine (HB.out _ HX1.out).mono ?_
       rintro e2 w2 ⟨rfl, hb2⟩
       have K2 := Lib.hid (show Ext WW w2 from Ext.trans K1.out hb2)
       clear hb2 u0 u1 u2 u3 v0 v1 v2 v3
       obtain ⟨⟨u0, u1, u2, u3⟩, ⟨v0, v1, v2, v3⟩, hex⟩ := HT.out _ K2.out
       have HX2 := Lib.hid hex
       clear hex
       go_wp2_with fail
       refine (HF.out _ HX2.out).mono ?_
       rintro e3 w3 ⟨rfl, hb3⟩
       have K3 := Lib.hid (Ext.trans HX2.out hb3)
       clear hb3
       go_wp2_with fail
       go_ret2
       exact ⟨rfl, K3.out⟩
end Go.Proofs.Ytjcaiecapapceaa.Eqd
