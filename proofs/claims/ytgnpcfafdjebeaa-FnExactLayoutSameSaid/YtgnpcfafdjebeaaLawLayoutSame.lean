/-
  For every two lists of lines that can be read as data, LayoutSame of the program answers as LayoutSame of the model and changes nothing of its arguments: the law FnExactLayoutSame returns true, and its arguments read as they did. No condition of ours.
-/
import Derived.Test.YtgnpcfafdjebeaaOpenL
import Derived.Test.YtgnpcfafdjebeaaLayL
import Derived.Test.YtgnpcfafdjebeaaLaySm
import Derived.Test.YtgnpcfafdjebeaaLawKit
import Derived.Test.YtgnpcfafdjebeaaFacts
import Derived.Test.YtgnpcfafdjebeaaRows
set_option linter.unusedVariables false
set_option linter.unusedSimpArgs false
namespace Go.Proofs.Ytgnpcfafdjebeaa.lawLayoutSame
open Go.ChangeShapes Go.WideShapes Go.ChangeAt Go.RowKit P1

set_option maxRecDepth 100000 in
set_option maxHeartbeats 1600000 in
theorem walk_big0 (w : World) (l0 : List (Int × ByteArray)) (a0 : Option Addr) (c0 : Nat) (f0 : List Nat) (l1 : List (Int × ByteArray)) (a1 : Option Addr) (c1 : Nat) (f1 : List Nat) (hs0 : LaySub w a0 l0 f0) (hc0 : l0.length ≤ c0) (hl0 : l0.length ≤ maxLen) (ht0 : L.Fits l0) (hs1 : LaySub w a1 l1 f1) (hc1 : l1.length ≤ c1) (hl1 : l1.length ≤ maxLen) (ht1 : L.Fits l1)  (hbig : 1048576 < (L.size l0 : Int)) :
    Calls Try.prog 16 #[.slice a0 l0.length c0, .slice a1 l1.length c1] w fun e w' => e = .returned (.bool true) ∧ Below w.heap.size w w' := by
  have hsz0 := fun (w1 : World) (h1 : Ext w w1) => LayL.szRowS l0 w1 a0 c0 f0 1048576 (hs0.below hs0.lt h1) hc0 hl0 ht0 (by omega) (by omega)
  rw [leftR_no hbig] at hsz0
  have HSZ0 := Lib.hid hsz0
  clear hsz0 hbig hs0 hc0 hl0 ht0 hs1 hc1 hl1 ht1 
  go_enter Try.func16, Try.ntmps16
  go_wp2_with fail
  refine (HSZ0.out _ (Ext.refl w)).mono ?_
  rintro e1 w1 ⟨rfl, hb1⟩
  have H1 := Lib.hid (show Ext w w1 from hb1)
  clear hb1
  go_wp2_with fail
  go_ret
  exact ⟨rfl, H1.out⟩

set_option maxRecDepth 100000 in
set_option maxHeartbeats 1600000 in
theorem walk_big1 (w : World) (l0 : List (Int × ByteArray)) (a0 : Option Addr) (c0 : Nat) (f0 : List Nat) (l1 : List (Int × ByteArray)) (a1 : Option Addr) (c1 : Nat) (f1 : List Nat) (hs0 : LaySub w a0 l0 f0) (hc0 : l0.length ≤ c0) (hl0 : l0.length ≤ maxLen) (ht0 : L.Fits l0) (hs1 : LaySub w a1 l1 f1) (hc1 : l1.length ≤ c1) (hl1 : l1.length ≤ maxLen) (ht1 : L.Fits l1) (z0 : Int) (hz0 : 1048576 - (L.size l0 : Int) = z0) (hzn0 : 0 ≤ z0) (hbig : z0 < (L.size l1 : Int)) :
    Calls Try.prog 16 #[.slice a0 l0.length c0, .slice a1 l1.length c1] w fun e w' => e = .returned (.bool true) ∧ Below w.heap.size w w' := by
  have hsz0 := fun (w1 : World) (h1 : Ext w w1) => LayL.szRowS l0 w1 a0 c0 f0 1048576 (hs0.below hs0.lt h1) hc0 hl0 ht0 (by omega) (by omega)
  rw [leftR_yes (by omega), hz0] at hsz0
  have hzq0 : ¬ (z0 < 0) := by omega
  have HSZ0 := Lib.hid hsz0
  have hsz1 := fun (w1 : World) (h1 : Ext w w1) => LayL.szRowS l1 w1 a1 c1 f1 z0 (hs1.below hs1.lt h1) hc1 hl1 ht1 (by omega) (by omega)
  rw [leftR_no hbig] at hsz1
  have HSZ1 := Lib.hid hsz1
  clear hsz0 hsz1 hbig hs0 hc0 hl0 ht0 hs1 hc1 hl1 ht1 hz0
  go_enter Try.func16, Try.ntmps16
  go_wp2_with fail
  refine (HSZ0.out _ (Ext.refl w)).mono ?_
  rintro e1 w1 ⟨rfl, hb1⟩
  have H1 := Lib.hid (show Ext w w1 from hb1)
  clear hb1
  go_wp2_with fail
  refine (HSZ1.out _ H1.out).mono ?_
  rintro e1 w2 ⟨rfl, hb2⟩
  have H2 := Lib.hid (show Ext w w2 from H1.out.trans hb2)
  clear hb2
  go_wp2_with fail
  go_ret
  exact ⟨rfl, H2.out⟩

set_option maxRecDepth 100000 in
set_option maxHeartbeats 3200000 in
theorem walk_good (w : World) (l0 : List (Int × ByteArray)) (a0 : Option Addr) (c0 : Nat) (f0 : List Nat) (l1 : List (Int × ByteArray)) (a1 : Option Addr) (c1 : Nat) (f1 : List Nat) (hs0 : LaySub w a0 l0 f0) (hc0 : l0.length ≤ c0) (hl0 : l0.length ≤ maxLen) (ht0 : L.Fits l0) (hs1 : LaySub w a1 l1 f1) (hc1 : l1.length ≤ c1) (hl1 : l1.length ≤ maxLen) (ht1 : L.Fits l1)  (z0 : Int) (hz0 : 1048576 - (L.size l0 : Int) = z0) (hzn0 : 0 ≤ z0) (z1 : Int) (hz1 : z0 - (L.size l1 : Int) = z1) (hzn1 : 0 ≤ z1) :
    Calls Try.prog 16 #[.slice a0 l0.length c0, .slice a1 l1.length c1] w fun e w' => e = .returned (.bool true) ∧ Below w.heap.size w w' := by
  have hsz0 := fun (w1 : World) (h1 : Ext w w1) => LayL.szRowS l0 w1 a0 c0 f0 1048576 (hs0.below hs0.lt h1) hc0 hl0 ht0 (by omega) (by omega)
  rw [leftR_yes (by omega), hz0] at hsz0
  have hzq0 : ¬ (z0 < 0) := by omega
  have hle0 : l0.length ≤ 1048576 := by unfold L.size at hz0; omega
  have hto0 := fun (w1 : World) (h1 : Ext w w1) => LayL.toRowS l0 w1 a0 c0 f0 (hs0.below hs0.lt h1) hc0 hle0
  have heq0 := fun (w1 : World) (a1 a2 : Option Addr) (f1 f2 : List Nat) (h1 : LaySub w1 a1 l0 f1) (h2 : LaySub w1 a2 l0 f2) => LayL.eqRowS l0 l0 w1 a1 a2 l0.length l0.length f1 f2 h1 h2 (Nat.le_refl _) (Nat.le_refl _) hl0 hl0
  rw [decide_eq_true rfl] at heq0
  have hsz1 := fun (w1 : World) (h1 : Ext w w1) => LayL.szRowS l1 w1 a1 c1 f1 z0 (hs1.below hs1.lt h1) hc1 hl1 ht1 (by omega) (by omega)
  rw [leftR_yes (by omega), hz1] at hsz1
  have hzq1 : ¬ (z1 < 0) := by omega
  have hle1 : l1.length ≤ 1048576 := by unfold L.size at hz1; omega
  have hto1 := fun (w1 : World) (h1 : Ext w w1) => LayL.toRowS l1 w1 a1 c1 f1 (hs1.below hs1.lt h1) hc1 hle1
  have heq1 := fun (w1 : World) (a1 a2 : Option Addr) (f1 f2 : List Nat) (h1 : LaySub w1 a1 l1 f1) (h2 : LaySub w1 a2 l1 f2) => LayL.eqRowS l1 l1 w1 a1 a2 l1.length l1.length f1 f2 h1 h2 (Nat.le_refl _) (Nat.le_refl _) hl1 hl1
  rw [decide_eq_true rfl] at heq1
  have hspec := fun (w1 : World) (b0 : Option Addr) (g0 : List Nat) (h0 : LaySub w1 b0 l0 g0) (b1 : Option Addr) (g1 : List Nat) (h1 : LaySub w1 b1 l1 g1) => LaySm.specAt l0 l1 w1 b0 l0.length g0 h0 (Nat.le_refl _) hl0 ht0 b1 l1.length g1 h1 (Nat.le_refl _) hl1 ht1
  have himpl := fun (w1 : World) (b0 : Option Addr) (g0 : List Nat) (h0 : LaySub w1 b0 l0 g0) (b1 : Option Addr) (g1 : List Nat) (h1 : LaySub w1 b1 l1 g1) => LaySm.implAt l0 l1 w1 b0 l0.length g0 h0 (Nat.le_refl _) hl0 ht0 b1 l1.length g1 h1 (Nat.le_refl _) hl1 ht1
  obtain ⟨v, hv⟩ : ∃ v, decide (l0 = l1) = v := ⟨_, rfl⟩
  rw [hv] at hspec himpl
  have HSP := Lib.hid hspec
  have HIM := Lib.hid himpl
  have HSZ0 := Lib.hid hsz0
  have HTO0 := Lib.hid hto0
  have HEQ0 := Lib.hid heq0
  have HSZ1 := Lib.hid hsz1
  have HTO1 := Lib.hid hto1
  have HEQ1 := Lib.hid heq1
  clear hspec himpl hv hsz0 hto0 heq0 hs0 hc0 hl0 ht0 hz0 hle0 hsz1 hto1 heq1 hs1 hc1 hl1 ht1 hz1 hle1
  have hvv : (v != v) = false := by simp
  go_enter Try.func16, Try.ntmps16
  go_wp2_with fail
  refine (HSZ0.out _ (Ext.refl w)).mono ?_
  rintro e1 w1 ⟨rfl, hb1⟩
  have H1 := Lib.hid (show Ext w w1 from hb1)
  clear hb1
  go_wp2_with fail
  refine (HSZ1.out _ H1.out).mono ?_
  rintro e1 w2 ⟨rfl, hb2⟩
  have H2 := Lib.hid (show Ext w w2 from H1.out.trans hb2)
  clear hb2
  go_wp2_with fail
  refine (HTO0.out _ H2.out).mono ?_
  rintro e1 w3 ⟨p3, q3, rfl, hs, hfr, hb⟩
  have K0s := Lib.hid hs
  have H3 := Lib.hid (H2.out.trans hb)
  clear hs hfr hb
  go_wp2_with fail
  refine (HTO1.out _ H3.out).mono ?_
  rintro e1 w4 ⟨p4, q4, rfl, hs, hfr, hb⟩
  have K0s' := Lib.hid (K0s.out.below K0s.out.lt hb)
  clear K0s
  have K0s := Lib.hid K0s'.out
  clear K0s'
  have K1s := Lib.hid hs
  have H4 := Lib.hid (H3.out.trans hb)
  clear hs hfr hb
  go_wp2_with fail
  refine (HSP.out _ _ _ K0s.out _ _ K1s.out).mono ?_
  rintro e1 w5 ⟨rfl, hb⟩
  have K0s' := Lib.hid (K0s.out.below K0s.out.lt hb)
  clear K0s
  have K0s := Lib.hid K0s'.out
  clear K0s'
  have K1s' := Lib.hid (K1s.out.below K1s.out.lt hb)
  clear K1s
  have K1s := Lib.hid K1s'.out
  clear K1s'
  have H5 := Lib.hid (H4.out.trans hb)
  clear hb
  go_wp2_with fail
  clear K0s
  clear K1s
  refine (HTO0.out _ H5.out).mono ?_
  rintro e1 w6 ⟨p6, q6, rfl, hs, hfr, hb⟩
  have K0x := Lib.hid hs
  have H6 := Lib.hid (H5.out.trans hb)
  clear hs hfr hb
  go_wp2_with fail
  refine (HTO1.out _ H6.out).mono ?_
  rintro e1 w7 ⟨p7, q7, rfl, hs, hfr, hb⟩
  have K0x' := Lib.hid (K0x.out.below K0x.out.lt hb)
  clear K0x
  have K0x := Lib.hid K0x'.out
  clear K0x'
  have K1x := Lib.hid hs
  have H7 := Lib.hid (H6.out.trans hb)
  clear hs hfr hb
  go_wp2_with fail
  refine (HIM.out _ _ _ K0x.out _ _ K1x.out).mono ?_
  rintro e1 w8 ⟨rfl, hb⟩
  have K0x' := Lib.hid (K0x.out.below K0x.out.lt hb)
  clear K0x
  have K0x := Lib.hid K0x'.out
  clear K0x'
  have K1x' := Lib.hid (K1x.out.below K1x.out.lt hb)
  clear K1x
  have K1x := Lib.hid K1x'.out
  clear K1x'
  have H8 := Lib.hid (H7.out.trans hb)
  clear hb
  go_wp2_with fail
  refine (HTO0.out _ H8.out).mono ?_
  rintro e1 w9 ⟨p9, q9, rfl, hs, hfr, hb⟩
  have K0x' := Lib.hid (K0x.out.below K0x.out.lt hb)
  clear K0x
  have K0x := Lib.hid K0x'.out
  clear K0x'
  have K1x' := Lib.hid (K1x.out.below K1x.out.lt hb)
  clear K1x
  have K1x := Lib.hid K1x'.out
  clear K1x'
  have K0y := Lib.hid hs
  have H9 := Lib.hid (H8.out.trans hb)
  clear hs hfr hb
  go_wp2_with fail
  refine (HEQ0.out _ _ _ _ _ K0x.out K0y.out).mono ?_
  rintro e1 w10 ⟨rfl, hb⟩
  have K0x' := Lib.hid (K0x.out.below K0x.out.lt hb)
  clear K0x
  have K0x := Lib.hid K0x'.out
  clear K0x'
  have K1x' := Lib.hid (K1x.out.below K1x.out.lt hb)
  clear K1x
  have K1x := Lib.hid K1x'.out
  clear K1x'
  have K0y' := Lib.hid (K0y.out.below K0y.out.lt hb)
  clear K0y
  have K0y := Lib.hid K0y'.out
  clear K0y'
  have H10 := Lib.hid (H9.out.trans hb)
  clear hb
  go_wp2_with fail
  clear K0y
  refine (HTO1.out _ H10.out).mono ?_
  rintro e1 w11 ⟨p11, q11, rfl, hs, hfr, hb⟩
  have K0x' := Lib.hid (K0x.out.below K0x.out.lt hb)
  clear K0x
  have K0x := Lib.hid K0x'.out
  clear K0x'
  have K1x' := Lib.hid (K1x.out.below K1x.out.lt hb)
  clear K1x
  have K1x := Lib.hid K1x'.out
  clear K1x'
  have K1y := Lib.hid hs
  have H11 := Lib.hid (H10.out.trans hb)
  clear hs hfr hb
  go_wp2_with fail
  refine (HEQ1.out _ _ _ _ _ K1x.out K1y.out).mono ?_
  rintro e1 w12 ⟨rfl, hb⟩
  have K0x' := Lib.hid (K0x.out.below K0x.out.lt hb)
  clear K0x
  have K0x := Lib.hid K0x'.out
  clear K0x'
  have K1x' := Lib.hid (K1x.out.below K1x.out.lt hb)
  clear K1x
  have K1x := Lib.hid K1x'.out
  clear K1x'
  have K1y' := Lib.hid (K1y.out.below K1y.out.lt hb)
  clear K1y
  have K1y := Lib.hid K1y'.out
  clear K1y'
  have H12 := Lib.hid (H11.out.trans hb)
  clear hb
  go_wp2_with fail
  clear K1y
  go_ret
  exact ⟨rfl, H12.out⟩

theorem walk (w : World) (l0 : List (Int × ByteArray)) (a0 : Option Addr) (c0 : Nat) (f0 : List Nat) (l1 : List (Int × ByteArray)) (a1 : Option Addr) (c1 : Nat) (f1 : List Nat) (hs0 : LaySub w a0 l0 f0) (hc0 : l0.length ≤ c0) (hl0 : l0.length ≤ maxLen) (ht0 : L.Fits l0) (hs1 : LaySub w a1 l1 f1) (hc1 : l1.length ≤ c1) (hl1 : l1.length ≤ maxLen) (ht1 : L.Fits l1)  :
    Calls Try.prog 16 #[.slice a0 l0.length c0, .slice a1 l1.length c1] w fun e w' => e = .returned (.bool true) ∧ Below w.heap.size w w' := by
  by_cases h0 : (1048576 : Int) < (L.size l0 : Int)
  · exact walk_big0 w l0 a0 c0 f0 l1 a1 c1 f1 hs0 hc0 hl0 ht0 hs1 hc1 hl1 ht1  h0
  · by_cases h1 : (1048576 : Int) - (L.size l0 : Int) < (L.size l1 : Int)
    · exact walk_big1 w l0 a0 c0 f0 l1 a1 c1 f1 hs0 hc0 hl0 ht0 hs1 hc1 hl1 ht1 _ rfl (by omega) h1
    ·
      exact walk_good w l0 a0 c0 f0 l1 a1 c1 f1 hs0 hc0 hl0 ht0 hs1 hc1 hl1 ht1  _ rfl (by omega) _ rfl (by omega)

set_option maxRecDepth 100000 in
theorem lifted (os : Os) (started : os.Started) (H : Type) (enc : TypeId × Value → H) :
    ReturnsInHanded {} Try.checked os 16 .any (Rows.fnExactLayoutSameSpec.pre6 enc Try.prog Try.f16 Rows.fnExactLayoutSameRow.domain false) (Rows.fnExactLayoutSameSpec.post enc Try.prog Try.f16 false true false false) := by
  refine returnsInHanded_of_change (C := Try.checked) Facts.own started (by kernel_rfl) Try.func16
    (ChangeSpec.witness6 (enc := enc) (C := Try.checked) false ⟨#[], #[.slice none 0 0, .slice none 0 0], []⟩ 8 (by kernel_rfl) (by kernel_rfl) (by kernel_rfl) (by kernel_rfl)) ?_
  intro W base args ds gs before hval0 hW hcnd0 _
  clear hcnd0
  have hval : ∀ (j : Nat) t v, Try.f16.params[j]? = some t → args[j]? = some v → Value.okWide Try.prog W .any base t v := hval0
  have hW' := hW
  obtain ⟨p, q, hA0, hV, rfl, hfz, hnd⟩ := hW
  have hA : DataW.TrodAll enc Try.prog W 0 (fun _ => true) true Try.f16.params.toList args.toList ds p := hA0
  rw [Try.params16] at hA hval
  obtain ⟨v0, v1, d0, d1, p0, p1, rfl, rfl, rfl, h0, h1⟩ := trodAll_two hA
  obtain ⟨rfl, rfl⟩ := trodVars_none hV
  obtain ⟨l0, a0, c0, f0, rfl, ht0, hl0, hc0, hs0⟩ := OpenL.open_rows (hval 0 50 v0 rfl rfl) h0
  obtain ⟨l1, a1, c1, f1, rfl, ht1, hl1, hc1, hs1⟩ := OpenL.open_rows (hval 1 50 v1 rfl rfl) h1
  clear hA0 hval0
  simp only [List.append_nil] at hW'
  have hlt : ∀ x ∈ p0 ++ p1, x.block < W.heap.size := fun x hx => by simpa using hW'.lt x hx
  refine (walk W l0 a0 c0 f0 l1 a1 c1 f1 hs0 hc0 hl0 ht0 hs1 hc1 hl1 ht1 ).mono fun e W' ⟨he, hb⟩ => ?_
  subst he
  refine ⟨_, rfl, [d0, d1], [], p0 ++ p1, [], p0 ++ p1, [], hW', trodAll_mk1 (shut_bool Try.underlying4 _), ?_, rfl, hb.frame _, fun h => by cases h⟩
  exact trodAll_mk2 (Below.trod Facts.laidOut (by kernel_rfl) (of_decide_eq_true (by kernel_rfl)) h0 hb (fun x hx => hlt x (List.mem_append_left _ hx))) (Below.trod Facts.laidOut (by kernel_rfl) (of_decide_eq_true (by kernel_rfl)) h1 hb (fun x hx => hlt x (List.mem_append_right _ hx)))

theorem named : Try.prog.funcNamed Rows.fnExactLayoutSameRow.func = some 16 := by kernel_rfl
theorem closed : joinedFacts Try.prog 16 Try.f16 Rows.fnExactLayoutSameSpec Rows.fnExactLayoutSameRow = true :=
  Facts.closed_of rfl rfl rfl rfl (h28b := rfl) (by kernel_rfl) (by kernel_rfl) (by kernel_rfl) (by kernel_rfl) (by kernel_rfl) (by kernel_rfl) (by kernel_rfl) (by kernel_rfl) (by kernel_rfl) (by kernel_rfl) (by kernel_rfl) (by kernel_rfl) (by kernel_rfl) (by kernel_rfl) (by kernel_rfl) (by kernel_rfl) (by kernel_rfl) (by kernel_rfl) (by kernel_rfl) (by kernel_rfl) (by kernel_rfl) (by kernel_rfl) (by kernel_rfl) (by kernel_rfl)
theorem instanced : Try.f16.isInstance Try.prog Rows.fnExactLayoutSameRow.origin Rows.fnExactLayoutSameRow.targs := of_decide_eq_true (by kernel_rfl)
theorem wrapped : Try.f16.isWrapper Try.prog Rows.fnExactLayoutSameRow.wrapper Rows.fnExactLayoutSameRow.mainSum := by
  unfold Func.isWrapper
  rw [if_neg (of_decide_eq_false (by kernel_rfl))]
  exact ⟨rfl, rfl⟩

theorem holds : Rows.FnExactLayoutSameSaid :=
  OpenClaim.holds_of_wide 16 Try.f16 rfl rfl rfl rfl rfl rfl rfl ⟨rfl, rfl, rfl, rfl, rfl⟩ rfl rfl rfl rfl rfl named Try.func16 closed instanced wrapped
    (fun os started H enc _ => lifted os started H enc)

end Go.Proofs.Ytgnpcfafdjebeaa.lawLayoutSame
