import Derived.Test.YtpiaiandjnpdfaaDrV
import Derived.Test.YtpiaiandjnpdfaaDocL
import Derived.Test.YtpiaiandjnpdfaaDrZ
import Derived.Test.YtpiaiandjnpdfaaFacts
import Derived.Test.YtpiaiandjnpdfaaRows
import Derived.Deep.RegionHeld3
import Derived.Deep.DeepCutAuto
import Derived.Deep.RegionWith
/-
  Choices have layouts: the law FnLayoutsOf returns true for whatever draws, and its argument reads as it did. No condition of ours.
-/
set_option linter.unusedVariables false
set_option linter.unusedSimpArgs false
namespace Go.Proofs.Ytpiaiandjnpdfaa.lawLayoutsOf
open Go.ChangeShapes Go.WideShapes Go.ChangeAt Go.RowKit P1 Draw6 LawC CntC DocK OpenR LayN ChP 

set_option maxRecDepth 100000 in
set_option maxHeartbeats 6400000 in
theorem walk_good (w : World) (a0 : Option Addr) (len0 cap0 : Nat) (hb0 : Bytes w a0 len0) (hlc0 : len0 ≤ cap0) (hcm0 : cap0 ≤ maxLen) (hl0 : len0 ≤ 1048576) :
    Calls Try.prog 3 #[.slice a0 len0 cap0] w fun e w' => e = .returned (.bool true) ∧ Ext w w' := by
  have HD0 := Lib.hid (DrN.drawLayoutsOf w a0 len0 cap0 hb0 hlc0 hcm0)
  clear hb0
  unfold maxLen at hcm0
  go_enter Try.func3, Try.ntmps3
  go_wp2_with fail
  refine HD0.out.mono ?_
  rintro e1 w1 ⟨o, n, t, k, a, cap, fs, rfl, hc, hsz, hsub, hfr, hb1⟩
  have D1 := Lib.hid (show DocK.Doc0 w1 n t k a cap fs from ⟨hsub, fun c hc => (hfr.2 c hc).2, hc, by omega⟩)
  have E1 := Lib.hid (show Ext w w1 from hb1)
  have hkl : k.len ≤ 100000 := D1.out.len
  clear hsub hfr hb1
  obtain ⟨X, hX⟩ : ∃ X, It.laysD o n t k = X := ⟨_, rfl⟩
  obtain ⟨V, hV⟩ : ∃ V, It.toldD o n t k = V := ⟨_, rfl⟩
  have HSZ := Lib.hid hsz
  have HXV := Lib.hid (And.intro hX hV)
  have HXI := Lib.hid (show ∀ W : World, Ext w1 W → Calls Try.prog 15 #[.agg #[.int .i64 o, .int .i64 n, .string t, .slice a k.len cap]] W (DocL.LOut W X V) from fun W e => by have h := DocL.implLays (D1.out.ext e) o; rw [hX, hV] at h; exact h)
  have HXS := Lib.hid (show ∀ W : World, Ext w1 W → Calls Try.prog 16 #[.agg #[.int .i64 o, .int .i64 n, .string t, .slice a k.len cap]] W (DocL.LOut W X V) from fun W e => by have h := DocL.specLays (D1.out.ext e) o; rw [hX, hV] at h; exact h)
  clear hc hsz hX hV
  go_wp2_with fail
  refine (HXI.out _ ((Ext.refl w1).alloc _)).mono ?_
  rintro e2 w2 ⟨pa, ca, rfl, hlay, hb⟩
  have X2 := Lib.hid (box4 (box_new w1 _ _ _ _ _) (by simp) hb)
  have E2 := Lib.hid (((Ext.refl w1).alloc _).trans hb)
  have L2 := Lib.hid (show w1.heap.size < w2.heap.size from by have := hb.size; simp at this; omega)
  try clear x0 x1 x2 x3 l
  have Ka := Lib.hid hlay
  clear hlay
  clear hb
  obtain ⟨x0, x1, x2, x3⟩ := X2.out
  have l := L2.out
  go_wp2_with fail
  refine (HXS.out _ E2.out).mono ?_
  rintro e3 w3 ⟨pb, cb, rfl, hlay, hb⟩
  have X3 := Lib.hid (box4 X2.out L2.out hb)
  have E3 := Lib.hid (E2.out.trans hb)
  have L3 := Lib.hid (Nat.lt_of_lt_of_le L2.out hb.size)
  try clear x0 x1 x2 x3 l
  replace Ka := Lib.hid (Ka.out.ext hb)
  have Kb := Lib.hid hlay
  clear hlay
  clear hb
  obtain ⟨x0, x1, x2, x3⟩ := X3.out
  have l := L3.out
  go_wp2_with fail
  refine (DocL.daSame Ka.out Kb.out).mono ?_
  rintro e4 w4 ⟨rfl, hb⟩
  have X4 := Lib.hid (box4 X3.out L3.out hb)
  have E4 := Lib.hid (E3.out.trans hb)
  have L4 := Lib.hid (Nat.lt_of_lt_of_le L3.out hb.size)
  try clear x0 x1 x2 x3 l
  replace Ka := Lib.hid (Ka.out.ext hb)
  replace Kb := Lib.hid (Kb.out.ext hb)
  clear hb
  obtain ⟨x0, x1, x2, x3⟩ := X4.out
  have l := L4.out
  cases V with
  | false =>
    go_wp2_with fail
    refine (DocL.daSame Ka.out Kb.out).mono ?_
    rintro e5 w5 ⟨rfl, hb⟩
    have X5 := Lib.hid (box4 X4.out L4.out hb)
    have E5 := Lib.hid (E4.out.trans hb)
    have L5 := Lib.hid (Nat.lt_of_lt_of_le L4.out hb.size)
    try clear x0 x1 x2 x3 l
    replace Ka := Lib.hid (Ka.out.ext hb)
    replace Kb := Lib.hid (Kb.out.ext hb)
    clear hb
    obtain ⟨x0, x1, x2, x3⟩ := X5.out
    have l := L5.out
    go_wp2_with fail
    go_ret
    exact ⟨by first | rfl | simp, E1.out.trans E5.out⟩
  | true =>
    obtain ⟨hX, hV⟩ := HXV.out
    have hVm : manyD o n t k = true := (It.told_parts hV).2.2.2
    obtain ⟨M, hM⟩ : ∃ M : Nat, X.length = M := ⟨_, rfl⟩
    have hct : ctD o k = M := by rw [← hM, ← hX, It.lays_yes hV, It.upto_len]
    have hM1 : 1 ≤ M := by rw [← hct]; exact ctD_pos o k
    have hM3 : M ≤ 300 := by rw [← hM]; exact Ka.out.few
    have hM1i : 1 ≤ (M : Int) := by omega
    have hcc : ChS.ccN o n t k = (M : Int) := by rw [ChS.ccN, hVm, hct]; rfl
    have HM := Lib.hid hM
    have HC := Lib.hid (show ∀ W : World, Ext w1 W → Calls Try.prog 18 #[.agg #[.int .i64 o, .int .i64 n, .string t, .slice a k.len cap]] W (fun e w' => e = .returned (.tuple #[.int .i64 (M : Int), .bool true]) ∧ Ext W w') from fun W e => by have h := DocC.implCount (D1.out.ext e) o; rw [hcc, hVm] at h; exact h)
    have HCH := Lib.hid (show ∀ (j : Nat) (hj : j < X.length) (W : World), Ext w1 W → Calls Try.prog 19 #[.agg #[.int .i64 o, .int .i64 n, .string t, .slice a k.len cap], .int .i64 (j : Int)] W (DocO.Out W X[j] true) from fun j hj W e => by
      have h := DocC.implChoice (D1.out.ext e) o (j : Int)
      have hxj : X[j] = pkD o n t k j := by
        subst hX
        simp only [It.lays_yes hV, It.upto, List.getElem_map, List.getElem_range]
      rw [chR_yes hVm (Int.natCast_nonneg _) (by rw [hct, ← hM]; exact Int.ofNat_lt.2 hj)] at h
      rw [hxj]
      simpa using h)
    clear hVm hct hcc hX hV
    go_wp2_with fail
    refine (HC.out _ E4.out).mono ?_
    rintro e5 w5 ⟨rfl, hb⟩
    have X5 := Lib.hid (box4 X4.out L4.out hb)
    have E5 := Lib.hid (E4.out.trans hb)
    have L5 := Lib.hid (Nat.lt_of_lt_of_le L4.out hb.size)
    try clear x0 x1 x2 x3 l
    replace Ka := Lib.hid (Ka.out.ext hb)
    replace Kb := Lib.hid (Kb.out.ext hb)
    clear hb
    obtain ⟨x0, x1, x2, x3⟩ := X5.out
    have l := L5.out
    try rw [hM]
    clear hM
    go_wp2_with fail
    go_loopw [10] (fun i wr => ∃ j : Nat, j ≤ M ∧ i = .int .i64 (j : Int) ∧ Ext w5 wr) (fun i _ => M - (intOf i).toNat)
    case atStart => exact ⟨0, by omega, rfl, Ext.refl _⟩
    case round =>
      obtain ⟨j, hj, rfl, hext⟩ := hrel
      obtain ⟨w20, hwm⟩ : ∃ W, W = wr := ⟨_, rfl⟩
      subst hwm
      have X20 := Lib.hid (box4 X5.out L5.out hext)
      have E20 := Lib.hid (E5.out.trans hext)
      have L20 := Lib.hid (Nat.lt_of_lt_of_le L5.out hext.size)
      have R := Lib.hid hext
      have RH := Lib.hid (Ext.refl w20)
      try clear x0 x1 x2 x3 l
      replace Ka := Lib.hid (Ka.out.ext hext)
      replace Kb := Lib.hid (Kb.out.ext hext)
      clear hext
      obtain ⟨x0, x1, x2, x3⟩ := X20.out
      have l := L20.out
      by_cases hjM : j < M
      · have hjl : j < X.length := by rw [HM.out]; exact hjM
        have i0 : (0 : Int) ≤ (j : Int) := Int.natCast_nonneg _
        have i1 : (j : Int) < (M : Int) := by omega
        have HCJ := Lib.hid (HCH.out j hjl)
        have HLV := Lib.hid (Ka.out.good _ (List.getElem_mem hjl))
        obtain ⟨b0, of0, a1, c1, rfl, hbl, hcell, hel⟩ := Ka.out.get hjl
        obtain ⟨Y, hY⟩ : ∃ Y, X[j] = Y := ⟨_, rfl⟩
        rw [hY] at HCJ HLV hcell hel
        have HCEL := Lib.hid (fun (W : World) (e : Ext w20 W) => (e.cell hbl).trans hcell)
        have Ke := Lib.hid hel
        clear hbl hcell hel hY
        go_wp2_with fail
        refine (HCJ.out _ E20.out).mono ?_
        rintro e21 w21 ⟨pd, cd, rfl, hlay, hb⟩
        have X21 := Lib.hid (box4 X20.out L20.out hb)
        have E21 := Lib.hid (E20.out.trans hb)
        have L21 := Lib.hid (Nat.lt_of_lt_of_le L20.out hb.size)
        try clear x0 x1 x2 x3 l
        replace Ka := Lib.hid (Ka.out.ext hb)
        replace Kb := Lib.hid (Kb.out.ext hb)
        replace Ke := Lib.hid (Ke.out.ext hb)
        replace R := Lib.hid (R.out.trans hb)
        replace RH := Lib.hid (RH.out.trans hb)
        have Kd := Lib.hid hlay
        clear hlay
        clear hb
        obtain ⟨x0, x1, x2, x3⟩ := X21.out
        have l := L21.out
        have hcell := HCEL.out _ RH.out
        go_wp2_with fail
        refine (DocO.LayIs.same Kd.out Ke.out).mono ?_
        rintro e22 w22 ⟨rfl, hb⟩
        have X22 := Lib.hid (box4 X21.out L21.out hb)
        have E22 := Lib.hid (E21.out.trans hb)
        have L22 := Lib.hid (Nat.lt_of_lt_of_le L21.out hb.size)
        try clear x0 x1 x2 x3 l
        replace Ka := Lib.hid (Ka.out.ext hb)
        replace Kb := Lib.hid (Kb.out.ext hb)
        replace Ke := Lib.hid (Ke.out.ext hb)
        replace Kd := Lib.hid (Kd.out.ext hb)
        replace R := Lib.hid (R.out.trans hb)
        replace RH := Lib.hid (RH.out.trans hb)
        clear hb
        clear hcell
        go_wp2_with fail
        refine (DocO.LayIs.valid Kd.out).mono ?_
        rintro e23 w23 ⟨rfl, hb⟩
        have X23 := Lib.hid (box4 X22.out L22.out hb)
        have E23 := Lib.hid (E22.out.trans hb)
        have L23 := Lib.hid (Nat.lt_of_lt_of_le L22.out hb.size)
        try clear x0 x1 x2 x3 l
        replace Ka := Lib.hid (Ka.out.ext hb)
        replace Kb := Lib.hid (Kb.out.ext hb)
        replace Ke := Lib.hid (Ke.out.ext hb)
        replace Kd := Lib.hid (Kd.out.ext hb)
        replace R := Lib.hid (R.out.trans hb)
        replace RH := Lib.hid (RH.out.trans hb)
        clear hb
        have hlv := HLV.out
        go_wp2_with fail
        go_roundw
        case rel => exact ⟨j + 1, by omega, by go_num, R.out⟩
        case measure => simp [intOf]; omega
      · obtain rfl : j = M := by omega
        go_wp2_with fail
        go_ret
        exact ⟨by first | rfl | simp [hM1i] | simp, E1.out.trans E20.out⟩

set_option maxHeartbeats 400000 in
theorem walk_big (w : World) (a0 : Option Addr) (len0 cap0 : Nat) (hl0 : 1048576 < len0) :
    Calls Try.prog 3 #[.slice a0 len0 cap0] w fun e w' => e = .returned (.bool true) ∧ Ext w w' := by
  have h1 : (1048576 : Int) < (len0 : Int) := by omega
  go_enter Try.func3, Try.ntmps3
  go_wp2_with fail
  go_ret
  exact ⟨rfl, Ext.refl w⟩

theorem walk (w : World) (a0 : Option Addr) (len0 cap0 : Nat) (hb0 : Bytes w a0 len0) (hlc0 : len0 ≤ cap0) (hcm0 : cap0 ≤ maxLen) :
    Calls Try.prog 3 #[.slice a0 len0 cap0] w fun e w' => e = .returned (.bool true) ∧ Below w.heap.size w w' := by
  by_cases h : 1048576 < len0
  · exact walk_big w a0 len0 cap0 h
  · exact walk_good w a0 len0 cap0 hb0 hlc0 hcm0 (by omega)

set_option maxRecDepth 100000 in
theorem lifted (os : Os) (started : os.Started) (H : Type) (enc : TypeId × Value → H) :
    ReturnsInHanded {} Try.checked os 3 .any (Rows.fnLayoutsOfSpec.pre6 enc Try.prog Try.f3 Rows.fnLayoutsOfRow.domain false) (Rows.fnLayoutsOfSpec.post enc Try.prog Try.f3 false true false false) := by
  refine returnsInHanded_of_change (C := Try.checked) Facts.own started (by kernel_rfl) Try.func3
    (ChangeSpec.witness6 (enc := enc) (C := Try.checked) false ⟨#[], #[.slice none 0 0], []⟩ 8 (by kernel_rfl) (by kernel_rfl) (by kernel_rfl) (by kernel_rfl)) ?_
  intro W base args ds gs before hval0 hW hcnd0 _
  clear hcnd0
  have hval : ∀ (j : Nat) t v, Try.f3.params[j]? = some t → args[j]? = some v → Value.okWide Try.prog W .any base t v := hval0
  have hW' := hW
  obtain ⟨p, q, hA0, hV, rfl, hfz, hnd⟩ := hW
  have hA : DataW.TrodAll enc Try.prog W 0 (fun _ => true) true Try.f3.params.toList args.toList ds p := hA0
  rw [Try.params3] at hA hval
  obtain ⟨v0, d0, rfl, rfl, h0⟩ := trodAll_one hA
  obtain ⟨rfl, rfl⟩ := trodVars_none hV
  obtain ⟨a0, len0, cap0, rfl⟩ := okWide_slice Try.underlying22 (hval 0 22 v0 rfl rfl)
  clear hA0 hval0
  simp only [List.append_nil] at hW'
  have hlt : ∀ x ∈ p, x.block < W.heap.size := fun x hx => by simpa using hW'.lt x hx
  obtain ⟨hb0, hlc0, hcm0⟩ := opened h0
  refine (walk W a0 len0 cap0 hb0 hlc0 hcm0).mono fun e W' ⟨he, hb⟩ => ?_
  subst he
  refine ⟨_, rfl, [_], [], p, [], p, [], hW', trodAll_mk1 (shut_bool Try.underlying4 _), ?_, rfl, hb.frame _, fun h => by cases h⟩
  exact trodAll_mk1 (Below.trod Facts.laidOut (by kernel_rfl) (of_decide_eq_true (by kernel_rfl)) h0 hb hlt)

theorem named : Try.prog.funcNamed Rows.fnLayoutsOfRow.func = some 3 := by kernel_rfl
theorem closed : joinedFacts Try.prog 3 Try.f3 Rows.fnLayoutsOfSpec Rows.fnLayoutsOfRow = true :=
  Facts.closed_of rfl rfl rfl rfl (h28b := rfl) (by kernel_rfl) (by kernel_rfl) (by kernel_rfl) (by kernel_rfl) (by kernel_rfl) (by kernel_rfl) (by kernel_rfl) (by kernel_rfl) (by kernel_rfl) (by kernel_rfl) (by kernel_rfl) (by kernel_rfl) (by kernel_rfl) (by kernel_rfl) (by kernel_rfl) (by kernel_rfl) (by kernel_rfl) (by kernel_rfl) (by kernel_rfl) (by kernel_rfl) (by kernel_rfl) (by kernel_rfl) (by kernel_rfl) (by kernel_rfl)
theorem instanced : Try.f3.isInstance Try.prog Rows.fnLayoutsOfRow.origin Rows.fnLayoutsOfRow.targs := of_decide_eq_true (by kernel_rfl)
theorem wrapped : Try.f3.isWrapper Try.prog Rows.fnLayoutsOfRow.wrapper Rows.fnLayoutsOfRow.mainSum := by
  unfold Func.isWrapper
  rw [if_neg (of_decide_eq_false (by kernel_rfl))]
  exact ⟨rfl, rfl⟩

theorem holds : Rows.FnLayoutsOfSaid :=
  OpenClaim.holds_of_wide 3 Try.f3 rfl rfl rfl rfl rfl rfl rfl ⟨rfl, rfl, rfl, rfl, rfl⟩ rfl rfl rfl rfl rfl named Try.func3 closed instanced wrapped
    (fun os started H enc _ => lifted os started H enc)

end Go.Proofs.Ytpiaiandjnpdfaa.lawLayoutsOf

