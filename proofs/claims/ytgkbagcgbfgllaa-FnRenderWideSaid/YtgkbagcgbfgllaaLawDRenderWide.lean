import Derived.Test.YtgkbagcgbfgllaaDrM
import Derived.Test.YtgkbagcgbfgllaaDocF
import Derived.Test.YtgkbagcgbfgllaaDocF2
import Derived.Test.YtgkbagcgbfgllaaDocC
import Derived.Test.YtgkbagcgbfgllaaDrZ
import Derived.Test.YtgkbagcgbfgllaaFacts
import Derived.Test.YtgkbagcgbfgllaaRows
import Derived.Deep.RegionHeld3
import Derived.Deep.DeepCutAuto
import Derived.Deep.RegionWith
/-
  Wide pages have flat groups: the law FnRenderWide returns true for whatever draws, and its argument reads as it did. No condition of ours.
-/
set_option linter.unusedVariables false
set_option linter.unusedSimpArgs false
namespace Go.Proofs.Ytgkbagcgbfgllaa.lawRenderWide
open Go.ChangeShapes Go.WideShapes Go.ChangeAt Go.RowKit P1 Draw6 LawC CntC DocK OpenR LayN ChP 

set_option maxRecDepth 100000 in
set_option maxHeartbeats 6400000 in
theorem walk_good (w : World) (a0 : Option Addr) (len0 cap0 : Nat) (hb0 : Bytes w a0 len0) (hlc0 : len0 ≤ cap0) (hcm0 : cap0 ≤ maxLen) (hl0 : len0 ≤ 1048576) :
    Calls Try.prog 8 #[.slice a0 len0 cap0] w fun e w' => e = .returned (.bool true) ∧ Ext w w' := by
  have HD0 := Lib.hid (DrR.drawRenderDoc w a0 len0 cap0 hb0 hlc0 hcm0)
  clear hb0
  unfold maxLen at hcm0
  go_enter Try.func8, Try.ntmps8
  go_wp2_with fail
  refine HD0.out.mono ?_
  rintro e1 w1 ⟨o, n, t, k, a, cap, fs, i, rfl, hi, hc, hsz, hsub, hfr, hb1⟩
  have D1 := Lib.hid (show DocK.Doc0 w1 n t k a cap fs from ⟨hsub, fun c hc => (hfr.2 c hc).2, hc, by omega⟩)
  have E1 := Lib.hid (show Ext w w1 from hb1)
  have hkl : k.len ≤ 100000 := D1.out.len
  clear hsub hfr hb1
  obtain ⟨⟨X, V⟩, hr⟩ : ∃ r, Rn.rnR i o n t k = r := ⟨_, rfl⟩
  have HSZ := Lib.hid hsz
  have HR := Lib.hid hr
  have HXI := Lib.hid (show ∀ W : World, Ext w1 W → Calls Try.prog 15 #[.agg #[.int .i64 o, .int .i64 n, .string t, .slice a k.len cap], .int .i64 i] W (DocO.Out W X V) from fun W e => by have h := DocR.implRender (D1.out.ext e) o i; rw [hr] at h; exact h)
  have HXS := Lib.hid (show ∀ W : World, Ext w1 W → Calls Try.prog 16 #[.agg #[.int .i64 o, .int .i64 n, .string t, .slice a k.len cap], .int .i64 i] W (DocO.Out W X V) from fun W e => by have h := DocR.specRender (D1.out.ext e) o i; rw [hr] at h; exact h)
  clear hc hsz hr
  go_wp2_with fail
  refine (HXI.out _ ((Ext.refl w1).alloc _)).mono ?_
  rintro e2 w2 ⟨pa, ca, rfl, hlay, hb⟩
  have X2 := Lib.hid (box4 (box_new w1 _ _ _ _ _) (by simp) hb)
  have E2 := Lib.hid (((Ext.refl w1).alloc _).trans hb)
  have L2 := Lib.hid (show w1.heap.size < w2.heap.size from by have := hb.size; simp at this; omega)
  try clear x0 x1 x2 x3 l
  have Ka := Lib.hid hlay
  clear hlay
  clear hb
  obtain ⟨x0, x1, x2, x3⟩ := X2.out
  have l := L2.out
  go_wp2_with fail
  refine (HXS.out _ E2.out).mono ?_
  rintro e3 w3 ⟨pb, cb, rfl, hlay, hb⟩
  have X3 := Lib.hid (box4 X2.out L2.out hb)
  have E3 := Lib.hid (E2.out.trans hb)
  have L3 := Lib.hid (Nat.lt_of_lt_of_le L2.out hb.size)
  try clear x0 x1 x2 x3 l
  replace Ka := Lib.hid (Ka.out.ext hb)
  have Kb := Lib.hid hlay
  clear hlay
  clear hb
  obtain ⟨x0, x1, x2, x3⟩ := X3.out
  have l := L3.out
  obtain ⟨⟨O, Q⟩, hr3⟩ : ∃ r, OpenR.openRes o n t k = r := ⟨_, rfl⟩
  obtain ⟨⟨Y, C⟩, hr4⟩ : ∃ r, chR o n t k 0 = r := ⟨_, rfl⟩
  obtain ⟨⟨Z, U⟩, hr2⟩ : ∃ r, Rn.rnR 200 o n t k = r := ⟨_, rfl⟩
  have HWD := Lib.hid (show V = true → U = true ∧ (O = [] ∨ lv O = true) ∧ (C = true → Rn.ms O ≤ 200 → Z = Y) from fun h1 => by
    subst h1
    have hv := (DocR.rn_valid (DocR.rn_true HR.out).1).1
    have hrt : Rn.rightD 200 o n t k = true := by simp [Rn.rightD, hv]
    rw [RnR.rnR_yes hrt] at hr2
    rw [openRes_yes hv] at hr3
    injection hr2 with hZ hU
    injection hr3 with hO hQ
    refine ⟨hU.symm, ?_, fun h2 h3 => ?_⟩
    · rw [← hO]; have h := DocO.open_good' o n t k; rw [openRes_yes hv] at h; exact h
    · subst h2
      obtain ⟨_, _, _, e⟩ := DocC.chR_open hr4
      rw [← hZ, e]
      rw [← hO] at h3
      exact Rn.rn_first hv h3)
  have HWI := Lib.hid (show ∀ W : World, Ext w1 W → Calls Try.prog 15 #[.agg #[.int .i64 o, .int .i64 n, .string t, .slice a k.len cap], .int .i64 200] W (DocO.Out W Z U) from fun W e => by have h := DocR.implRender (D1.out.ext e) o 200; rw [hr2] at h; exact h)
  have HCH := Lib.hid (show ∀ W : World, Ext w1 W → Calls Try.prog 28 #[.agg #[.int .i64 o, .int .i64 n, .string t, .slice a k.len cap], .int .i64 0] W (DocO.Out W Y C) from fun W e => by have h := DocC.implChoice (D1.out.ext e) o 0; rw [hr4] at h; exact h)
  have HO := Lib.hid (show ∀ W : World, Ext w1 W → Calls Try.prog 21 #[.agg #[.int .i64 o, .int .i64 n, .string t, .slice a k.len cap]] W (DocO.Out W O Q) from fun W e => by have h := (DocW.toO (D1.out.ext e)).implOpen o; rw [hr3] at h; exact h)
  clear hr2 hr3 hr4
  cases V with
  | false =>
    go_wp2_with fail
    refine (DocO.LayIs.same Ka.out Kb.out).mono ?_
    rintro e4 w4 ⟨rfl, hb⟩
    have X4 := Lib.hid (box4 X3.out L3.out hb)
    have E4 := Lib.hid (E3.out.trans hb)
    have L4 := Lib.hid (Nat.lt_of_lt_of_le L3.out hb.size)
    try clear x0 x1 x2 x3 l
    replace Ka := Lib.hid (Ka.out.ext hb)
    replace Kb := Lib.hid (Kb.out.ext hb)
    clear hb
    obtain ⟨x0, x1, x2, x3⟩ := X4.out
    have l := L4.out
    go_wp2_with fail
    refine (DocO.LayIs.same Ka.out Kb.out).mono ?_
    rintro e5 w5 ⟨rfl, hb⟩
    have X5 := Lib.hid (box4 X4.out L4.out hb)
    have E5 := Lib.hid (E4.out.trans hb)
    have L5 := Lib.hid (Nat.lt_of_lt_of_le L4.out hb.size)
    try clear x0 x1 x2 x3 l
    replace Ka := Lib.hid (Ka.out.ext hb)
    replace Kb := Lib.hid (Kb.out.ext hb)
    clear hb
    obtain ⟨x0, x1, x2, x3⟩ := X5.out
    have l := L5.out
    go_wp2_with fail
    go_ret
    exact ⟨by first | rfl | simp, E1.out.trans E5.out⟩
  | true =>
    go_wp2_with fail
    refine (DocO.LayIs.same Ka.out Kb.out).mono ?_
    rintro e4 w4 ⟨rfl, hb⟩
    have X4 := Lib.hid (box4 X3.out L3.out hb)
    have E4 := Lib.hid (E3.out.trans hb)
    have L4 := Lib.hid (Nat.lt_of_lt_of_le L3.out hb.size)
    try clear x0 x1 x2 x3 l
    replace Ka := Lib.hid (Ka.out.ext hb)
    replace Kb := Lib.hid (Kb.out.ext hb)
    clear hb
    obtain ⟨x0, x1, x2, x3⟩ := X4.out
    have l := L4.out
    obtain ⟨rfl, hgood, hfirst⟩ := HWD.out (by first | rfl | trivial)
    have HFI := Lib.hid hfirst
    have HGD := Lib.hid hgood
    clear hfirst hgood
    go_wp2_with fail
    refine (HWI.out _ E4.out).mono ?_
    rintro e5 w5 ⟨pc, cc, rfl, hlay, hb⟩
    have X5 := Lib.hid (box4 X4.out L4.out hb)
    have E5 := Lib.hid (E4.out.trans hb)
    have L5 := Lib.hid (Nat.lt_of_lt_of_le L4.out hb.size)
    try clear x0 x1 x2 x3 l
    replace Ka := Lib.hid (Ka.out.ext hb)
    replace Kb := Lib.hid (Kb.out.ext hb)
    have Kc := Lib.hid hlay
    clear hlay
    clear hb
    obtain ⟨x0, x1, x2, x3⟩ := X5.out
    have l := L5.out
    go_wp2_with fail
    refine (HCH.out _ E5.out).mono ?_
    rintro e6 w6 ⟨pd, cd, rfl, hlay, hb⟩
    have X6 := Lib.hid (box4 X5.out L5.out hb)
    have E6 := Lib.hid (E5.out.trans hb)
    have L6 := Lib.hid (Nat.lt_of_lt_of_le L5.out hb.size)
    try clear x0 x1 x2 x3 l
    replace Ka := Lib.hid (Ka.out.ext hb)
    replace Kb := Lib.hid (Kb.out.ext hb)
    replace Kc := Lib.hid (Kc.out.ext hb)
    have Kd := Lib.hid hlay
    clear hlay
    clear hb
    obtain ⟨x0, x1, x2, x3⟩ := X6.out
    have l := L6.out
    go_wp2_with fail
    refine (HO.out _ E6.out).mono ?_
    rintro e7 w7 ⟨pe, ce, rfl, hlay, hb⟩
    have X7 := Lib.hid (box4 X6.out L6.out hb)
    have E7 := Lib.hid (E6.out.trans hb)
    have L7 := Lib.hid (Nat.lt_of_lt_of_le L6.out hb.size)
    try clear x0 x1 x2 x3 l
    replace Ka := Lib.hid (Ka.out.ext hb)
    replace Kb := Lib.hid (Kb.out.ext hb)
    replace Kc := Lib.hid (Kc.out.ext hb)
    replace Kd := Lib.hid (Kd.out.ext hb)
    have Ke := Lib.hid hlay
    clear hlay
    clear hb
    obtain ⟨x0, x1, x2, x3⟩ := X7.out
    have l := L7.out
    obtain ⟨M, hM⟩ : ∃ M : Nat, O.length = M := ⟨_, rfl⟩
    have HM := Lib.hid hM
    have hM2 : M ≤ 200 := by rw [← hM]; exact Ke.out.len
    try rw [hM]
    clear hM
    go_wp2_with fail
    go_loopw [15, 16] (fun s i' wr => ∃ (j : Nat) (c : Int), Hid (c = Rn.ms (O.take j)) ∧ j ≤ M ∧ i' = .int .i64 (j : Int) ∧ s = .int .i64 c ∧ (0 ≤ c ∧ c ≤ 2401 * (j : Int)) ∧ Ext w7 wr) (fun _ i' _ => M - (intOf i').toNat)
    case atStart => exact ⟨0, 0, Lib.hid rfl, by omega, rfl, rfl, by omega, Ext.refl _⟩
    case round =>
      obtain ⟨j, s0, HA, hj, rfl, rfl, ⟨hs0, hs1⟩, hext⟩ := hrel
      obtain ⟨w20, hwm⟩ : ∃ W, W = wr := ⟨_, rfl⟩
      subst hwm
      have X20 := Lib.hid (box4 X7.out L7.out hext)
      have E20 := Lib.hid (E7.out.trans hext)
      have L20 := Lib.hid (Nat.lt_of_lt_of_le L7.out hext.size)
      have R := Lib.hid hext
      have RH := Lib.hid (Ext.refl w20)
      try clear x0 x1 x2 x3 l
      replace Ka := Lib.hid (Ka.out.ext hext)
      replace Kb := Lib.hid (Kb.out.ext hext)
      replace Kc := Lib.hid (Kc.out.ext hext)
      replace Kd := Lib.hid (Kd.out.ext hext)
      replace Ke := Lib.hid (Ke.out.ext hext)
      clear hext
      obtain ⟨x0, x1, x2, x3⟩ := X20.out
      have l := L20.out
      by_cases hjM : j < M
      · have hjl : j < O.length := by rw [HM.out]; exact hjM
        obtain ⟨bz, of, hae, hbz, hcell⟩ := DocF2.lay_get Ke.out hjl
        subst hae
        have hrow : 0 ≤ O[j].1 ∧ O[j].1 ≤ 400 ∧ O[j].2.size < 2000 := by
          rcases HGD.out with h | h
          · rw [h] at hjl; simp at hjl
          · have h1 := rv_iff.1 (lv_get h hjl)
            have h2 := lt_len h1.2.2
            have h3 : O[j].2.data.toList.length = O[j].2.size := by simp
            exact ⟨h1.1, h1.2.1, by omega⟩
        have hnx := Rn.ms_take hjl
        rw [← HA.out] at hnx
        obtain ⟨⟨x, y⟩, hxy⟩ : ∃ r, O[j] = r := ⟨_, rfl⟩
        rw [hxy] at hcell hrow hnx
        obtain ⟨hx0, hx1, hy⟩ := hrow
        obtain ⟨hc0, hc1⟩ := hcell
        have HNX := Lib.hid hnx
        simp only at hx0 hx1 hy hc0 hc1
        have w1 : IntKind.i64.wrap (s0 + x) = s0 + x := by rw [IntKind.wrap_i64]; omega
        have w2 : IntKind.i64.wrap (s0 + x + (y.size : Int)) = s0 + x + (y.size : Int) := by rw [IntKind.wrap_i64]; omega
        have w3 : IntKind.i64.wrap (s0 + x + (y.size : Int) + 1) = s0 + x + (y.size : Int) + 1 := by rw [IntKind.wrap_i64]; omega
        have i0 : (0 : Int) ≤ (j : Int) := Int.natCast_nonneg _
        have i1 : (j : Int) < (M : Int) := by omega
        clear hnx hxy
        go_wp2_with fail
        go_quiet (fail)
        go_wp2_with fail
        go_roundw
        case rel => exact ⟨j + 1, s0 + x + (y.size : Int) + 1, Lib.hid (by rw [HNX.out]), by omega, by go_num, by first | exact congrArg (Value.int IntKind.i64) ((congrArg (fun q => IntKind.i64.wrap (q + 1)) w2).trans w3) | rfl | go_num, by omega, R.out.trans (DocR.ext_drewN' (Ext.refl _) _)⟩
        case measure => simp [intOf]; omega
      · obtain rfl : j = M := by omega
        have hA := HA.out
        rw [List.take_of_length_le (by have := HM.out; omega)] at hA
        have HAA := Lib.hid hA
        clear hA
        cases C with
        | false =>
          go_wp2_with fail
          go_ret
          exact ⟨by first | rfl | simp, E1.out.trans E20.out⟩
        | true =>
          by_cases hs200 : 200 < s0
          · skip
            go_wp2_with fail
            go_ret
            exact ⟨by first | rfl | simp [hs200] | (simp; omega), E1.out.trans E20.out⟩
          · obtain rfl : Z = Y := HFI.out (by first | rfl | trivial) (by have := HAA.out; omega)
            go_wp2_with fail
            refine (DocO.LayIs.same Kc.out Kd.out).mono ?_
            rintro e21 w21 ⟨rfl, hb⟩
            have X21 := Lib.hid (box4 X20.out L20.out hb)
            have E21 := Lib.hid (E20.out.trans hb)
            have L21 := Lib.hid (Nat.lt_of_lt_of_le L20.out hb.size)
            try clear x0 x1 x2 x3 l
            replace Ka := Lib.hid (Ka.out.ext hb)
            replace Kb := Lib.hid (Kb.out.ext hb)
            replace Kc := Lib.hid (Kc.out.ext hb)
            replace Kd := Lib.hid (Kd.out.ext hb)
            replace Ke := Lib.hid (Ke.out.ext hb)
            replace R := Lib.hid (R.out.trans hb)
            replace RH := Lib.hid (RH.out.trans hb)
            clear hb
            obtain ⟨x0, x1, x2, x3⟩ := X21.out
            have l := L21.out
            go_wp2_with fail
            go_ret
            exact ⟨by first | rfl | simp [hs200] | (simp; omega), E1.out.trans E21.out⟩

set_option maxHeartbeats 400000 in
theorem walk_big (w : World) (a0 : Option Addr) (len0 cap0 : Nat) (hl0 : 1048576 < len0) :
    Calls Try.prog 8 #[.slice a0 len0 cap0] w fun e w' => e = .returned (.bool true) ∧ Ext w w' := by
  have h1 : (1048576 : Int) < (len0 : Int) := by omega
  go_enter Try.func8, Try.ntmps8
  go_wp2_with fail
  go_ret
  exact ⟨rfl, Ext.refl w⟩

theorem walk (w : World) (a0 : Option Addr) (len0 cap0 : Nat) (hb0 : Bytes w a0 len0) (hlc0 : len0 ≤ cap0) (hcm0 : cap0 ≤ maxLen) :
    Calls Try.prog 8 #[.slice a0 len0 cap0] w fun e w' => e = .returned (.bool true) ∧ Below w.heap.size w w' := by
  by_cases h : 1048576 < len0
  · exact walk_big w a0 len0 cap0 h
  · exact walk_good w a0 len0 cap0 hb0 hlc0 hcm0 (by omega)

set_option maxRecDepth 100000 in
theorem lifted (os : Os) (started : os.Started) (H : Type) (enc : TypeId × Value → H) :
    ReturnsInHanded {} Try.checked os 8 .any (Rows.fnRenderWideSpec.pre6 enc Try.prog Try.f8 Rows.fnRenderWideRow.domain false) (Rows.fnRenderWideSpec.post enc Try.prog Try.f8 false true false false) := by
  refine returnsInHanded_of_change (C := Try.checked) Facts.own started (by kernel_rfl) Try.func8
    (ChangeSpec.witness6 (enc := enc) (C := Try.checked) false ⟨#[], #[.slice none 0 0], []⟩ 8 (by kernel_rfl) (by kernel_rfl) (by kernel_rfl) (by kernel_rfl)) ?_
  intro W base args ds gs before hval0 hW hcnd0 _
  clear hcnd0
  have hval : ∀ (j : Nat) t v, Try.f8.params[j]? = some t → args[j]? = some v → Value.okWide Try.prog W .any base t v := hval0
  have hW' := hW
  obtain ⟨p, q, hA0, hV, rfl, hfz, hnd⟩ := hW
  have hA : DataW.TrodAll enc Try.prog W 0 (fun _ => true) true Try.f8.params.toList args.toList ds p := hA0
  rw [Try.params8] at hA hval
  obtain ⟨v0, d0, rfl, rfl, h0⟩ := trodAll_one hA
  obtain ⟨rfl, rfl⟩ := trodVars_none hV
  obtain ⟨a0, len0, cap0, rfl⟩ := okWide_slice Try.underlying22 (hval 0 22 v0 rfl rfl)
  clear hA0 hval0
  simp only [List.append_nil] at hW'
  have hlt : ∀ x ∈ p, x.block < W.heap.size := fun x hx => by simpa using hW'.lt x hx
  obtain ⟨hb0, hlc0, hcm0⟩ := opened h0
  refine (walk W a0 len0 cap0 hb0 hlc0 hcm0).mono fun e W' ⟨he, hb⟩ => ?_
  subst he
  refine ⟨_, rfl, [_], [], p, [], p, [], hW', trodAll_mk1 (shut_bool Try.underlying4 _), ?_, rfl, hb.frame _, fun h => by cases h⟩
  exact trodAll_mk1 (Below.trod Facts.laidOut (by kernel_rfl) (of_decide_eq_true (by kernel_rfl)) h0 hb hlt)

theorem named : Try.prog.funcNamed Rows.fnRenderWideRow.func = some 8 := by kernel_rfl
theorem closed : joinedFacts Try.prog 8 Try.f8 Rows.fnRenderWideSpec Rows.fnRenderWideRow = true :=
  Facts.closed_of rfl rfl rfl rfl (h28b := rfl) (by kernel_rfl) (by kernel_rfl) (by kernel_rfl) (by kernel_rfl) (by kernel_rfl) (by kernel_rfl) (by kernel_rfl) (by kernel_rfl) (by kernel_rfl) (by kernel_rfl) (by kernel_rfl) (by kernel_rfl) (by kernel_rfl) (by kernel_rfl) (by kernel_rfl) (by kernel_rfl) (by kernel_rfl) (by kernel_rfl) (by kernel_rfl) (by kernel_rfl) (by kernel_rfl) (by kernel_rfl) (by kernel_rfl) (by kernel_rfl)
theorem instanced : Try.f8.isInstance Try.prog Rows.fnRenderWideRow.origin Rows.fnRenderWideRow.targs := of_decide_eq_true (by kernel_rfl)
theorem wrapped : Try.f8.isWrapper Try.prog Rows.fnRenderWideRow.wrapper Rows.fnRenderWideRow.mainSum := by
  unfold Func.isWrapper
  rw [if_neg (of_decide_eq_false (by kernel_rfl))]
  exact ⟨rfl, rfl⟩

theorem holds : Rows.FnRenderWideSaid :=
  OpenClaim.holds_of_wide 8 Try.f8 rfl rfl rfl rfl rfl rfl rfl ⟨rfl, rfl, rfl, rfl, rfl⟩ rfl rfl rfl rfl rfl named Try.func8 closed instanced wrapped
    (fun os started H enc _ => lifted os started H enc)

end Go.Proofs.Ytgkbagcgbfgllaa.lawRenderWide

