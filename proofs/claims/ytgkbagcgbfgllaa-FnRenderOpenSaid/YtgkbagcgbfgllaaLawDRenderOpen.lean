import Derived.Test.YtgkbagcgbfgllaaDrM
import Derived.Test.YtgkbagcgbfgllaaDocF
import Derived.Test.YtgkbagcgbfgllaaDrZ
import Derived.Test.YtgkbagcgbfgllaaFacts
import Derived.Test.YtgkbagcgbfgllaaRows
import Derived.Deep.RegionHeld3
import Derived.Deep.DeepCutAuto
import Derived.Deep.RegionWith
/-
  Without flat groups, documents are open: the law FnRenderOpen returns true for whatever draws, and its argument reads as it did. No condition of ours.
-/
set_option linter.unusedVariables false
set_option linter.unusedSimpArgs false
namespace Go.Proofs.Ytgkbagcgbfgllaa.lawRenderOpen
open Go.ChangeShapes Go.WideShapes Go.ChangeAt Go.RowKit P1 Draw6 LawC CntC DocK OpenR LayN ChP 

set_option maxRecDepth 100000 in
set_option maxHeartbeats 6400000 in
theorem walk_good (w : World) (a0 : Option Addr) (len0 cap0 : Nat) (hb0 : Bytes w a0 len0) (hlc0 : len0 ≤ cap0) (hcm0 : cap0 ≤ maxLen) (hl0 : len0 ≤ 1048576) :
    Calls Try.prog 4 #[.slice a0 len0 cap0] w fun e w' => e = .returned (.bool true) ∧ Ext w w' := by
  have HD0 := Lib.hid (DrR.drawRenderDoc w a0 len0 cap0 hb0 hlc0 hcm0)
  clear hb0
  unfold maxLen at hcm0
  go_enter Try.func4, Try.ntmps4
  go_wp2_with fail
  refine HD0.out.mono ?_
  rintro e1 w1 ⟨o, n, t, k, a, cap, fs, i, rfl, hi, hc, hsz, hsub, hfr, hb1⟩
  have D1 := Lib.hid (show DocK.Doc0 w1 n t k a cap fs from ⟨hsub, fun c hc => (hfr.2 c hc).2, hc, by omega⟩)
  have E1 := Lib.hid (show Ext w w1 from hb1)
  have hkl : k.len ≤ 100000 := D1.out.len
  clear hsub hfr hb1
  obtain ⟨⟨X, V⟩, hr⟩ : ∃ r, Rn.rnR i o n t k = r := ⟨_, rfl⟩
  have HSZ := Lib.hid hsz
  have HR := Lib.hid hr
  have HXI := Lib.hid (show ∀ W : World, Ext w1 W → Calls Try.prog 15 #[.agg #[.int .i64 o, .int .i64 n, .string t, .slice a k.len cap], .int .i64 i] W (DocO.Out W X V) from fun W e => by have h := DocR.implRender (D1.out.ext e) o i; rw [hr] at h; exact h)
  have HXS := Lib.hid (show ∀ W : World, Ext w1 W → Calls Try.prog 16 #[.agg #[.int .i64 o, .int .i64 n, .string t, .slice a k.len cap], .int .i64 i] W (DocO.Out W X V) from fun W e => by have h := DocR.specRender (D1.out.ext e) o i; rw [hr] at h; exact h)
  clear hc hsz hr
  go_wp2_with fail
  refine (HXI.out _ ((Ext.refl w1).alloc _)).mono ?_
  rintro e2 w2 ⟨pa, ca, rfl, hlay, hb⟩
  have X2 := Lib.hid (box4 (box_new w1 _ _ _ _ _) (by simp) hb)
  have E2 := Lib.hid (((Ext.refl w1).alloc _).trans hb)
  have L2 := Lib.hid (show w1.heap.size < w2.heap.size from by have := hb.size; simp at this; omega)
  try clear x0 x1 x2 x3 l
  have Ka := Lib.hid hlay
  clear hlay
  clear hb
  obtain ⟨x0, x1, x2, x3⟩ := X2.out
  have l := L2.out
  go_wp2_with fail
  refine (HXS.out _ E2.out).mono ?_
  rintro e3 w3 ⟨pb, cb, rfl, hlay, hb⟩
  have X3 := Lib.hid (box4 X2.out L2.out hb)
  have E3 := Lib.hid (E2.out.trans hb)
  have L3 := Lib.hid (Nat.lt_of_lt_of_le L2.out hb.size)
  try clear x0 x1 x2 x3 l
  replace Ka := Lib.hid (Ka.out.ext hb)
  have Kb := Lib.hid hlay
  clear hlay
  clear hb
  obtain ⟨x0, x1, x2, x3⟩ := X3.out
  have l := L3.out
  obtain ⟨⟨Z, U⟩, hr2⟩ : ∃ r, Rn.flR i o n t k = r := ⟨_, rfl⟩
  obtain ⟨⟨Y, Q⟩, hr3⟩ : ∃ r, OpenR.openRes o n t k = r := ⟨_, rfl⟩
  obtain ⟨H, hH⟩ : ∃ H : Nat, CntC.opsD 8 o k = H := ⟨_, rfl⟩
  have hZ : Z.length ≤ 1048576 := by have h := RnG.fl_len i o n t k; rw [hr2] at h; exact h
  have HOP := Lib.hid (show V = true → U = true ∧ Z.length ≤ H ∧ (Z.any id = false → X = Y) from fun h1 => by
    subst h1
    have h := DocR.open_flags HR.out
    rw [hr2, hH] at h
    refine ⟨h.1, h.2.1, fun ha => ?_⟩
    rw [h.2.2 ha]
    have hv := (DocR.rn_valid (DocR.rn_true HR.out).1).1
    rw [openRes_yes hv] at hr3
    injection hr3)
  have HFI := Lib.hid (show ∀ W : World, Ext w1 W → Calls Try.prog 20 #[.agg #[.int .i64 o, .int .i64 n, .string t, .slice a k.len cap], .int .i64 i] W (DocR.FOut W Z U) from fun W e => by have h := DocR.implFlags (D1.out.ext e) o i; rw [hr2] at h; exact h)
  have HO := Lib.hid (show ∀ W : World, Ext w1 W → Calls Try.prog 21 #[.agg #[.int .i64 o, .int .i64 n, .string t, .slice a k.len cap]] W (DocO.Out W Y Q) from fun W e => by have h := (DocW.toO (D1.out.ext e)).implOpen o; rw [hr3] at h; exact h)
  have HC := Lib.hid (show ∀ W : World, Ext w1 W → Calls Try.prog 22 #[.agg #[.int .i64 o, .int .i64 n, .string t, .slice a k.len cap], .int .i64 8] W (fun e w' => e = .returned (.int .i64 (H : Int)) ∧ Ext W w') from fun W e => by rw [← hH]; exact (D1.out.ext e).implCountOps o 8)
  clear hr2 hr3 hH
  cases V with
  | false =>
    go_wp2_with fail
    refine (DocO.LayIs.same Ka.out Kb.out).mono ?_
    rintro e4 w4 ⟨rfl, hb⟩
    have X4 := Lib.hid (box4 X3.out L3.out hb)
    have E4 := Lib.hid (E3.out.trans hb)
    have L4 := Lib.hid (Nat.lt_of_lt_of_le L3.out hb.size)
    try clear x0 x1 x2 x3 l
    replace Ka := Lib.hid (Ka.out.ext hb)
    replace Kb := Lib.hid (Kb.out.ext hb)
    clear hb
    obtain ⟨x0, x1, x2, x3⟩ := X4.out
    have l := L4.out
    go_wp2_with fail
    refine (DocO.LayIs.same Ka.out Kb.out).mono ?_
    rintro e5 w5 ⟨rfl, hb⟩
    have X5 := Lib.hid (box4 X4.out L4.out hb)
    have E5 := Lib.hid (E4.out.trans hb)
    have L5 := Lib.hid (Nat.lt_of_lt_of_le L4.out hb.size)
    try clear x0 x1 x2 x3 l
    replace Ka := Lib.hid (Ka.out.ext hb)
    replace Kb := Lib.hid (Kb.out.ext hb)
    clear hb
    obtain ⟨x0, x1, x2, x3⟩ := X5.out
    have l := L5.out
    go_wp2_with fail
    go_ret
    exact ⟨by first | rfl | simp, E1.out.trans E5.out⟩
  | true =>
    go_wp2_with fail
    refine (DocO.LayIs.same Ka.out Kb.out).mono ?_
    rintro e4 w4 ⟨rfl, hb⟩
    have X4 := Lib.hid (box4 X3.out L3.out hb)
    have E4 := Lib.hid (E3.out.trans hb)
    have L4 := Lib.hid (Nat.lt_of_lt_of_le L3.out hb.size)
    try clear x0 x1 x2 x3 l
    replace Ka := Lib.hid (Ka.out.ext hb)
    replace Kb := Lib.hid (Kb.out.ext hb)
    clear hb
    obtain ⟨x0, x1, x2, x3⟩ := X4.out
    have l := L4.out
    obtain ⟨rfl, hlen, hany⟩ := HOP.out (by first | rfl | trivial)
    have HAN := Lib.hid hany
    have hlen2 : (Z.length : Int) ≤ (H : Int) := by omega
    clear hany hlen
    go_wp2_with fail
    refine (HFI.out _ E4.out).mono ?_
    rintro e5 w5 ⟨pf, cf, rfl, hlay, hb⟩
    have X5 := Lib.hid (box4 X4.out L4.out hb)
    have E5 := Lib.hid (E4.out.trans hb)
    have L5 := Lib.hid (Nat.lt_of_lt_of_le L4.out hb.size)
    try clear x0 x1 x2 x3 l
    replace Ka := Lib.hid (Ka.out.ext hb)
    replace Kb := Lib.hid (Kb.out.ext hb)
    have Kf := Lib.hid hlay
    clear hlay
    clear hb
    obtain ⟨x0, x1, x2, x3⟩ := X5.out
    have l := L5.out
    obtain ⟨M, hM⟩ : ∃ M : Nat, Z.length = M := ⟨_, rfl⟩
    have HM := Lib.hid hM
    rw [hM] at hlen2 hZ
    try rw [hM]
    clear hM
    go_wp2_with fail
    go_loopw [11, 12] (fun s i wr => ∃ (j : Nat) (A : Bool), Hid (A = (Z.take j).any id) ∧ j ≤ M ∧ i = .int .i64 (j : Int) ∧ s = .bool A ∧ Ext w5 wr) (fun _ i _ => M - (intOf i).toNat)
    case atStart => exact ⟨0, false, Lib.hid rfl, by omega, rfl, rfl, Ext.refl _⟩
    case round =>
      obtain ⟨j, A, HA, hj, rfl, rfl, hext⟩ := hrel
      obtain ⟨w20, hwm⟩ : ∃ W, W = wr := ⟨_, rfl⟩
      subst hwm
      have X20 := Lib.hid (box4 X5.out L5.out hext)
      have E20 := Lib.hid (E5.out.trans hext)
      have L20 := Lib.hid (Nat.lt_of_lt_of_le L5.out hext.size)
      have R := Lib.hid hext
      have RH := Lib.hid (Ext.refl w20)
      try clear x0 x1 x2 x3 l
      replace Ka := Lib.hid (Ka.out.ext hext)
      replace Kb := Lib.hid (Kb.out.ext hext)
      replace Kf := Lib.hid (Kf.out.ext hext)
      clear hext
      obtain ⟨x0, x1, x2, x3⟩ := X20.out
      have l := L20.out
      by_cases hjM : j < M
      · have hjl : j < Z.length := by rw [HM.out]; exact hjM
        have hnext : (Z.take (j + 1)).any id = (A || Z[j]) := by
          rw [List.take_succ_eq_append_getElem hjl, List.any_append, ← HA.out]; simp
        have HN := Lib.hid hnext
        obtain ⟨bz, of, rfl, hbz, hcell⟩ := Kf.out.get (k := j) (by simpa using hjl)
        rw [List.getElem_map] at hcell
        obtain ⟨y, hy⟩ : ∃ y, Z[j] = y := ⟨_, rfl⟩
        rw [hy] at hcell
        have HY := Lib.hid hy
        have i0 : (0 : Int) ≤ (j : Int) := Int.natCast_nonneg _
        have i1 : (j : Int) < (M : Int) := by omega
        clear hnext hy
        cases A with
        | true =>
          go_wp2_with fail
          go_roundw
          case rel => exact ⟨j + 1, true, Lib.hid (by rw [HN.out]; rfl), by omega, by go_num, rfl, R.out⟩
          case measure => simp [intOf]; omega
        | false =>
          go_wp2_with fail
          go_roundw
          case rel => exact ⟨j + 1, y, Lib.hid (by rw [HN.out, HY.out]; rfl), by omega, by go_num, rfl, R.out⟩
          case measure => simp [intOf]; omega
      · obtain rfl : j = M := by omega
        have hA := HA.out
        rw [List.take_of_length_le (by have := HM.out; omega)] at hA
        have HAA := Lib.hid hA
        clear hA
        go_wp2_with fail
        refine (HO.out _ E20.out).mono ?_
        rintro e21 w21 ⟨pd, cd, rfl, hlay, hb⟩
        have X21 := Lib.hid (box4 X20.out L20.out hb)
        have E21 := Lib.hid (E20.out.trans hb)
        have L21 := Lib.hid (Nat.lt_of_lt_of_le L20.out hb.size)
        try clear x0 x1 x2 x3 l
        replace Ka := Lib.hid (Ka.out.ext hb)
        replace Kb := Lib.hid (Kb.out.ext hb)
        replace Kf := Lib.hid (Kf.out.ext hb)
        replace R := Lib.hid (R.out.trans hb)
        replace RH := Lib.hid (RH.out.trans hb)
        have Kd := Lib.hid hlay
        clear hlay
        clear hb
        obtain ⟨x0, x1, x2, x3⟩ := X21.out
        have l := L21.out
        cases A with
        | true =>
          go_wp2_with fail
          refine (HC.out _ E21.out).mono ?_
          rintro e22 w22 ⟨rfl, hb⟩
          have X22 := Lib.hid (box4 X21.out L21.out hb)
          have E22 := Lib.hid (E21.out.trans hb)
          have L22 := Lib.hid (Nat.lt_of_lt_of_le L21.out hb.size)
          try clear x0 x1 x2 x3 l
          replace Ka := Lib.hid (Ka.out.ext hb)
          replace Kb := Lib.hid (Kb.out.ext hb)
          replace Kf := Lib.hid (Kf.out.ext hb)
          replace Kd := Lib.hid (Kd.out.ext hb)
          replace R := Lib.hid (R.out.trans hb)
          replace RH := Lib.hid (RH.out.trans hb)
          clear hb
          obtain ⟨x0, x1, x2, x3⟩ := X22.out
          have l := L22.out
          go_wp2_with fail
          go_ret
          exact ⟨by first | rfl | simp [hlen2] | (simp; omega), E1.out.trans E22.out⟩
        | false =>
          obtain rfl : X = Y := HAN.out HAA.out.symm
          go_wp2_with fail
          refine (DocO.LayIs.same Ka.out Kd.out).mono ?_
          rintro e22 w22 ⟨rfl, hb⟩
          have X22 := Lib.hid (box4 X21.out L21.out hb)
          have E22 := Lib.hid (E21.out.trans hb)
          have L22 := Lib.hid (Nat.lt_of_lt_of_le L21.out hb.size)
          try clear x0 x1 x2 x3 l
          replace Ka := Lib.hid (Ka.out.ext hb)
          replace Kb := Lib.hid (Kb.out.ext hb)
          replace Kf := Lib.hid (Kf.out.ext hb)
          replace Kd := Lib.hid (Kd.out.ext hb)
          replace R := Lib.hid (R.out.trans hb)
          replace RH := Lib.hid (RH.out.trans hb)
          clear hb
          obtain ⟨x0, x1, x2, x3⟩ := X22.out
          have l := L22.out
          go_wp2_with fail
          refine (HC.out _ E22.out).mono ?_
          rintro e23 w23 ⟨rfl, hb⟩
          have X23 := Lib.hid (box4 X22.out L22.out hb)
          have E23 := Lib.hid (E22.out.trans hb)
          have L23 := Lib.hid (Nat.lt_of_lt_of_le L22.out hb.size)
          try clear x0 x1 x2 x3 l
          replace Ka := Lib.hid (Ka.out.ext hb)
          replace Kb := Lib.hid (Kb.out.ext hb)
          replace Kf := Lib.hid (Kf.out.ext hb)
          replace Kd := Lib.hid (Kd.out.ext hb)
          replace R := Lib.hid (R.out.trans hb)
          replace RH := Lib.hid (RH.out.trans hb)
          clear hb
          obtain ⟨x0, x1, x2, x3⟩ := X23.out
          have l := L23.out
          go_wp2_with fail
          go_ret
          exact ⟨by first | rfl | simp [hlen2] | (simp; omega), E1.out.trans E23.out⟩

set_option maxHeartbeats 400000 in
theorem walk_big (w : World) (a0 : Option Addr) (len0 cap0 : Nat) (hl0 : 1048576 < len0) :
    Calls Try.prog 4 #[.slice a0 len0 cap0] w fun e w' => e = .returned (.bool true) ∧ Ext w w' := by
  have h1 : (1048576 : Int) < (len0 : Int) := by omega
  go_enter Try.func4, Try.ntmps4
  go_wp2_with fail
  go_ret
  exact ⟨rfl, Ext.refl w⟩

theorem walk (w : World) (a0 : Option Addr) (len0 cap0 : Nat) (hb0 : Bytes w a0 len0) (hlc0 : len0 ≤ cap0) (hcm0 : cap0 ≤ maxLen) :
    Calls Try.prog 4 #[.slice a0 len0 cap0] w fun e w' => e = .returned (.bool true) ∧ Below w.heap.size w w' := by
  by_cases h : 1048576 < len0
  · exact walk_big w a0 len0 cap0 h
  · exact walk_good w a0 len0 cap0 hb0 hlc0 hcm0 (by omega)

set_option maxRecDepth 100000 in
theorem lifted (os : Os) (started : os.Started) (H : Type) (enc : TypeId × Value → H) :
    ReturnsInHanded {} Try.checked os 4 .any (Rows.fnRenderOpenSpec.pre6 enc Try.prog Try.f4 Rows.fnRenderOpenRow.domain false) (Rows.fnRenderOpenSpec.post enc Try.prog Try.f4 false true false false) := by
  refine returnsInHanded_of_change (C := Try.checked) Facts.own started (by kernel_rfl) Try.func4
    (ChangeSpec.witness6 (enc := enc) (C := Try.checked) false ⟨#[], #[.slice none 0 0], []⟩ 8 (by kernel_rfl) (by kernel_rfl) (by kernel_rfl) (by kernel_rfl)) ?_
  intro W base args ds gs before hval0 hW hcnd0 _
  clear hcnd0
  have hval : ∀ (j : Nat) t v, Try.f4.params[j]? = some t → args[j]? = some v → Value.okWide Try.prog W .any base t v := hval0
  have hW' := hW
  obtain ⟨p, q, hA0, hV, rfl, hfz, hnd⟩ := hW
  have hA : DataW.TrodAll enc Try.prog W 0 (fun _ => true) true Try.f4.params.toList args.toList ds p := hA0
  rw [Try.params4] at hA hval
  obtain ⟨v0, d0, rfl, rfl, h0⟩ := trodAll_one hA
  obtain ⟨rfl, rfl⟩ := trodVars_none hV
  obtain ⟨a0, len0, cap0, rfl⟩ := okWide_slice Try.underlying22 (hval 0 22 v0 rfl rfl)
  clear hA0 hval0
  simp only [List.append_nil] at hW'
  have hlt : ∀ x ∈ p, x.block < W.heap.size := fun x hx => by simpa using hW'.lt x hx
  obtain ⟨hb0, hlc0, hcm0⟩ := opened h0
  refine (walk W a0 len0 cap0 hb0 hlc0 hcm0).mono fun e W' ⟨he, hb⟩ => ?_
  subst he
  refine ⟨_, rfl, [_], [], p, [], p, [], hW', trodAll_mk1 (shut_bool Try.underlying4 _), ?_, rfl, hb.frame _, fun h => by cases h⟩
  exact trodAll_mk1 (Below.trod Facts.laidOut (by kernel_rfl) (of_decide_eq_true (by kernel_rfl)) h0 hb hlt)

theorem named : Try.prog.funcNamed Rows.fnRenderOpenRow.func = some 4 := by kernel_rfl
theorem closed : joinedFacts Try.prog 4 Try.f4 Rows.fnRenderOpenSpec Rows.fnRenderOpenRow = true :=
  Facts.closed_of rfl rfl rfl rfl (h28b := rfl) (by kernel_rfl) (by kernel_rfl) (by kernel_rfl) (by kernel_rfl) (by kernel_rfl) (by kernel_rfl) (by kernel_rfl) (by kernel_rfl) (by kernel_rfl) (by kernel_rfl) (by kernel_rfl) (by kernel_rfl) (by kernel_rfl) (by kernel_rfl) (by kernel_rfl) (by kernel_rfl) (by kernel_rfl) (by kernel_rfl) (by kernel_rfl) (by kernel_rfl) (by kernel_rfl) (by kernel_rfl) (by kernel_rfl) (by kernel_rfl)
theorem instanced : Try.f4.isInstance Try.prog Rows.fnRenderOpenRow.origin Rows.fnRenderOpenRow.targs := of_decide_eq_true (by kernel_rfl)
theorem wrapped : Try.f4.isWrapper Try.prog Rows.fnRenderOpenRow.wrapper Rows.fnRenderOpenRow.mainSum := by
  unfold Func.isWrapper
  rw [if_neg (of_decide_eq_false (by kernel_rfl))]
  exact ⟨rfl, rfl⟩

theorem holds : Rows.FnRenderOpenSaid :=
  OpenClaim.holds_of_wide 4 Try.f4 rfl rfl rfl rfl rfl rfl rfl ⟨rfl, rfl, rfl, rfl, rfl⟩ rfl rfl rfl rfl rfl named Try.func4 closed instanced wrapped
    (fun os started H enc _ => lifted os started H enc)

end Go.Proofs.Ytgkbagcgbfgllaa.lawRenderOpen

