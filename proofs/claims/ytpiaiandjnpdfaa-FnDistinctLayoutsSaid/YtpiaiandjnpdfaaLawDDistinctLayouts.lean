import Derived.Test.YtpiaiandjnpdfaaDrV
import Derived.Test.YtpiaiandjnpdfaaDocL
import Derived.Test.YtpiaiandjnpdfaaDrZ
import Derived.Test.YtpiaiandjnpdfaaFacts
import Derived.Test.YtpiaiandjnpdfaaRows
import Derived.Deep.RegionHeld3
import Derived.Deep.DeepCutAuto
import Derived.Deep.RegionWith
/-
  Distinct layouts are distinct: the law FnDistinctLayouts returns true for whatever draws, and its argument reads as it did. No condition of ours.
-/
set_option linter.unusedVariables false
set_option linter.unusedSimpArgs false
namespace Go.Proofs.Ytpiaiandjnpdfaa.lawDistinctLayouts
open Go.ChangeShapes Go.WideShapes Go.ChangeAt Go.RowKit P1 Draw6 LawC CntC DocK OpenR LayN ChP 

set_option maxRecDepth 100000 in
set_option maxHeartbeats 6400000 in
theorem walk_good (w : World) (a0 : Option Addr) (len0 cap0 : Nat) (hb0 : Bytes w a0 len0) (hlc0 : len0 ≤ cap0) (hcm0 : cap0 ≤ maxLen) (hl0 : len0 ≤ 1048576) :
    Calls Try.prog 4 #[.slice a0 len0 cap0] w fun e w' => e = .returned (.bool true) ∧ Ext w w' := by
  have HD0 := Lib.hid (DrN.drawDistinctLayouts w a0 len0 cap0 hb0 hlc0 hcm0)
  clear hb0
  unfold maxLen at hcm0
  go_enter Try.func4, Try.ntmps4
  go_wp2_with fail
  refine HD0.out.mono ?_
  rintro e1 w1 ⟨o, n, t, k, a, cap, fs, rfl, hc, hsz, hsub, hfr, hb1⟩
  have D1 := Lib.hid (show DocK.Doc0 w1 n t k a cap fs from ⟨hsub, fun c hc => (hfr.2 c hc).2, hc, by omega⟩)
  have E1 := Lib.hid (show Ext w w1 from hb1)
  have hkl : k.len ≤ 100000 := D1.out.len
  clear hsub hfr hb1
  obtain ⟨X, hX⟩ : ∃ X, Ls.dist (It.laysD o n t k) = X := ⟨_, rfl⟩
  obtain ⟨V, hV⟩ : ∃ V, It.toldD o n t k = V := ⟨_, rfl⟩
  have HSZ := Lib.hid hsz
  have HXV := Lib.hid (And.intro hX hV)
  have HXI := Lib.hid (show ∀ W : World, Ext w1 W → Calls Try.prog 23 #[.agg #[.int .i64 o, .int .i64 n, .string t, .slice a k.len cap]] W (DocL.LOut W X V) from fun W e => by have h := DocL.implDist (D1.out.ext e) o; rw [hX, hV] at h; exact h)
  have HXS := Lib.hid (show ∀ W : World, Ext w1 W → Calls Try.prog 24 #[.agg #[.int .i64 o, .int .i64 n, .string t, .slice a k.len cap]] W (DocL.LOut W X V) from fun W e => by have h := DocL.specDist (D1.out.ext e) o; rw [hX, hV] at h; exact h)
  clear hc hsz hX hV
  go_wp2_with fail
  refine (HXI.out _ ((Ext.refl w1).alloc _)).mono ?_
  rintro e2 w2 ⟨pa, ca, rfl, hlay, hb⟩
  have X2 := Lib.hid (box4 (box_new w1 _ _ _ _ _) (by simp) hb)
  have E2 := Lib.hid (((Ext.refl w1).alloc _).trans hb)
  have L2 := Lib.hid (show w1.heap.size < w2.heap.size from by have := hb.size; simp at this; omega)
  try clear x0 x1 x2 x3 l
  have Ka := Lib.hid hlay
  clear hlay
  clear hb
  obtain ⟨x0, x1, x2, x3⟩ := X2.out
  have l := L2.out
  go_wp2_with fail
  refine (HXS.out _ E2.out).mono ?_
  rintro e3 w3 ⟨pb, cb, rfl, hlay, hb⟩
  have X3 := Lib.hid (box4 X2.out L2.out hb)
  have E3 := Lib.hid (E2.out.trans hb)
  have L3 := Lib.hid (Nat.lt_of_lt_of_le L2.out hb.size)
  try clear x0 x1 x2 x3 l
  replace Ka := Lib.hid (Ka.out.ext hb)
  have Kb := Lib.hid hlay
  clear hlay
  clear hb
  obtain ⟨x0, x1, x2, x3⟩ := X3.out
  have l := L3.out
  go_wp2_with fail
  refine (DocL.daSame Ka.out Kb.out).mono ?_
  rintro e4 w4 ⟨rfl, hb⟩
  have X4 := Lib.hid (box4 X3.out L3.out hb)
  have E4 := Lib.hid (E3.out.trans hb)
  have L4 := Lib.hid (Nat.lt_of_lt_of_le L3.out hb.size)
  try clear x0 x1 x2 x3 l
  replace Ka := Lib.hid (Ka.out.ext hb)
  replace Kb := Lib.hid (Kb.out.ext hb)
  clear hb
  obtain ⟨x0, x1, x2, x3⟩ := X4.out
  have l := L4.out
  cases V with
  | false =>
    go_wp2_with fail
    refine (DocL.daSame Ka.out Kb.out).mono ?_
    rintro e5 w5 ⟨rfl, hb⟩
    have X5 := Lib.hid (box4 X4.out L4.out hb)
    have E5 := Lib.hid (E4.out.trans hb)
    have L5 := Lib.hid (Nat.lt_of_lt_of_le L4.out hb.size)
    try clear x0 x1 x2 x3 l
    replace Ka := Lib.hid (Ka.out.ext hb)
    replace Kb := Lib.hid (Kb.out.ext hb)
    clear hb
    obtain ⟨x0, x1, x2, x3⟩ := X5.out
    have l := L5.out
    go_wp2_with fail
    go_ret
    exact ⟨by first | rfl | simp, E1.out.trans E5.out⟩
  | true =>
    obtain ⟨hX, hV⟩ := HXV.out
    obtain ⟨A, hA⟩ : ∃ A, It.laysD o n t k = A := ⟨_, rfl⟩
    have hAp : 0 < A.length := by rw [← hA]; exact It.lays_pos hV
    rw [hA] at hX
    obtain ⟨M, hM⟩ : ∃ M : Nat, X.length = M := ⟨_, rfl⟩
    obtain ⟨Q, hQ⟩ : ∃ Q : Nat, A.length = Q := ⟨_, rfl⟩
    have hMQ : (M : Int) ≤ (Q : Int) := by
      have := Ls.dist_len A
      rw [hX] at this
      omega
    have hM1 : 1 ≤ M := by
      have h1 := (Ls.dist_mem A A[0]).2 (List.getElem_mem hAp)
      rw [hX] at h1
      have := List.length_pos_of_mem h1
      omega
    have hM3 : M ≤ 300 := by rw [← hM]; exact Ka.out.few
    have hM1i : 1 ≤ (M : Int) := by omega
    have hnd : X.Nodup := by rw [← hX]; exact Ls.dist_nodup A
    have hin : ∀ x ∈ X, Ls.inL A x = true := fun x hx => Ls.inL_iff.2 ((Ls.dist_mem A x).1 (by rw [hX]; exact hx))
    have HM := Lib.hid hM
    have HND := Lib.hid hnd
    have HIN := Lib.hid hin
    have HA := Lib.hid (show ∀ W : World, Ext w1 W → Calls Try.prog 15 #[.agg #[.int .i64 o, .int .i64 n, .string t, .slice a k.len cap]] W (DocL.LOut W A true) from fun W e => by have h := DocL.implLays (D1.out.ext e) o; rw [hA, hV] at h; exact h)
    have HHA := Lib.hid (show ∀ (W : World), Ext w1 W → ∀ (x : Ls.Lay) (al : Option Addr) (cl : Nat), DocO.LayIs W x al cl → Calls Try.prog 25 #[.agg #[.int .i64 o, .int .i64 n, .string t, .slice a k.len cap], .slice al x.length cl] W (fun e w' => e = .returned (.bool (Ls.inL A x)) ∧ Ext W w') from fun W e x al cl hx => by
      have h := DocL.implHas (D1.out.ext e) o hx
      rw [hA] at h; exact h)
    clear hnd hin hX hV hA hAp
    go_wp2_with fail
    refine (HA.out _ E4.out).mono ?_
    rintro e5 w5 ⟨pc, cc, rfl, hlay, hb⟩
    have X5 := Lib.hid (box4 X4.out L4.out hb)
    have E5 := Lib.hid (E4.out.trans hb)
    have L5 := Lib.hid (Nat.lt_of_lt_of_le L4.out hb.size)
    try clear x0 x1 x2 x3 l
    replace Ka := Lib.hid (Ka.out.ext hb)
    replace Kb := Lib.hid (Kb.out.ext hb)
    have Kc := Lib.hid hlay
    clear hlay
    clear hb
    obtain ⟨x0, x1, x2, x3⟩ := X5.out
    have l := L5.out
    try rw [hM]
    try rw [hQ]
    clear hM hQ
    go_wp2_with fail
    go_loopw [10] (fun i wr => ∃ j : Nat, j ≤ M ∧ i = .int .i64 (j : Int) ∧ Ext w5 wr) (fun i _ => M - (intOf i).toNat)
    case atStart => exact ⟨0, by omega, rfl, Ext.refl _⟩
    case round =>
      obtain ⟨j, hj, rfl, hext⟩ := hrel
      obtain ⟨w20, hwm⟩ : ∃ W, W = wr := ⟨_, rfl⟩
      subst hwm
      have X20 := Lib.hid (box4 X5.out L5.out hext)
      have E20 := Lib.hid (E5.out.trans hext)
      have L20 := Lib.hid (Nat.lt_of_lt_of_le L5.out hext.size)
      have R := Lib.hid hext
      have RH := Lib.hid (Ext.refl w20)
      try clear x0 x1 x2 x3 l
      replace Ka := Lib.hid (Ka.out.ext hext)
      replace Kb := Lib.hid (Kb.out.ext hext)
      replace Kc := Lib.hid (Kc.out.ext hext)
      clear hext
      obtain ⟨x0, x1, x2, x3⟩ := X20.out
      have l := L20.out
      by_cases hjM : j < M
      · have hjl : j < X.length := by rw [HM.out]; exact hjM
        have i0 : (0 : Int) ≤ (j : Int) := Int.natCast_nonneg _
        have i1 : (j : Int) < (M : Int) := by omega
        obtain ⟨be, ofe, ae, ce, hae, hbl, hcell, hel⟩ := Ka.out.get hjl
        obtain ⟨Ye, hY⟩ : ∃ Y, X[j] = Y := ⟨_, rfl⟩
        have HYe := Lib.hid hY
        rw [hY] at hcell hel
        have HCE := Lib.hid (fun (W : World) (e : Ext w20 W) => (e.cell hbl).trans hcell)
        have Ke := Lib.hid hel
        clear hbl hcell hel hY
        subst hae
        go_wp2_with fail
        go_loopw [11] (fun i wr => ∃ q : Nat, q ≤ j ∧ i = .int .i64 (q : Int) ∧ Ext w20 wr) (fun i _ => j - (intOf i).toNat)
        case atStart => exact ⟨0, by omega, rfl, Ext.refl _⟩
        case round =>
          obtain ⟨q, hq, rfl, hext⟩ := hrel
          obtain ⟨w40, hwm⟩ : ∃ W, W = wr := ⟨_, rfl⟩
          subst hwm
          have X40 := Lib.hid (box4 X20.out L20.out hext)
          have E40 := Lib.hid (E20.out.trans hext)
          have L40 := Lib.hid (Nat.lt_of_lt_of_le L20.out hext.size)
          have T := Lib.hid hext
          have TH := Lib.hid (Ext.refl w40)
          try clear x0 x1 x2 x3 l
          replace Ka := Lib.hid (Ka.out.ext hext)
          replace Kb := Lib.hid (Kb.out.ext hext)
          replace Kc := Lib.hid (Kc.out.ext hext)
          replace Ke := Lib.hid (Ke.out.ext hext)
          replace R := Lib.hid (R.out.trans hext)
          replace RH := Lib.hid (RH.out.trans hext)
          clear hext
          obtain ⟨x0, x1, x2, x3⟩ := X40.out
          have l := L40.out
          by_cases hqj : q < j
          · have hql : q < X.length := by rw [HM.out]; omega
            have q0 : (0 : Int) ≤ (q : Int) := Int.natCast_nonneg _
            have q1 : (q : Int) < (M : Int) := by omega
            have q2 : (q : Int) < (j : Int) := by omega
            obtain ⟨bf, off, af, cf, haf, hbl, hcell, hel⟩ := Ka.out.get hql
            obtain ⟨Yf, hY⟩ : ∃ Y, X[q] = Y := ⟨_, rfl⟩
            have HYf := Lib.hid hY
            rw [hY] at hcell hel
            have HCF := Lib.hid (fun (W : World) (e : Ext w40 W) => (e.cell hbl).trans hcell)
            have Kf := Lib.hid hel
            clear hbl hcell hel hY
            cases haf
            have hne : decide (Ye = Yf) = false := by
              rw [decide_eq_false_iff_not]
              intro hh
              have h1 := HYe.out
              have h2 := HYf.out
              rw [← hh, ← h1] at h2
              exact List.pairwise_iff_getElem.1 HND.out q j hql hjl hqj h2
            have HNE := Lib.hid hne
            have hcell := HCE.out _ T.out
            have hcell2 := HCF.out _ (Ext.refl _)
            have lbe : be < w40.heap.size := World.block_lt_of_cell? w40 _ hcell2
            clear hne
            go_wp2_with fail
            go_still_tail 8, (by kernel_rfl)
            go_wp2_with (go_at_call 20; refine (DocL.LayIs.sameB (Ke.out.ext (by first | exact Ext.refl _ | exact (Ext.refl _).drew)) (Kf.out.ext (by first | exact Ext.refl _ | exact (Ext.refl _).drew))).mono ?_; rw [HNE.out]; rintro e41 w41 ⟨rfl, hb⟩)
            go_roundw
            case rel => exact ⟨q + 1, by omega, by go_num, T.out.trans ((Ext.refl _).drew.trans hb)⟩
            case measure => simp [intOf]; omega
          · obtain rfl : q = j := by omega
            have hcell := HCE.out _ T.out
            have lbe : be < w40.heap.size := World.block_lt_of_cell? w40 _ hcell
            have hhas := HIN.out _ (List.getElem_mem hjl)
            rw [HYe.out] at hhas
            have HHAS := Lib.hid hhas
            clear hhas
            go_wp2_with fail
            go_still_tail 5, (by kernel_rfl)
            go_wp2_with (go_at_call 25; refine (HHA.out _ (by first | exact E40.out | exact E40.out.drew) _ _ _ (Ke.out.ext (by first | exact Ext.refl _ | exact (Ext.refl _).drew))).mono ?_; rw [HHAS.out]; rintro e41 w41 ⟨rfl, hb⟩)
            go_roundw
            case rel => exact ⟨q + 1, by omega, by go_num, R.out.trans ((Ext.refl _).drew.trans hb)⟩
            case measure => simp [intOf]; omega
      · obtain rfl : j = M := by omega
        go_wp2_with fail
        go_ret
        exact ⟨by first | rfl | simp [hM1i, hMQ] | simp, E1.out.trans E20.out⟩

set_option maxHeartbeats 400000 in
theorem walk_big (w : World) (a0 : Option Addr) (len0 cap0 : Nat) (hl0 : 1048576 < len0) :
    Calls Try.prog 4 #[.slice a0 len0 cap0] w fun e w' => e = .returned (.bool true) ∧ Ext w w' := by
  have h1 : (1048576 : Int) < (len0 : Int) := by omega
  go_enter Try.func4, Try.ntmps4
  go_wp2_with fail
  go_ret
  exact ⟨rfl, Ext.refl w⟩

theorem walk (w : World) (a0 : Option Addr) (len0 cap0 : Nat) (hb0 : Bytes w a0 len0) (hlc0 : len0 ≤ cap0) (hcm0 : cap0 ≤ maxLen) :
    Calls Try.prog 4 #[.slice a0 len0 cap0] w fun e w' => e = .returned (.bool true) ∧ Below w.heap.size w w' := by
  by_cases h : 1048576 < len0
  · exact walk_big w a0 len0 cap0 h
  · exact walk_good w a0 len0 cap0 hb0 hlc0 hcm0 (by omega)

set_option maxRecDepth 100000 in
theorem lifted (os : Os) (started : os.Started) (H : Type) (enc : TypeId × Value → H) :
    ReturnsInHanded {} Try.checked os 4 .any (Rows.fnDistinctLayoutsSpec.pre6 enc Try.prog Try.f4 Rows.fnDistinctLayoutsRow.domain false) (Rows.fnDistinctLayoutsSpec.post enc Try.prog Try.f4 false true false false) := by
  refine returnsInHanded_of_change (C := Try.checked) Facts.own started (by kernel_rfl) Try.func4
    (ChangeSpec.witness6 (enc := enc) (C := Try.checked) false ⟨#[], #[.slice none 0 0], []⟩ 8 (by kernel_rfl) (by kernel_rfl) (by kernel_rfl) (by kernel_rfl)) ?_
  intro W base args ds gs before hval0 hW hcnd0 _
  clear hcnd0
  have hval : ∀ (j : Nat) t v, Try.f4.params[j]? = some t → args[j]? = some v → Value.okWide Try.prog W .any base t v := hval0
  have hW' := hW
  obtain ⟨p, q, hA0, hV, rfl, hfz, hnd⟩ := hW
  have hA : DataW.TrodAll enc Try.prog W 0 (fun _ => true) true Try.f4.params.toList args.toList ds p := hA0
  rw [Try.params4] at hA hval
  obtain ⟨v0, d0, rfl, rfl, h0⟩ := trodAll_one hA
  obtain ⟨rfl, rfl⟩ := trodVars_none hV
  obtain ⟨a0, len0, cap0, rfl⟩ := okWide_slice Try.underlying22 (hval 0 22 v0 rfl rfl)
  clear hA0 hval0
  simp only [List.append_nil] at hW'
  have hlt : ∀ x ∈ p, x.block < W.heap.size := fun x hx => by simpa using hW'.lt x hx
  obtain ⟨hb0, hlc0, hcm0⟩ := opened h0
  refine (walk W a0 len0 cap0 hb0 hlc0 hcm0).mono fun e W' ⟨he, hb⟩ => ?_
  subst he
  refine ⟨_, rfl, [_], [], p, [], p, [], hW', trodAll_mk1 (shut_bool Try.underlying4 _), ?_, rfl, hb.frame _, fun h => by cases h⟩
  exact trodAll_mk1 (Below.trod Facts.laidOut (by kernel_rfl) (of_decide_eq_true (by kernel_rfl)) h0 hb hlt)

theorem named : Try.prog.funcNamed Rows.fnDistinctLayoutsRow.func = some 4 := by kernel_rfl
theorem closed : joinedFacts Try.prog 4 Try.f4 Rows.fnDistinctLayoutsSpec Rows.fnDistinctLayoutsRow = true :=
  Facts.closed_of rfl rfl rfl rfl (h28b := rfl) (by kernel_rfl) (by kernel_rfl) (by kernel_rfl) (by kernel_rfl) (by kernel_rfl) (by kernel_rfl) (by kernel_rfl) (by kernel_rfl) (by kernel_rfl) (by kernel_rfl) (by kernel_rfl) (by kernel_rfl) (by kernel_rfl) (by kernel_rfl) (by kernel_rfl) (by kernel_rfl) (by kernel_rfl) (by kernel_rfl) (by kernel_rfl) (by kernel_rfl) (by kernel_rfl) (by kernel_rfl) (by kernel_rfl) (by kernel_rfl)
theorem instanced : Try.f4.isInstance Try.prog Rows.fnDistinctLayoutsRow.origin Rows.fnDistinctLayoutsRow.targs := of_decide_eq_true (by kernel_rfl)
theorem wrapped : Try.f4.isWrapper Try.prog Rows.fnDistinctLayoutsRow.wrapper Rows.fnDistinctLayoutsRow.mainSum := by
  unfold Func.isWrapper
  rw [if_neg (of_decide_eq_false (by kernel_rfl))]
  exact ⟨rfl, rfl⟩

theorem holds : Rows.FnDistinctLayoutsSaid :=
  OpenClaim.holds_of_wide 4 Try.f4 rfl rfl rfl rfl rfl rfl rfl ⟨rfl, rfl, rfl, rfl, rfl⟩ rfl rfl rfl rfl rfl named Try.func4 closed instanced wrapped
    (fun os started H enc _ => lifted os started H enc)

end Go.Proofs.Ytpiaiandjnpdfaa.lawDistinctLayouts

