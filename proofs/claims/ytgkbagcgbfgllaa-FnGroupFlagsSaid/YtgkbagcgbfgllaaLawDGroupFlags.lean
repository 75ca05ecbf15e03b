import Derived.Test.YtgkbagcgbfgllaaDrM
import Derived.Test.YtgkbagcgbfgllaaDocF
import Derived.Test.YtgkbagcgbfgllaaDrZ
import Derived.Test.YtgkbagcgbfgllaaFacts
import Derived.Test.YtgkbagcgbfgllaaRows
import Derived.Deep.RegionHeld3
import Derived.Deep.DeepCutAuto
import Derived.Deep.RegionWith
/-
  Groups are reached: the law FnGroupFlags returns true for whatever draws, and its argument reads as it did. No condition of ours.
-/
set_option linter.unusedVariables false
set_option linter.unusedSimpArgs false
namespace Go.Proofs.Ytgkbagcgbfgllaa.lawGroupFlags
open Go.ChangeShapes Go.WideShapes Go.ChangeAt Go.RowKit P1 Draw6 LawC CntC DocK OpenR LayN ChP 

set_option maxRecDepth 100000 in
set_option maxHeartbeats 6400000 in
theorem walk_good (w : World) (a0 : Option Addr) (len0 cap0 : Nat) (hb0 : Bytes w a0 len0) (hlc0 : len0 ≤ cap0) (hcm0 : cap0 ≤ maxLen) (hl0 : len0 ≤ 1048576) :
    Calls Try.prog 9 #[.slice a0 len0 cap0] w fun e w' => e = .returned (.bool true) ∧ Ext w w' := by
  have HD0 := Lib.hid (DrR.drawGroupFlags w a0 len0 cap0 hb0 hlc0 hcm0)
  clear hb0
  unfold maxLen at hcm0
  go_enter Try.func9, Try.ntmps9
  go_wp2_with fail
  refine HD0.out.mono ?_
  rintro e1 w1 ⟨o, n, t, k, a, cap, fs, i, rfl, hi, hc, hsz, hsub, hfr, hb1⟩
  have D1 := Lib.hid (show DocK.Doc0 w1 n t k a cap fs from ⟨hsub, fun c hc => (hfr.2 c hc).2, hc, by omega⟩)
  have E1 := Lib.hid (show Ext w w1 from hb1)
  have hkl : k.len ≤ 100000 := D1.out.len
  clear hsub hfr hb1
  obtain ⟨⟨X, V⟩, hr⟩ : ∃ r, Rn.flR i o n t k = r := ⟨_, rfl⟩
  obtain ⟨⟨Y, U⟩, hr2⟩ : ∃ r, Rn.flR i 8 0 ⟨#[]⟩ (.cons o n t k .nil) = r := ⟨_, rfl⟩
  obtain ⟨C, hC⟩ : ∃ C, CntC.canD o n t k = C := ⟨_, rfl⟩
  obtain ⟨N, hN⟩ : ∃ N : Nat, (Flat.flD o t k).size = N := ⟨_, rfl⟩
  have hN1 : N ≤ 200000 := by rw [← hN]; have := Flat.flD_size o t k; omega
  have hX : X.length ≤ 1048576 := by have h := RnG.fl_len i o n t k; rw [hr] at h; exact h
  have hY : Y.length ≤ 1048576 := by have h := RnG.fl_len i 8 0 ⟨#[]⟩ (.cons o n t k .nil); rw [hr2] at h; exact h
  have HSZ := Lib.hid hsz
  have HGF := Lib.hid (show U = true → ∃ r, Y = (C && decide ((N : Int) ≤ i)) :: r ∧ ((C && decide ((N : Int) ≤ i)) = true → r = []) from fun h1 => by
    subst h1
    have h := DocR.grp_flags hr2
    rw [hC, hN] at h
    exact h)
  have HFI := Lib.hid (show ∀ W : World, Ext w1 W → Calls Try.prog 20 #[.agg #[.int .i64 o, .int .i64 n, .string t, .slice a k.len cap], .int .i64 i] W (DocR.FOut W X V) from fun W e => by have h := DocR.implFlags (D1.out.ext e) o i; rw [hr] at h; exact h)
  have HFS := Lib.hid (show ∀ W : World, Ext w1 W → Calls Try.prog 30 #[.agg #[.int .i64 o, .int .i64 n, .string t, .slice a k.len cap], .int .i64 i] W (DocR.FOut W X V) from fun W e => by have h := DocR.specFlags (D1.out.ext e) o i; rw [hr] at h; exact h)
  have HFW := Lib.hid (show ∀ W : World, Ext w1 W → Calls Try.prog 18 #[.agg #[.int .i64 o, .int .i64 n, .string t, .slice a k.len cap]] W (fun e w' => e = .returned (.tuple #[.int .i64 (Wid.orZ C N), .bool C]) ∧ Ext W w') from fun W e => by have h := DocW.implFlatWidth (D1.out.ext e) o; rw [hC, hN] at h; exact h)
  have HGO := Lib.hid (show ∀ (W : World), Ext w1 W → ∀ (T : TypeId) (W' : World), Ext (W.alloc (.cells #[.int .i64 o, .int .i64 n, .string t, .slice a k.len cap] T)) W' → Calls Try.prog 20 #[.agg #[.int .i64 8, .int .i64 0, .string ⟨#[]⟩, .slice (some ⟨W.heap.size, 0, none⟩) 1 1], .int .i64 i] W' (DocR.FOut W' Y U) from fun W e T W' e' => by have h := DocR.implFlags (DocR.around (D1.out.ext e) (by have := HSZ.out; omega) o 0 T W' e') 8 i; rw [hr2] at h; exact h)
  obtain ⟨M, hM⟩ : ∃ M : Nat, X.length = M := ⟨_, rfl⟩
  have HM := Lib.hid hM
  have hMM : ((M : Int) != (M : Int)) = false := by simp
  have hMe : ((M : Int) == (M : Int)) = true := by simp
  rw [hM] at hX
  clear hc hsz hr hr2 hC hN
  go_wp2_with fail
  refine (HFI.out _ ((Ext.refl w1).alloc _)).mono ?_
  rintro e2 w2 ⟨pf, cf, rfl, hlay, hb⟩
  have X2 := Lib.hid (box4 (box_new w1 _ _ _ _ _) (by simp) hb)
  have E2 := Lib.hid (((Ext.refl w1).alloc _).trans hb)
  have L2 := Lib.hid (show w1.heap.size < w2.heap.size from by have := hb.size; simp at this; omega)
  try clear x0 x1 x2 x3 l
  have Kf := Lib.hid hlay
  clear hlay
  clear hb
  obtain ⟨x0, x1, x2, x3⟩ := X2.out
  have l := L2.out
  try rw [hM]
  go_wp2_with fail
  refine (HFS.out _ E2.out).mono ?_
  rintro e3 w3 ⟨ph, ch, rfl, hlay, hb⟩
  have X3 := Lib.hid (box4 X2.out L2.out hb)
  have E3 := Lib.hid (E2.out.trans hb)
  have L3 := Lib.hid (Nat.lt_of_lt_of_le L2.out hb.size)
  try clear x0 x1 x2 x3 l
  replace Kf := Lib.hid (Kf.out.ext hb)
  have Kh := Lib.hid hlay
  clear hlay
  clear hb
  obtain ⟨x0, x1, x2, x3⟩ := X3.out
  have l := L3.out
  try rw [hM]
  clear hM
  cases V with
  | false =>
    go_wp2_with fail
    go_ret
    exact ⟨by first | rfl | simp, E1.out.trans E3.out⟩
  | true =>
    go_wp2_with fail
    go_loopw [9] (fun i' wr => ∃ j : Nat, j ≤ M ∧ i' = .int .i64 (j : Int) ∧ Ext w3 wr) (fun i' _ => M - (intOf i').toNat)
    case atStart => exact ⟨0, by omega, rfl, Ext.refl _⟩
    case round =>
      obtain ⟨j, hj, rfl, hext⟩ := hrel
      obtain ⟨w20, hwm⟩ : ∃ W, W = wr := ⟨_, rfl⟩
      subst hwm
      have X20 := Lib.hid (box4 X3.out L3.out hext)
      have E20 := Lib.hid (E3.out.trans hext)
      have L20 := Lib.hid (Nat.lt_of_lt_of_le L3.out hext.size)
      have R := Lib.hid hext
      have RH := Lib.hid (Ext.refl w20)
      try clear x0 x1 x2 x3 l
      replace Kf := Lib.hid (Kf.out.ext hext)
      replace Kh := Lib.hid (Kh.out.ext hext)
      clear hext
      obtain ⟨x0, x1, x2, x3⟩ := X20.out
      have l := L20.out
      by_cases hjM : j < M
      · have hjl : j < X.length := by rw [HM.out]; exact hjM
        obtain ⟨bz, of, hpf, hbz, hcell⟩ := Kf.out.get (k := j) (by simpa using hjl)
        obtain ⟨by', ofy, hph, hby, hcell2⟩ := Kh.out.get (k := j) (by simpa using hjl)
        subst hpf hph
        rw [List.getElem_map] at hcell hcell2
        obtain ⟨y, hy⟩ : ∃ y, X[j] = y := ⟨_, rfl⟩
        rw [hy] at hcell hcell2
        have hyy : (y != y) = false := by simp
        have i0 : (0 : Int) ≤ (j : Int) := Int.natCast_nonneg _
        have i1 : (j : Int) < (M : Int) := by omega
        clear hy
        go_wp2_with fail
        go_quiet (fail)
        go_wp2_with fail
        go_roundw
        case rel => exact ⟨j + 1, by omega, by go_num, R.out.trans (DocR.ext_drewN' (Ext.refl _) _)⟩
        case measure => simp [intOf]; omega
      · obtain rfl : j = M := by omega
        go_wp2_with fail
        refine (HGO.out w20 E20.out _ _ ((Ext.refl _).alloc _)).mono ?_
        rintro e21 w21 ⟨pd, cd, rfl, hlay, hb⟩
        have B21 := Lib.hid (show Ext w20 w21 from (((Ext.refl w20).alloc _).alloc _).trans hb)
        have X21 := Lib.hid (box4 X20.out L20.out B21.out)
        have E21 := Lib.hid (E20.out.trans B21.out)
        have L21 := Lib.hid (Nat.lt_of_lt_of_le L20.out B21.out.size)
        have Kd := Lib.hid hlay
        obtain ⟨Q, hQ⟩ : ∃ Q : Nat, Y.length = Q := ⟨_, rfl⟩
        have HQ := Lib.hid hQ
        rw [hQ] at hY
        try rw [hQ]
        clear hlay hb x0 x1 x2 x3 l hQ
        obtain ⟨x0, x1, x2, x3⟩ := X21.out
        have l := L21.out
        cases U with
        | false =>
          go_wp2_with fail
          go_ret
          exact ⟨by first | rfl | simp, E1.out.trans E21.out⟩
        | true =>
          go_wp2_with fail
          refine (HFW.out _ E21.out).mono ?_
          rintro e22 w22 ⟨rfl, hb⟩
          have X22 := Lib.hid (box4 X21.out L21.out hb)
          have E22 := Lib.hid (E21.out.trans hb)
          have L22 := Lib.hid (Nat.lt_of_lt_of_le L21.out hb.size)
          try clear x0 x1 x2 x3 l
          replace Kd := Lib.hid (Kd.out.ext hb)
          clear hb
          obtain ⟨x0, x1, x2, x3⟩ := X22.out
          have l := L22.out
          obtain ⟨r, hYr, hr1⟩ := HGF.out (by first | rfl | trivial)
          obtain ⟨q, hq⟩ : ∃ q, r.length = q := ⟨_, rfl⟩
          obtain rfl : Q = q + 1 := by have := HQ.out; rw [hYr] at this; simp at this; omega
          obtain ⟨bz, of, rfl, hbz, hcell⟩ := Kd.out.get (k := 0) (by rw [hYr]; simp)
          rw [List.getElem_map] at hcell
          simp only [hYr, List.getElem_cons_zero, Nat.add_zero] at hcell
          have q1 : (1 : Int) ≤ (q : Int) + 1 := by omega
          have q0 : (0 : Int) < (q : Int) + 1 := by omega
          have HR1 := Lib.hid (And.intro hr1 hq)
          clear hr1 hq hYr
          cases C with
          | false =>
            have hNz : Wid.orZ false N = 0 := rfl
            try simp only [hNz]
            go_wp2_with fail
            go_ret
            exact ⟨by first | rfl | simp, E1.out.trans E22.out⟩
          | true =>
            have hNz : Wid.orZ true N = (N : Int) := rfl
            try simp only [hNz]
            by_cases hNi : (N : Int) ≤ i
            · obtain rfl : q = 0 := by
                have h1 := HR1.out
                rw [h1.1 (by simp [hNi])] at h1
                exact h1.2.symm
              simp only [hNi, decide_true, Bool.and_self] at hcell
              go_wp2_with fail
              go_ret
              exact ⟨by first | rfl | simp [hNi] | simp, E1.out.trans E22.out⟩
            · simp only [hNi, decide_false, Bool.and_false] at hcell
              go_wp2_with fail
              go_ret
              exact ⟨by first | rfl | simp [hNi] | simp, E1.out.trans E22.out⟩

set_option maxHeartbeats 400000 in
theorem walk_big (w : World) (a0 : Option Addr) (len0 cap0 : Nat) (hl0 : 1048576 < len0) :
    Calls Try.prog 9 #[.slice a0 len0 cap0] w fun e w' => e = .returned (.bool true) ∧ Ext w w' := by
  have h1 : (1048576 : Int) < (len0 : Int) := by omega
  go_enter Try.func9, Try.ntmps9
  go_wp2_with fail
  go_ret
  exact ⟨rfl, Ext.refl w⟩

theorem walk (w : World) (a0 : Option Addr) (len0 cap0 : Nat) (hb0 : Bytes w a0 len0) (hlc0 : len0 ≤ cap0) (hcm0 : cap0 ≤ maxLen) :
    Calls Try.prog 9 #[.slice a0 len0 cap0] w fun e w' => e = .returned (.bool true) ∧ Below w.heap.size w w' := by
  by_cases h : 1048576 < len0
  · exact walk_big w a0 len0 cap0 h
  · exact walk_good w a0 len0 cap0 hb0 hlc0 hcm0 (by omega)

set_option maxRecDepth 100000 in
theorem lifted (os : Os) (started : os.Started) (H : Type) (enc : TypeId × Value → H) :
    ReturnsInHanded {} Try.checked os 9 .any (Rows.fnGroupFlagsSpec.pre6 enc Try.prog Try.f9 Rows.fnGroupFlagsRow.domain false) (Rows.fnGroupFlagsSpec.post enc Try.prog Try.f9 false true false false) := by
  refine returnsInHanded_of_change (C := Try.checked) Facts.own started (by kernel_rfl) Try.func9
    (ChangeSpec.witness6 (enc := enc) (C := Try.checked) false ⟨#[], #[.slice none 0 0], []⟩ 8 (by kernel_rfl) (by kernel_rfl) (by kernel_rfl) (by kernel_rfl)) ?_
  intro W base args ds gs before hval0 hW hcnd0 _
  clear hcnd0
  have hval : ∀ (j : Nat) t v, Try.f9.params[j]? = some t → args[j]? = some v → Value.okWide Try.prog W .any base t v := hval0
  have hW' := hW
  obtain ⟨p, q, hA0, hV, rfl, hfz, hnd⟩ := hW
  have hA : DataW.TrodAll enc Try.prog W 0 (fun _ => true) true Try.f9.params.toList args.toList ds p := hA0
  rw [Try.params9] at hA hval
  obtain ⟨v0, d0, rfl, rfl, h0⟩ := trodAll_one hA
  obtain ⟨rfl, rfl⟩ := trodVars_none hV
  obtain ⟨a0, len0, cap0, rfl⟩ := okWide_slice Try.underlying22 (hval 0 22 v0 rfl rfl)
  clear hA0 hval0
  simp only [List.append_nil] at hW'
  have hlt : ∀ x ∈ p, x.block < W.heap.size := fun x hx => by simpa using hW'.lt x hx
  obtain ⟨hb0, hlc0, hcm0⟩ := opened h0
  refine (walk W a0 len0 cap0 hb0 hlc0 hcm0).mono fun e W' ⟨he, hb⟩ => ?_
  subst he
  refine ⟨_, rfl, [_], [], p, [], p, [], hW', trodAll_mk1 (shut_bool Try.underlying4 _), ?_, rfl, hb.frame _, fun h => by cases h⟩
  exact trodAll_mk1 (Below.trod Facts.laidOut (by kernel_rfl) (of_decide_eq_true (by kernel_rfl)) h0 hb hlt)

theorem named : Try.prog.funcNamed Rows.fnGroupFlagsRow.func = some 9 := by kernel_rfl
theorem closed : joinedFacts Try.prog 9 Try.f9 Rows.fnGroupFlagsSpec Rows.fnGroupFlagsRow = true :=
  Facts.closed_of rfl rfl rfl rfl (h28b := rfl) (by kernel_rfl) (by kernel_rfl) (by kernel_rfl) (by kernel_rfl) (by kernel_rfl) (by kernel_rfl) (by kernel_rfl) (by kernel_rfl) (by kernel_rfl) (by kernel_rfl) (by kernel_rfl) (by kernel_rfl) (by kernel_rfl) (by kernel_rfl) (by kernel_rfl) (by kernel_rfl) (by kernel_rfl) (by kernel_rfl) (by kernel_rfl) (by kernel_rfl) (by kernel_rfl) (by kernel_rfl) (by kernel_rfl) (by kernel_rfl)
theorem instanced : Try.f9.isInstance Try.prog Rows.fnGroupFlagsRow.origin Rows.fnGroupFlagsRow.targs := of_decide_eq_true (by kernel_rfl)
theorem wrapped : Try.f9.isWrapper Try.prog Rows.fnGroupFlagsRow.wrapper Rows.fnGroupFlagsRow.mainSum := by
  unfold Func.isWrapper
  rw [if_neg (of_decide_eq_false (by kernel_rfl))]
  exact ⟨rfl, rfl⟩

theorem holds : Rows.FnGroupFlagsSaid :=
  OpenClaim.holds_of_wide 9 Try.f9 rfl rfl rfl rfl rfl rfl rfl ⟨rfl, rfl, rfl, rfl, rfl⟩ rfl rfl rfl rfl rfl named Try.func9 closed instanced wrapped
    (fun os started H enc _ => lifted os started H enc)

end Go.Proofs.Ytgkbagcgbfgllaa.lawGroupFlags

