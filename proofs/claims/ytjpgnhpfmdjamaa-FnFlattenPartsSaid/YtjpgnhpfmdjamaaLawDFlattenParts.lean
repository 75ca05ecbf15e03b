/-
  Flattening is by parts: the law FnFlattenParts returns true for whatever draws, and its argument reads as it did. No condition of ours.
-/
import Derived.Test.YtjpgnhpfmdjamaaDrI
import Derived.Test.YtjpgnhpfmdjamaaDocK
import Derived.Test.YtjpgnhpfmdjamaaLawC
import Derived.Test.YtjpgnhpfmdjamaaFacts
import Derived.Test.YtjpgnhpfmdjamaaRows
import Derived.Deep.RegionHeld3
import Derived.Deep.DeepCutAuto
set_option linter.unusedVariables false
set_option linter.unusedSimpArgs false
namespace Go.Proofs.Ytjpgnhpfmdjamaa.lawFlattenParts
open Go.ChangeShapes Go.WideShapes Go.ChangeAt Go.RowKit P1 Draw6 LawC CntC DocK

set_option maxRecDepth 100000 in
set_option maxHeartbeats 6400000 in
theorem walk_good (w : World) (a0 : Option Addr) (len0 cap0 : Nat) (hb0 : Bytes w a0 len0) (hlc0 : len0 ≤ cap0) (hcm0 : cap0 ≤ maxLen) (hl0 : len0 ≤ 1048576) :
    Calls Try.prog 7 #[.slice a0 len0 cap0] w fun e w' => e = .returned (.bool true) ∧ Ext w w' := by
  have HD0 := Lib.hid (DrI.drawCanFlatten w a0 len0 cap0 hb0 hlc0 hcm0)
  clear hb0
  unfold maxLen at hcm0
  go_enter Try.func7, Try.ntmps7
  go_wp2_with fail
  refine HD0.out.mono ?_
  rintro e1 w1 ⟨o, n, t, k, a, cap, fs, rfl, hc, hsz, hsub, hfr, hb1⟩
  have D1 := Lib.hid (show DocK.Doc0 w1 n t k a cap fs from ⟨hsub, fun c hc => (hfr.2 c hc).2, hc, by omega⟩)
  have E1 := Lib.hid (show Ext w w1 from hb1)
  clear hsub hfr hb1
  obtain ⟨V, hV⟩ : ∃ V, canD o n t k = V := ⟨_, rfl⟩
  have hcnt : k.cnt ≤ 100000 := by have := F.cnt_le_size k; omega
  have HVI := Lib.hid (show ∀ W : World, Ext w1 W → Calls Try.prog 24 #[.agg #[.int .i64 o, .int .i64 n, .string t, .slice a k.len cap]] W fun e w' => e = .returned (.bool V) ∧ Ext W w' from fun W e => by rw [← hV]; exact (D1.out.ext e).implCanFlatten o)
  have HVS := Lib.hid (show ∀ W : World, Ext w1 W → Calls Try.prog 33 #[.agg #[.int .i64 o, .int .i64 n, .string t, .slice a k.len cap]] W fun e w' => e = .returned (.bool V) ∧ Ext W w' from fun W e => by rw [← hV]; exact (D1.out.ext e).specCanFlatten o)
  have HV := Lib.hid (show ∀ W : World, Ext w1 W → Calls Try.prog 22 #[.agg #[.int .i64 o, .int .i64 n, .string t, .slice a k.len cap]] W fun e w' => e = .returned (.bool (validD o n t k)) ∧ Ext W w' from fun W e => (D1.out.ext e).implDocValid o)
  have hNN : (V != V) = false := by simp
  have hNe : (V == V) = true := by simp
  have hkl : k.len ≤ 100000 := D1.out.len
  clear hc hsz
  go_wp2_with fail
  refine (HVI.out _ ((Ext.refl _).alloc _)).mono ?_
  rintro e2 w2 ⟨rfl, hb2⟩
  have X2 := Lib.hid (box4 (box_new w1 _ _ _ _ _) (by simp) hb2)
  have E2 := Lib.hid (((Ext.refl w1).alloc _).trans hb2)
  have L2 := Lib.hid (show w1.heap.size < w2.heap.size from by have := hb2.size; simp at this; omega)
  clear hb2
  obtain ⟨x0, x1, x2, x3⟩ := X2.out
  have l2 := L2.out
  go_wp2_with fail
  refine (HVS.out _ E2.out).mono ?_
  rintro e3 w3 ⟨rfl, hb3⟩
  have X3 := Lib.hid (box4 X2.out L2.out hb3)
  have E3 := Lib.hid (E2.out.trans hb3)
  have L3 := Lib.hid (Nat.lt_of_lt_of_le L2.out hb3.size)
  clear hb3 x0 x1 x2 x3 l2 X2 E2 L2
  obtain ⟨x0, x1, x2, x3⟩ := X3.out
  have l3 := L3.out
  cases hv : validD o n t k with
  | false =>
    rw [hv] at HV
    have hV0 : V = false := by rw [← hV]; simp [canD, hv]
    subst hV0
    clear hV hv
    go_wp2_with fail
    refine (HV.out _ E3.out).mono ?_
    rintro e4 w4 ⟨rfl, hb4⟩
    have X4 := Lib.hid (box4 X3.out L3.out hb4)
    have E4 := Lib.hid (E3.out.trans hb4)
    clear hb4 x0 x1 x2 x3 l3
    obtain ⟨x0, x1, x2, x3⟩ := X4.out
    go_wp2_with fail
    refine (HVS.out _ E4.out).mono ?_
    rintro e5 w5 ⟨rfl, hb5⟩
    have HB5 := Lib.hid hb5
    clear hb5 x0 x1 x2 x3
    go_wp2_with fail
    go_ret
    exact ⟨by first | rfl | simp, E1.out.trans (E4.out.trans HB5.out)⟩
  | true =>
    rw [hv] at HV
    have HVV := Lib.hid (And.intro hV hv)
    clear hV hv
    go_wp2_with fail
    refine (HV.out _ E3.out).mono ?_
    rintro e4 w4 ⟨rfl, hb4⟩
    have X4 := Lib.hid (box4 X3.out L3.out hb4)
    have E4 := Lib.hid (E3.out.trans hb4)
    have L4 := Lib.hid (Nat.lt_of_lt_of_le L3.out hb4.size)
    clear hb4 x0 x1 x2 x3 l3
    obtain ⟨x0, x1, x2, x3⟩ := X4.out
    have HO := Lib.hid (show decide (opsD 5 o .nil = 0) = (o != 5) from by
      rw [opsD_eq, Bool.eq_iff_iff]
      by_cases h : o = 5 <;> simp [h, cntF])
    obtain ⟨U, hU⟩ : ∃ U : Bool, (o != 5) = U := ⟨_, rfl⟩
    rw [hU] at HO
    go_wp2_with fail
    go_loopw [5, 6] (fun s i wr => ∃ p g : F, k = p.app g ∧ s = .bool (decide (opsD 5 o p = 0)) ∧ i = .int .i64 (p.len : Int) ∧ Ext w4 wr) (fun _ i _ => k.len - (intOf i).toNat)
    case atStart => exact ⟨.nil, k, rfl, by rw [HO.out], rfl, Ext.refl _⟩
    case round =>
      obtain ⟨p, g, hk, rfl, rfl, hext⟩ := hrel
      obtain ⟨J, hp⟩ : ∃ J, p.len = J := ⟨_, rfl⟩
      obtain ⟨A, hA⟩ : ∃ A : Bool, decide (opsD 5 o p = 0) = A := ⟨_, rfl⟩
      rw [hp, hA]
      obtain ⟨x0, x1, x2, x3⟩ := box4 X4.out L4.out hext
      have lr : w1.heap.size < wr.heap.size := Nat.lt_of_lt_of_le L4.out hext.size
      have E1r := Lib.hid (E4.out.trans hext)
      have HXT := Lib.hid hext
      clear hext
      cases g with
      | nil =>
        have hkp : k = p := by rw [hk, F.app_nil]
        have hJ : J = k.len := by rw [hkp, hp]
        have hAV : A = V := by rw [← hA, ← HVV.out.1, canD_of HVV.out.2, hkp]
        subst hJ
        rw [hAV]
        clear hk hp hA hkp hAV
        go_wp2_with fail
        go_ret
        exact ⟨by first | rfl | simp, E1.out.trans E1r.out⟩
      | cons o1 n1 t1 k1 r =>
        obtain ⟨b, off, a1, c1, f1, rfl, hbl, hD, z0, z1, z2, z3⟩ := D1.out.kid' hk
        rw [hp] at z0 z1 z2 z3
        rw [← E1r.out.cell hbl] at z0 z1 z2 z3
        have HD := Lib.hid hD
        have hjl : J < k.len := by rw [hk, F.len_app, hp]; simp only [F.len]; omega
        have hpl : (p.app (.cons o1 n1 t1 k1 .nil)).len = J + 1 := by rw [F.len_app, hp]; rfl
        have hka : k = (p.app (.cons o1 n1 t1 k1 .nil)).app r := by rw [hk, F.app_assoc]; rfl
        have HK := Lib.hid (And.intro hk (And.intro hp (And.intro hpl hka)))
        have hval := HVV.out.2
        rw [hk] at hval
        have hcan : canD o1 n1 t1 k1 = decide (opsD 5 o1 k1 = 0) := canD_of (valid_kid hval)
        obtain ⟨M, hM⟩ : ∃ M : Bool, canD o1 n1 t1 k1 = M := ⟨_, rfl⟩
        have hst : decide (opsD 5 o (p.app (.cons o1 n1 t1 k1 .nil)) = 0) = (A && M) := by
          rw [← hM, hcan, ← hA, opsD_app]
          rw [Bool.eq_iff_iff]
          simp [cntF]
        have HC1 := Lib.hid (fun (W : World) (e : Ext wr W) => (HD.out.ext (E1r.out.trans e)).implCanFlatten o1)
        simp only [hM] at HC1
        have HST := Lib.hid hst
        clear hk hp hA hD hpl hka hst hM hcan hval
        cases A with
        | false =>
          go_wp2_with fail
          go_roundw
          case rel => exact ⟨p.app (.cons o1 n1 t1 k1 .nil), r, HK.out.2.2.2, by rw [HST.out]; rfl, by rw [HK.out.2.2.1]; go_num, HXT.out⟩
          case measure => simp [intOf]; omega
        | true =>
          go_wp2_with fail
          refine (HC1.out _ (Ext.refl _)).mono ?_
          rintro e7 w7 ⟨rfl, hb7⟩
          have HB7 := Lib.hid hb7
          clear hb7 x0 x1 x2 x3 z0 z1 z2 z3
          go_wp2_with fail
          go_roundw
          case rel => exact ⟨p.app (.cons o1 n1 t1 k1 .nil), r, HK.out.2.2.2, by rw [HST.out]; rfl, by rw [HK.out.2.2.1]; go_num, HXT.out.trans HB7.out⟩
          case measure => simp [intOf]; omega

set_option maxHeartbeats 400000 in
theorem walk_big (w : World) (a0 : Option Addr) (len0 cap0 : Nat) (hl0 : 1048576 < len0) :
    Calls Try.prog 7 #[.slice a0 len0 cap0] w fun e w' => e = .returned (.bool true) ∧ Ext w w' := by
  have h1 : (1048576 : Int) < (len0 : Int) := by omega
  go_enter Try.func7, Try.ntmps7
  go_wp2_with fail
  go_ret
  exact ⟨rfl, Ext.refl w⟩

theorem walk (w : World) (a0 : Option Addr) (len0 cap0 : Nat) (hb0 : Bytes w a0 len0) (hlc0 : len0 ≤ cap0) (hcm0 : cap0 ≤ maxLen) :
    Calls Try.prog 7 #[.slice a0 len0 cap0] w fun e w' => e = .returned (.bool true) ∧ Below w.heap.size w w' := by
  by_cases h : 1048576 < len0
  · exact walk_big w a0 len0 cap0 h
  · exact walk_good w a0 len0 cap0 hb0 hlc0 hcm0 (by omega)

set_option maxRecDepth 100000 in
theorem lifted (os : Os) (started : os.Started) (H : Type) (enc : TypeId × Value → H) :
    ReturnsInHanded {} Try.checked os 7 .any (Rows.fnFlattenPartsSpec.pre6 enc Try.prog Try.f7 Rows.fnFlattenPartsRow.domain false) (Rows.fnFlattenPartsSpec.post enc Try.prog Try.f7 false true false false) := by
  refine returnsInHanded_of_change (C := Try.checked) Facts.own started (by kernel_rfl) Try.func7
    (ChangeSpec.witness6 (enc := enc) (C := Try.checked) false ⟨#[], #[.slice none 0 0], []⟩ 8 (by kernel_rfl) (by kernel_rfl) (by kernel_rfl) (by kernel_rfl)) ?_
  intro W base args ds gs before hval0 hW hcnd0 _
  clear hcnd0
  have hval : ∀ (j : Nat) t v, Try.f7.params[j]? = some t → args[j]? = some v → Value.okWide Try.prog W .any base t v := hval0
  have hW' := hW
  obtain ⟨p, q, hA0, hV, rfl, hfz, hnd⟩ := hW
  have hA : DataW.TrodAll enc Try.prog W 0 (fun _ => true) true Try.f7.params.toList args.toList ds p := hA0
  rw [Try.params7] at hA hval
  obtain ⟨v0, d0, rfl, rfl, h0⟩ := trodAll_one hA
  obtain ⟨rfl, rfl⟩ := trodVars_none hV
  obtain ⟨a0, len0, cap0, rfl⟩ := okWide_slice Try.underlying22 (hval 0 22 v0 rfl rfl)
  clear hA0 hval0
  simp only [List.append_nil] at hW'
  have hlt : ∀ x ∈ p, x.block < W.heap.size := fun x hx => by simpa using hW'.lt x hx
  obtain ⟨hb0, hlc0, hcm0⟩ := opened h0
  refine (walk W a0 len0 cap0 hb0 hlc0 hcm0).mono fun e W' ⟨he, hb⟩ => ?_
  subst he
  refine ⟨_, rfl, [_], [], p, [], p, [], hW', trodAll_mk1 (shut_bool Try.underlying4 _), ?_, rfl, hb.frame _, fun h => by cases h⟩
  exact trodAll_mk1 (Below.trod Facts.laidOut (by kernel_rfl) (of_decide_eq_true (by kernel_rfl)) h0 hb hlt)

theorem named : Try.prog.funcNamed Rows.fnFlattenPartsRow.func = some 7 := by kernel_rfl
theorem closed : joinedFacts Try.prog 7 Try.f7 Rows.fnFlattenPartsSpec Rows.fnFlattenPartsRow = true :=
  Facts.closed_of rfl rfl rfl rfl (h28b := rfl) (by kernel_rfl) (by kernel_rfl) (by kernel_rfl) (by kernel_rfl) (by kernel_rfl) (by kernel_rfl) (by kernel_rfl) (by kernel_rfl) (by kernel_rfl) (by kernel_rfl) (by kernel_rfl) (by kernel_rfl) (by kernel_rfl) (by kernel_rfl) (by kernel_rfl) (by kernel_rfl) (by kernel_rfl) (by kernel_rfl) (by kernel_rfl) (by kernel_rfl) (by kernel_rfl) (by kernel_rfl) (by kernel_rfl) (by kernel_rfl)
theorem instanced : Try.f7.isInstance Try.prog Rows.fnFlattenPartsRow.origin Rows.fnFlattenPartsRow.targs := of_decide_eq_true (by kernel_rfl)
theorem wrapped : Try.f7.isWrapper Try.prog Rows.fnFlattenPartsRow.wrapper Rows.fnFlattenPartsRow.mainSum := by
  unfold Func.isWrapper
  rw [if_neg (of_decide_eq_false (by kernel_rfl))]
  exact ⟨rfl, rfl⟩

theorem holds : Rows.FnFlattenPartsSaid :=
  OpenClaim.holds_of_wide 7 Try.f7 rfl rfl rfl rfl rfl rfl rfl ⟨rfl, rfl, rfl, rfl, rfl⟩ rfl rfl rfl rfl rfl named Try.func7 closed instanced wrapped
    (fun os started H enc _ => lifted os started H enc)

end Go.Proofs.Ytjpgnhpfmdjamaa.lawFlattenParts
