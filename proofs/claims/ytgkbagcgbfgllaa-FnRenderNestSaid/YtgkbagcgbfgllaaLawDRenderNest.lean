import Derived.Test.YtgkbagcgbfgllaaDrM
import Derived.Test.YtgkbagcgbfgllaaDocR
import Derived.Test.YtgkbagcgbfgllaaDrZ
import Derived.Test.YtgkbagcgbfgllaaFacts
import Derived.Test.YtgkbagcgbfgllaaRows
import Derived.Deep.RegionHeld3
import Derived.Deep.DeepCutAuto
import Derived.Deep.RegionWith
/-
  Nests of 0 change nothing: the law FnRenderNest returns true for whatever draws, and its argument reads as it did. No condition of ours.
-/
set_option linter.unusedVariables false
set_option linter.unusedSimpArgs false
namespace Go.Proofs.Ytgkbagcgbfgllaa.lawRenderNest
open Go.ChangeShapes Go.WideShapes Go.ChangeAt Go.RowKit P1 Draw6 LawC CntC DocK OpenR LayN ChP 

set_option maxRecDepth 100000 in
set_option maxHeartbeats 6400000 in
theorem walk_good (w : World) (a0 : Option Addr) (len0 cap0 : Nat) (hb0 : Bytes w a0 len0) (hlc0 : len0 ≤ cap0) (hcm0 : cap0 ≤ maxLen) (hl0 : len0 ≤ 1048576) :
    Calls Try.prog 6 #[.slice a0 len0 cap0] w fun e w' => e = .returned (.bool true) ∧ Ext w w' := by
  have HD0 := Lib.hid (DrR.drawRenderDoc w a0 len0 cap0 hb0 hlc0 hcm0)
  clear hb0
  unfold maxLen at hcm0
  go_enter Try.func6, Try.ntmps6
  go_wp2_with fail
  refine HD0.out.mono ?_
  rintro e1 w1 ⟨o, n, t, k, a, cap, fs, i, rfl, hi, hc, hsz, hsub, hfr, hb1⟩
  have D1 := Lib.hid (show DocK.Doc0 w1 n t k a cap fs from ⟨hsub, fun c hc => (hfr.2 c hc).2, hc, by omega⟩)
  have E1 := Lib.hid (show Ext w w1 from hb1)
  have hkl : k.len ≤ 100000 := D1.out.len
  clear hsub hfr hb1
  obtain ⟨⟨X, V⟩, hr⟩ : ∃ r, Rn.rnR i o n t k = r := ⟨_, rfl⟩
  have HSZ := Lib.hid hsz
  have HR := Lib.hid hr
  have HXI := Lib.hid (show ∀ W : World, Ext w1 W → Calls Try.prog 15 #[.agg #[.int .i64 o, .int .i64 n, .string t, .slice a k.len cap], .int .i64 i] W (DocO.Out W X V) from fun W e => by have h := DocR.implRender (D1.out.ext e) o i; rw [hr] at h; exact h)
  have HXS := Lib.hid (show ∀ W : World, Ext w1 W → Calls Try.prog 16 #[.agg #[.int .i64 o, .int .i64 n, .string t, .slice a k.len cap], .int .i64 i] W (DocO.Out W X V) from fun W e => by have h := DocR.specRender (D1.out.ext e) o i; rw [hr] at h; exact h)
  clear hc hsz hr
  go_wp2_with fail
  refine (HXI.out _ ((Ext.refl w1).alloc _)).mono ?_
  rintro e2 w2 ⟨pa, ca, rfl, hlay, hb⟩
  have X2 := Lib.hid (box4 (box_new w1 _ _ _ _ _) (by simp) hb)
  have E2 := Lib.hid (((Ext.refl w1).alloc _).trans hb)
  have L2 := Lib.hid (show w1.heap.size < w2.heap.size from by have := hb.size; simp at this; omega)
  try clear x0 x1 x2 x3 l
  have Ka := Lib.hid hlay
  clear hlay
  clear hb
  obtain ⟨x0, x1, x2, x3⟩ := X2.out
  have l := L2.out
  go_wp2_with fail
  refine (HXS.out _ E2.out).mono ?_
  rintro e3 w3 ⟨pb, cb, rfl, hlay, hb⟩
  have X3 := Lib.hid (box4 X2.out L2.out hb)
  have E3 := Lib.hid (E2.out.trans hb)
  have L3 := Lib.hid (Nat.lt_of_lt_of_le L2.out hb.size)
  try clear x0 x1 x2 x3 l
  replace Ka := Lib.hid (Ka.out.ext hb)
  have Kb := Lib.hid hlay
  clear hlay
  clear hb
  obtain ⟨x0, x1, x2, x3⟩ := X3.out
  have l := L3.out
  obtain ⟨⟨Y, U⟩, hr2⟩ : ∃ r, Rn.rnR i 6 0 ⟨#[]⟩ (.cons o n t k .nil) = r := ⟨_, rfl⟩
  have HON := Lib.hid (show ∀ (W : World), Ext w1 W → ∀ (T : TypeId) (W' : World), Ext (W.alloc (.cells #[.int .i64 o, .int .i64 n, .string t, .slice a k.len cap] T)) W' → Calls Try.prog 15 #[.agg #[.int .i64 6, .int .i64 0, .string ⟨#[]⟩, .slice (some ⟨W.heap.size, 0, none⟩) 1 1], .int .i64 i] W' (DocO.Out W' Y U) from fun W e T W' e' => by have h := DocR.implRender (DocR.around (D1.out.ext e) (by have := HSZ.out; omega) o 0 T W' e') 6 i; rw [hr2] at h; exact h)
  have HYX := Lib.hid (show V = true → U = true → Y = X from fun h1 h2 => by
    subst h1; subst h2
    exact DocR.nest0_layout hr2 HR.out)
  clear hr2
  cases V with
  | false =>
    go_wp2_with fail
    refine (DocO.LayIs.same Ka.out Kb.out).mono ?_
    rintro e4 w4 ⟨rfl, hb⟩
    have X4 := Lib.hid (box4 X3.out L3.out hb)
    have E4 := Lib.hid (E3.out.trans hb)
    have L4 := Lib.hid (Nat.lt_of_lt_of_le L3.out hb.size)
    try clear x0 x1 x2 x3 l
    replace Ka := Lib.hid (Ka.out.ext hb)
    replace Kb := Lib.hid (Kb.out.ext hb)
    clear hb
    obtain ⟨x0, x1, x2, x3⟩ := X4.out
    have l := L4.out
    go_wp2_with fail
    refine (DocO.LayIs.same Ka.out Kb.out).mono ?_
    rintro e5 w5 ⟨rfl, hb⟩
    have X5 := Lib.hid (box4 X4.out L4.out hb)
    have E5 := Lib.hid (E4.out.trans hb)
    have L5 := Lib.hid (Nat.lt_of_lt_of_le L4.out hb.size)
    try clear x0 x1 x2 x3 l
    replace Ka := Lib.hid (Ka.out.ext hb)
    replace Kb := Lib.hid (Kb.out.ext hb)
    clear hb
    obtain ⟨x0, x1, x2, x3⟩ := X5.out
    have l := L5.out
    go_wp2_with fail
    go_ret
    exact ⟨by first | rfl | simp, E1.out.trans E5.out⟩
  | true =>
    go_wp2_with fail
    refine (DocO.LayIs.same Ka.out Kb.out).mono ?_
    rintro e4 w4 ⟨rfl, hb⟩
    have X4 := Lib.hid (box4 X3.out L3.out hb)
    have E4 := Lib.hid (E3.out.trans hb)
    have L4 := Lib.hid (Nat.lt_of_lt_of_le L3.out hb.size)
    try clear x0 x1 x2 x3 l
    replace Ka := Lib.hid (Ka.out.ext hb)
    replace Kb := Lib.hid (Kb.out.ext hb)
    clear hb
    obtain ⟨x0, x1, x2, x3⟩ := X4.out
    have l := L4.out
    go_wp2_with fail
    refine (HON.out w4 E4.out _ _ ((Ext.refl _).alloc _)).mono ?_
    rintro e5 w5 ⟨pd, cd, rfl, hlay, hb⟩
    have B5 := Lib.hid (show Ext w4 w5 from (((Ext.refl w4).alloc _).alloc _).trans hb)
    have X5 := Lib.hid (box4 X4.out L4.out B5.out)
    have E5 := Lib.hid (E4.out.trans B5.out)
    have L5 := Lib.hid (Nat.lt_of_lt_of_le L4.out B5.out.size)
    replace Ka := Lib.hid (Ka.out.ext B5.out)
    replace Kb := Lib.hid (Kb.out.ext B5.out)
    have Kd := Lib.hid hlay
    clear hlay hb x0 x1 x2 x3 l
    cases U with
    | false =>
      go_wp2_with fail
      go_ret
      exact ⟨by first | rfl | simp, E1.out.trans E5.out⟩
    | true =>
      obtain rfl : Y = X := by first | exact HYX.out rfl rfl | exact HYX.out trivial rfl | exact HYX.out trivial trivial | exact HYX.out rfl trivial
      go_wp2_with fail
      refine (DocO.LayIs.same Kd.out Ka.out).mono ?_
      rintro e6 w6 ⟨rfl, hb⟩
      have X6 := Lib.hid (box4 X5.out L5.out hb)
      have E6 := Lib.hid (E5.out.trans hb)
      have L6 := Lib.hid (Nat.lt_of_lt_of_le L5.out hb.size)
      try clear x0 x1 x2 x3 l
      replace Ka := Lib.hid (Ka.out.ext hb)
      replace Kb := Lib.hid (Kb.out.ext hb)
      replace Kd := Lib.hid (Kd.out.ext hb)
      clear hb
      go_wp2_with fail
      go_ret
      exact ⟨by first | rfl | simp, E1.out.trans E6.out⟩

set_option maxHeartbeats 400000 in
theorem walk_big (w : World) (a0 : Option Addr) (len0 cap0 : Nat) (hl0 : 1048576 < len0) :
    Calls Try.prog 6 #[.slice a0 len0 cap0] w fun e w' => e = .returned (.bool true) ∧ Ext w w' := by
  have h1 : (1048576 : Int) < (len0 : Int) := by omega
  go_enter Try.func6, Try.ntmps6
  go_wp2_with fail
  go_ret
  exact ⟨rfl, Ext.refl w⟩

theorem walk (w : World) (a0 : Option Addr) (len0 cap0 : Nat) (hb0 : Bytes w a0 len0) (hlc0 : len0 ≤ cap0) (hcm0 : cap0 ≤ maxLen) :
    Calls Try.prog 6 #[.slice a0 len0 cap0] w fun e w' => e = .returned (.bool true) ∧ Below w.heap.size w w' := by
  by_cases h : 1048576 < len0
  · exact walk_big w a0 len0 cap0 h
  · exact walk_good w a0 len0 cap0 hb0 hlc0 hcm0 (by omega)

set_option maxRecDepth 100000 in
theorem lifted (os : Os) (started : os.Started) (H : Type) (enc : TypeId × Value → H) :
    ReturnsInHanded {} Try.checked os 6 .any (Rows.fnRenderNestSpec.pre6 enc Try.prog Try.f6 Rows.fnRenderNestRow.domain false) (Rows.fnRenderNestSpec.post enc Try.prog Try.f6 false true false false) := by
  refine returnsInHanded_of_change (C := Try.checked) Facts.own started (by kernel_rfl) Try.func6
    (ChangeSpec.witness6 (enc := enc) (C := Try.checked) false ⟨#[], #[.slice none 0 0], []⟩ 8 (by kernel_rfl) (by kernel_rfl) (by kernel_rfl) (by kernel_rfl)) ?_
  intro W base args ds gs before hval0 hW hcnd0 _
  clear hcnd0
  have hval : ∀ (j : Nat) t v, Try.f6.params[j]? = some t → args[j]? = some v → Value.okWide Try.prog W .any base t v := hval0
  have hW' := hW
  obtain ⟨p, q, hA0, hV, rfl, hfz, hnd⟩ := hW
  have hA : DataW.TrodAll enc Try.prog W 0 (fun _ => true) true Try.f6.params.toList args.toList ds p := hA0
  rw [Try.params6] at hA hval
  obtain ⟨v0, d0, rfl, rfl, h0⟩ := trodAll_one hA
  obtain ⟨rfl, rfl⟩ := trodVars_none hV
  obtain ⟨a0, len0, cap0, rfl⟩ := okWide_slice Try.underlying22 (hval 0 22 v0 rfl rfl)
  clear hA0 hval0
  simp only [List.append_nil] at hW'
  have hlt : ∀ x ∈ p, x.block < W.heap.size := fun x hx => by simpa using hW'.lt x hx
  obtain ⟨hb0, hlc0, hcm0⟩ := opened h0
  refine (walk W a0 len0 cap0 hb0 hlc0 hcm0).mono fun e W' ⟨he, hb⟩ => ?_
  subst he
  refine ⟨_, rfl, [_], [], p, [], p, [], hW', trodAll_mk1 (shut_bool Try.underlying4 _), ?_, rfl, hb.frame _, fun h => by cases h⟩
  exact trodAll_mk1 (Below.trod Facts.laidOut (by kernel_rfl) (of_decide_eq_true (by kernel_rfl)) h0 hb hlt)

theorem named : Try.prog.funcNamed Rows.fnRenderNestRow.func = some 6 := by kernel_rfl
theorem closed : joinedFacts Try.prog 6 Try.f6 Rows.fnRenderNestSpec Rows.fnRenderNestRow = true :=
  Facts.closed_of rfl rfl rfl rfl (h28b := rfl) (by kernel_rfl) (by kernel_rfl) (by kernel_rfl) (by kernel_rfl) (by kernel_rfl) (by kernel_rfl) (by kernel_rfl) (by kernel_rfl) (by kernel_rfl) (by kernel_rfl) (by kernel_rfl) (by kernel_rfl) (by kernel_rfl) (by kernel_rfl) (by kernel_rfl) (by kernel_rfl) (by kernel_rfl) (by kernel_rfl) (by kernel_rfl) (by kernel_rfl) (by kernel_rfl) (by kernel_rfl) (by kernel_rfl) (by kernel_rfl)
theorem instanced : Try.f6.isInstance Try.prog Rows.fnRenderNestRow.origin Rows.fnRenderNestRow.targs := of_decide_eq_true (by kernel_rfl)
theorem wrapped : Try.f6.isWrapper Try.prog Rows.fnRenderNestRow.wrapper Rows.fnRenderNestRow.mainSum := by
  unfold Func.isWrapper
  rw [if_neg (of_decide_eq_false (by kernel_rfl))]
  exact ⟨rfl, rfl⟩

theorem holds : Rows.FnRenderNestSaid :=
  OpenClaim.holds_of_wide 6 Try.f6 rfl rfl rfl rfl rfl rfl rfl ⟨rfl, rfl, rfl, rfl, rfl⟩ rfl rfl rfl rfl rfl named Try.func6 closed instanced wrapped
    (fun os started H enc _ => lifted os started H enc)

end Go.Proofs.Ytgkbagcgbfgllaa.lawRenderNest

