import Derived.Test.YtpiaiandjnpdfaaDrV
import Derived.Test.YtpiaiandjnpdfaaDocL
import Derived.Test.YtpiaiandjnpdfaaDrZ
import Derived.Test.YtpiaiandjnpdfaaFacts
import Derived.Test.YtpiaiandjnpdfaaRows
import Derived.Deep.RegionHeld3
import Derived.Deep.DeepCutAuto
import Derived.Deep.RegionWith
/-
  Flat texts are short: the law FnShortFlat returns true for whatever draws, and its argument reads as it did. No condition of ours.
-/
set_option linter.unusedVariables false
set_option linter.unusedSimpArgs false
namespace Go.Proofs.Ytpiaiandjnpdfaa.lawShortFlat
open Go.ChangeShapes Go.WideShapes Go.ChangeAt Go.RowKit P1 Draw6 LawC CntC DocK OpenR LayN ChP 

set_option maxRecDepth 100000 in
set_option maxHeartbeats 6400000 in
theorem walk_good (w : World) (a0 : Option Addr) (len0 cap0 : Nat) (hb0 : Bytes w a0 len0) (hlc0 : len0 ≤ cap0) (hcm0 : cap0 ≤ maxLen) (hl0 : len0 ≤ 1048576) :
    Calls Try.prog 8 #[.slice a0 len0 cap0] w fun e w' => e = .returned (.bool true) ∧ Ext w w' := by
  have HD0 := Lib.hid (DrN.drawShortest w a0 len0 cap0 hb0 hlc0 hcm0)
  clear hb0
  unfold maxLen at hcm0
  go_enter Try.func8, Try.ntmps8
  go_wp2_with fail
  refine HD0.out.mono ?_
  rintro e1 w1 ⟨o, n, t, k, a, cap, fs, rfl, hc, hsz, hsub, hfr, hb1⟩
  have D1 := Lib.hid (show DocK.Doc0 w1 n t k a cap fs from ⟨hsub, fun c hc => (hfr.2 c hc).2, hc, by omega⟩)
  have E1 := Lib.hid (show Ext w w1 from hb1)
  have hkl : k.len ≤ 100000 := D1.out.len
  clear hsub hfr hb1
  obtain ⟨B, hB⟩ : ∃ B, (It.bestR true o n t k).1 = B := ⟨_, rfl⟩
  obtain ⟨V, hV⟩ : ∃ V, It.toldD o n t k = V := ⟨_, rfl⟩
  have HSZ := Lib.hid hsz
  have HXV := Lib.hid (And.intro hB hV)
  have HSI := Lib.hid (show ∀ W : World, Ext w1 W → Calls Try.prog 31 #[.agg #[.int .i64 o, .int .i64 n, .string t, .slice a k.len cap]] W (DocO.Out W B V) from fun W e => by have h := DocL.implSho (D1.out.ext e) o; rw [show (It.bestR true o n t k).2 = V from hV, hB] at h; exact h)
  have HSS := Lib.hid (show ∀ W : World, Ext w1 W → Calls Try.prog 32 #[.agg #[.int .i64 o, .int .i64 n, .string t, .slice a k.len cap]] W (DocO.Out W B V) from fun W e => by have h := DocL.specSho (D1.out.ext e) o; rw [show (It.bestR true o n t k).2 = V from hV, hB] at h; exact h)
  clear hc hsz hB hV
  go_wp2_with fail
  refine (HSI.out _ ((Ext.refl w1).alloc _)).mono ?_
  rintro e2 w2 ⟨pc, cc, rfl, hlay, hb⟩
  have X2 := Lib.hid (box4 (box_new w1 _ _ _ _ _) (by simp) hb)
  have E2 := Lib.hid (((Ext.refl w1).alloc _).trans hb)
  have L2 := Lib.hid (show w1.heap.size < w2.heap.size from by have := hb.size; simp at this; omega)
  try clear x0 x1 x2 x3 l
  have Kc := Lib.hid hlay
  clear hlay
  clear hb
  obtain ⟨x0, x1, x2, x3⟩ := X2.out
  have l := L2.out
  go_wp2_with fail
  refine (HSS.out _ E2.out).mono ?_
  rintro e3 w3 ⟨pd, cd, rfl, hlay, hb⟩
  have X3 := Lib.hid (box4 X2.out L2.out hb)
  have E3 := Lib.hid (E2.out.trans hb)
  have L3 := Lib.hid (Nat.lt_of_lt_of_le L2.out hb.size)
  try clear x0 x1 x2 x3 l
  replace Kc := Lib.hid (Kc.out.ext hb)
  have Kd := Lib.hid hlay
  clear hlay
  clear hb
  obtain ⟨x0, x1, x2, x3⟩ := X3.out
  have l := L3.out
  go_wp2_with fail
  refine (DocO.LayIs.same Kc.out Kd.out).mono ?_
  rintro e4 w4 ⟨rfl, hb⟩
  have X4 := Lib.hid (box4 X3.out L3.out hb)
  have E4 := Lib.hid (E3.out.trans hb)
  have L4 := Lib.hid (Nat.lt_of_lt_of_le L3.out hb.size)
  try clear x0 x1 x2 x3 l
  replace Kc := Lib.hid (Kc.out.ext hb)
  replace Kd := Lib.hid (Kd.out.ext hb)
  clear hb
  obtain ⟨x0, x1, x2, x3⟩ := X4.out
  have l := L4.out
  cases V with
  | false =>
    go_wp2_with fail
    refine (DocO.LayIs.same Kc.out Kd.out).mono ?_
    rintro e5 w5 ⟨rfl, hb⟩
    have X5 := Lib.hid (box4 X4.out L4.out hb)
    have E5 := Lib.hid (E4.out.trans hb)
    have L5 := Lib.hid (Nat.lt_of_lt_of_le L4.out hb.size)
    try clear x0 x1 x2 x3 l
    replace Kc := Lib.hid (Kc.out.ext hb)
    replace Kd := Lib.hid (Kd.out.ext hb)
    clear hb
    obtain ⟨x0, x1, x2, x3⟩ := X5.out
    have l := L5.out
    go_wp2_with fail
    go_ret
    exact ⟨by first | rfl | simp, E1.out.trans E5.out⟩
  | true =>
    obtain ⟨hB, hV⟩ := HXV.out
    obtain ⟨U, hU⟩ : ∃ U, canD o n t k = U := ⟨_, rfl⟩
    obtain ⟨S, hS⟩ : ∃ S, Flat.ftD o n t k = S := ⟨_, rfl⟩
    have hlen : 1 ≤ (B.length : Int) := by rw [← hB]; have := (lv_len (It.best_good (lines := true) hV)).1; omega
    have hlen2 : (B.length : Int) ≤ 200 := by have := Kc.out.len; omega
    have hflat : o = 8 → U = true → B = [(0, S)] := by
      intro h1 h2
      subst h1
      rw [← hU] at h2
      rw [← hB, It.best_flat hV (DocC.first_flat (It.told_parts hV).2.2.2 h2), ← hS]
      simp [Flat.ftD, h2]
    have HT := Lib.hid (show ∀ W : World, Ext w1 W → Calls Try.prog 35 #[.agg #[.int .i64 o, .int .i64 n, .string t, .slice a k.len cap]] W (fun e w' => e = .returned (.tuple #[.string S, .bool U]) ∧ Ext W w') from fun W e => by rw [← hU, ← hS]; exact (D1.out.ext e).implFlatText o)
    have HY := Lib.hid hflat
    clear hV hB hU hS hflat
    go_wp2_with fail
    refine (HT.out _ E4.out).mono ?_
    rintro e5 w5 ⟨rfl, hb⟩
    have X5 := Lib.hid (box4 X4.out L4.out hb)
    have E5 := Lib.hid (E4.out.trans hb)
    have L5 := Lib.hid (Nat.lt_of_lt_of_le L4.out hb.size)
    try clear x0 x1 x2 x3 l
    replace Kc := Lib.hid (Kc.out.ext hb)
    replace Kd := Lib.hid (Kd.out.ext hb)
    clear hb
    obtain ⟨x0, x1, x2, x3⟩ := X5.out
    have l := L5.out
    cases ho8 : (o == 8) with
    | false =>
      have hne8 : o ≠ 8 := by simpa using ho8
      go_wp2_with fail
      go_ret
      exact ⟨by first | rfl | simp [hlen] | simp, E1.out.trans E5.out⟩
    | true =>
      have he8 : o = 8 := by simpa using ho8
      cases U with
      | false =>
        go_wp2_with fail
        go_ret
        exact ⟨by first | rfl | simp [hlen] | simp, E1.out.trans E5.out⟩
      | true =>
        obtain rfl : B = [(0, S)] := by first | exact HY.out he8 rfl | exact HY.out he8 trivial
        obtain ⟨b, off, rfl, hbl, z0, z1⟩ := DocW.lay_first Kc.out rfl
        subst he8
        clear ho8
        go_wp2_with fail
        go_ret
        exact ⟨by first | rfl | simp, E1.out.trans E5.out⟩

set_option maxHeartbeats 400000 in
theorem walk_big (w : World) (a0 : Option Addr) (len0 cap0 : Nat) (hl0 : 1048576 < len0) :
    Calls Try.prog 8 #[.slice a0 len0 cap0] w fun e w' => e = .returned (.bool true) ∧ Ext w w' := by
  have h1 : (1048576 : Int) < (len0 : Int) := by omega
  go_enter Try.func8, Try.ntmps8
  go_wp2_with fail
  go_ret
  exact ⟨rfl, Ext.refl w⟩

theorem walk (w : World) (a0 : Option Addr) (len0 cap0 : Nat) (hb0 : Bytes w a0 len0) (hlc0 : len0 ≤ cap0) (hcm0 : cap0 ≤ maxLen) :
    Calls Try.prog 8 #[.slice a0 len0 cap0] w fun e w' => e = .returned (.bool true) ∧ Below w.heap.size w w' := by
  by_cases h : 1048576 < len0
  · exact walk_big w a0 len0 cap0 h
  · exact walk_good w a0 len0 cap0 hb0 hlc0 hcm0 (by omega)

set_option maxRecDepth 100000 in
theorem lifted (os : Os) (started : os.Started) (H : Type) (enc : TypeId × Value → H) :
    ReturnsInHanded {} Try.checked os 8 .any (Rows.fnShortFlatSpec.pre6 enc Try.prog Try.f8 Rows.fnShortFlatRow.domain false) (Rows.fnShortFlatSpec.post enc Try.prog Try.f8 false true false false) := by
  refine returnsInHanded_of_change (C := Try.checked) Facts.own started (by kernel_rfl) Try.func8
    (ChangeSpec.witness6 (enc := enc) (C := Try.checked) false ⟨#[], #[.slice none 0 0], []⟩ 8 (by kernel_rfl) (by kernel_rfl) (by kernel_rfl) (by kernel_rfl)) ?_
  intro W base args ds gs before hval0 hW hcnd0 _
  clear hcnd0
  have hval : ∀ (j : Nat) t v, Try.f8.params[j]? = some t → args[j]? = some v → Value.okWide Try.prog W .any base t v := hval0
  have hW' := hW
  obtain ⟨p, q, hA0, hV, rfl, hfz, hnd⟩ := hW
  have hA : DataW.TrodAll enc Try.prog W 0 (fun _ => true) true Try.f8.params.toList args.toList ds p := hA0
  rw [Try.params8] at hA hval
  obtain ⟨v0, d0, rfl, rfl, h0⟩ := trodAll_one hA
  obtain ⟨rfl, rfl⟩ := trodVars_none hV
  obtain ⟨a0, len0, cap0, rfl⟩ := okWide_slice Try.underlying22 (hval 0 22 v0 rfl rfl)
  clear hA0 hval0
  simp only [List.append_nil] at hW'
  have hlt : ∀ x ∈ p, x.block < W.heap.size := fun x hx => by simpa using hW'.lt x hx
  obtain ⟨hb0, hlc0, hcm0⟩ := opened h0
  refine (walk W a0 len0 cap0 hb0 hlc0 hcm0).mono fun e W' ⟨he, hb⟩ => ?_
  subst he
  refine ⟨_, rfl, [_], [], p, [], p, [], hW', trodAll_mk1 (shut_bool Try.underlying4 _), ?_, rfl, hb.frame _, fun h => by cases h⟩
  exact trodAll_mk1 (Below.trod Facts.laidOut (by kernel_rfl) (of_decide_eq_true (by kernel_rfl)) h0 hb hlt)

theorem named : Try.prog.funcNamed Rows.fnShortFlatRow.func = some 8 := by kernel_rfl
theorem closed : joinedFacts Try.prog 8 Try.f8 Rows.fnShortFlatSpec Rows.fnShortFlatRow = true :=
  Facts.closed_of rfl rfl rfl rfl (h28b := rfl) (by kernel_rfl) (by kernel_rfl) (by kernel_rfl) (by kernel_rfl) (by kernel_rfl) (by kernel_rfl) (by kernel_rfl) (by kernel_rfl) (by kernel_rfl) (by kernel_rfl) (by kernel_rfl) (by kernel_rfl) (by kernel_rfl) (by kernel_rfl) (by kernel_rfl) (by kernel_rfl) (by kernel_rfl) (by kernel_rfl) (by kernel_rfl) (by kernel_rfl) (by kernel_rfl) (by kernel_rfl) (by kernel_rfl) (by kernel_rfl)
theorem instanced : Try.f8.isInstance Try.prog Rows.fnShortFlatRow.origin Rows.fnShortFlatRow.targs := of_decide_eq_true (by kernel_rfl)
theorem wrapped : Try.f8.isWrapper Try.prog Rows.fnShortFlatRow.wrapper Rows.fnShortFlatRow.mainSum := by
  unfold Func.isWrapper
  rw [if_neg (of_decide_eq_false (by kernel_rfl))]
  exact ⟨rfl, rfl⟩

theorem holds : Rows.FnShortFlatSaid :=
  OpenClaim.holds_of_wide 8 Try.f8 rfl rfl rfl rfl rfl rfl rfl ⟨rfl, rfl, rfl, rfl, rfl⟩ rfl rfl rfl rfl rfl named Try.func8 closed instanced wrapped
    (fun os started H enc _ => lifted os started H enc)

end Go.Proofs.Ytpiaiandjnpdfaa.lawShortFlat

