import Derived.Test.YtlpmocdbmnpjcaaDrN
import Derived.Test.YtlpmocdbmnpjcaaDocC
import Derived.Test.YtlpmocdbmnpjcaaDrZ
import Derived.Test.YtlpmocdbmnpjcaaFacts
import Derived.Test.YtlpmocdbmnpjcaaRows
import Derived.Deep.RegionHeld3
import Derived.Deep.DeepCutAuto
import Derived.Deep.RegionWith
/-
  Choices are in order: the law FnLastChoice returns true for whatever draws, and its argument reads as it did. No condition of ours.
-/
set_option linter.unusedVariables false
set_option linter.unusedSimpArgs false
namespace Go.Proofs.Ytlpmocdbmnpjcaa.lawLastChoice
open Go.ChangeShapes Go.WideShapes Go.ChangeAt Go.RowKit P1 Draw6 LawC CntC DocK OpenR LayN ChP

set_option maxRecDepth 100000 in
set_option maxHeartbeats 6400000 in
theorem walk_good (w : World) (a0 : Option Addr) (len0 cap0 : Nat) (hb0 : Bytes w a0 len0) (hlc0 : len0 ≤ cap0) (hcm0 : cap0 ≤ maxLen) (hl0 : len0 ≤ 1048576) :
    Calls Try.prog 5 #[.slice a0 len0 cap0] w fun e w' => e = .returned (.bool true) ∧ Ext w w' := by
  have HD0 := Lib.hid (DrN.drawCountChoices w a0 len0 cap0 hb0 hlc0 hcm0)
  clear hb0
  unfold maxLen at hcm0
  go_enter Try.func5, Try.ntmps5
  go_wp2_with fail
  refine HD0.out.mono ?_
  rintro e1 w1 ⟨o, n, t, k, a, cap, fs, rfl, hc, hsz, hsub, hfr, hb1⟩
  have D1 := Lib.hid (show DocK.Doc0 w1 n t k a cap fs from ⟨hsub, fun c hc => (hfr.2 c hc).2, hc, by omega⟩)
  have E1 := Lib.hid (show Ext w w1 from hb1)
  have hkl : k.len ≤ 100000 := D1.out.len
  clear hsub hfr hb1
  obtain ⟨V, hV⟩ : ∃ V, manyD o n t k = V := ⟨_, rfl⟩
  obtain ⟨N, hN⟩ : ∃ N : Int, ChS.ccN o n t k = N := ⟨_, rfl⟩
  have HCI := Lib.hid (show ∀ W : World, Ext w1 W → Calls Try.prog 26 #[.agg #[.int .i64 o, .int .i64 n, .string t, .slice a k.len cap]] W (fun e w' => e = .returned (.tuple #[.int .i64 N, .bool V]) ∧ Ext W w') from fun W e => by rw [← hN, ← hV]; exact DocC.implCount (D1.out.ext e) o)
  have HCS := Lib.hid (show ∀ W : World, Ext w1 W → Calls Try.prog 27 #[.agg #[.int .i64 o, .int .i64 n, .string t, .slice a k.len cap]] W (fun e w' => e = .returned (.tuple #[.int .i64 N, .bool V]) ∧ Ext W w') from fun W e => by rw [← hN, ← hV]; exact DocC.specCount (D1.out.ext e) o)
  have hNN : (N != N) = false := by simp
  have hNe : (N == N) = true := by simp
  have HSZ := Lib.hid hsz
  clear hc hsz
  go_wp2_with fail
  refine (HCI.out _ ((Ext.refl w1).alloc _)).mono ?_
  rintro e2 w2 ⟨rfl, hb⟩
  have X2 := Lib.hid (box4 (box_new w1 _ _ _ _ _) (by simp) hb)
  have E2 := Lib.hid (((Ext.refl w1).alloc _).trans hb)
  have L2 := Lib.hid (show w1.heap.size < w2.heap.size from by have := hb.size; simp at this; omega)
  try clear x0 x1 x2 x3 l
  clear hb
  obtain ⟨x0, x1, x2, x3⟩ := X2.out
  have l := L2.out
  go_wp2_with fail
  refine (HCS.out _ E2.out).mono ?_
  rintro e3 w3 ⟨rfl, hb⟩
  have X3 := Lib.hid (box4 X2.out L2.out hb)
  have E3 := Lib.hid (E2.out.trans hb)
  have L3 := Lib.hid (Nat.lt_of_lt_of_le L2.out hb.size)
  try clear x0 x1 x2 x3 l
  clear hb
  obtain ⟨x0, x1, x2, x3⟩ := X3.out
  have l := L3.out
  cases V with
  | false =>
    have hN0 : 0 = N := by rw [← hN, ChS.ccN, hV]; rfl
    subst hN0
    clear hV hN hNN hNe
    go_wp2_with fail
    go_ret
    exact ⟨by first | rfl | simp, E1.out.trans E3.out⟩
  | true =>
    have hmy := DocC.many_yes hV
    have hNc : N = (ctD o k : Int) := by rw [← hN, ChS.ccN, hV]; rfl
    have hpos := ctD_pos o k
    have hN1 : 1 ≤ N := by omega
    have hN2 : N ≤ 100000 := by have := hmy.2; omega
    obtain ⟨X, hX⟩ : ∃ X, openD o n t k = X := ⟨_, rfl⟩
    obtain ⟨Y, hY⟩ : ∃ Y, pkD o n t k 0 = Y := ⟨_, rfl⟩
    obtain ⟨U, hU⟩ : ∃ U, canD o n t k = U := ⟨_, rfl⟩
    obtain ⟨S, hS⟩ : ∃ S, Flat.ftD o n t k = S := ⟨_, rfl⟩
    have hlast : chR o n t k (N - 1) = (X, true) := by
      rw [chR_yes hV (by omega) (by omega), show (N - 1).toNat = ctD o k - 1 by omega, pick_last 40 o n t k (DocW.valid_ok hmy.1), hX]
    have hfirst : chR o n t k 0 = (Y, true) := by
      rw [chR_yes hV (by omega) (by omega)]; exact congrArg (fun z => (z, true)) hY
    have hlen : 0 < Y.length := by
      have h1 := (pick_good 40 o n t k (DocW.valid_ok hmy.1) 0).ne
      rw [hY] at h1; exact h1
    have hflat : o = 8 → U = true → Y = [(0, S)] := by
      intro h1 h2
      subst h1
      rw [← hU] at h2
      rw [← hY, DocC.first_flat hV h2, ← hS]
      simp [Flat.ftD, h2]
    have hopen : openRes o n t k = (X, true) := by rw [openRes_yes hmy.1, hX]
    have HL := Lib.hid (show ∀ W : World, Ext w1 W → Calls Try.prog 28 #[.agg #[.int .i64 o, .int .i64 n, .string t, .slice a k.len cap], .int .i64 (N - 1)] W (DocO.Out W X true) from fun W e => by have h := DocC.implChoice (D1.out.ext e) o (N - 1); rw [hlast] at h; exact h)
    have HO := Lib.hid (show ∀ W : World, Ext w1 W → Calls Try.prog 29 #[.agg #[.int .i64 o, .int .i64 n, .string t, .slice a k.len cap]] W (DocO.Out W X true) from fun W e => by have h := (DocW.toO (D1.out.ext e)).implOpen o; rw [hopen] at h; exact h)
    have HF := Lib.hid (show ∀ W : World, Ext w1 W → Calls Try.prog 28 #[.agg #[.int .i64 o, .int .i64 n, .string t, .slice a k.len cap], .int .i64 0] W (DocO.Out W Y true) from fun W e => by have h := DocC.implChoice (D1.out.ext e) o 0; rw [hfirst] at h; exact h)
    have HT := Lib.hid (show ∀ W : World, Ext w1 W → Calls Try.prog 30 #[.agg #[.int .i64 o, .int .i64 n, .string t, .slice a k.len cap]] W (fun e w' => e = .returned (.tuple #[.string S, .bool U]) ∧ Ext W w') from fun W e => by rw [← hU, ← hS]; exact (D1.out.ext e).implFlatText o)
    have HY := Lib.hid (And.intro hflat hlen)
    clear hV hN hmy hNc hpos hX hY hU hS hlast hfirst hflat hlen hopen
    go_wp2_with fail
    refine (HL.out _ E3.out).mono ?_
    rintro e4 w4 ⟨pa, ca, rfl, hlay, hb⟩
    have X4 := Lib.hid (box4 X3.out L3.out hb)
    have E4 := Lib.hid (E3.out.trans hb)
    have L4 := Lib.hid (Nat.lt_of_lt_of_le L3.out hb.size)
    try clear x0 x1 x2 x3 l
    have Ka := Lib.hid hlay
    clear hlay
    clear hb
    obtain ⟨x0, x1, x2, x3⟩ := X4.out
    have l := L4.out
    go_wp2_with fail
    refine (HO.out _ E4.out).mono ?_
    rintro e5 w5 ⟨pb, cb, rfl, hlay, hb⟩
    have X5 := Lib.hid (box4 X4.out L4.out hb)
    have E5 := Lib.hid (E4.out.trans hb)
    have L5 := Lib.hid (Nat.lt_of_lt_of_le L4.out hb.size)
    try clear x0 x1 x2 x3 l
    replace Ka := Lib.hid (Ka.out.ext hb)
    have Kb := Lib.hid hlay
    clear hlay
    clear hb
    obtain ⟨x0, x1, x2, x3⟩ := X5.out
    have l := L5.out
    go_wp2_with fail
    refine (HF.out _ E5.out).mono ?_
    rintro e6 w6 ⟨pc, cc, rfl, hlay, hb⟩
    have X6 := Lib.hid (box4 X5.out L5.out hb)
    have E6 := Lib.hid (E5.out.trans hb)
    have L6 := Lib.hid (Nat.lt_of_lt_of_le L5.out hb.size)
    try clear x0 x1 x2 x3 l
    replace Ka := Lib.hid (Ka.out.ext hb)
    replace Kb := Lib.hid (Kb.out.ext hb)
    have Kc := Lib.hid hlay
    clear hlay
    clear hb
    obtain ⟨x0, x1, x2, x3⟩ := X6.out
    have l := L6.out
    go_wp2_with fail
    refine (HT.out _ E6.out).mono ?_
    rintro e7 w7 ⟨rfl, hb⟩
    have X7 := Lib.hid (box4 X6.out L6.out hb)
    have E7 := Lib.hid (E6.out.trans hb)
    have L7 := Lib.hid (Nat.lt_of_lt_of_le L6.out hb.size)
    try clear x0 x1 x2 x3 l
    replace Ka := Lib.hid (Ka.out.ext hb)
    replace Kb := Lib.hid (Kb.out.ext hb)
    replace Kc := Lib.hid (Kc.out.ext hb)
    clear hb
    obtain ⟨x0, x1, x2, x3⟩ := X7.out
    have l := L7.out
    go_wp2_with fail
    refine (DocO.LayIs.same Ka.out Kb.out).mono ?_
    rintro e8 w8 ⟨rfl, hb⟩
    have X8 := Lib.hid (box4 X7.out L7.out hb)
    have E8 := Lib.hid (E7.out.trans hb)
    have L8 := Lib.hid (Nat.lt_of_lt_of_le L7.out hb.size)
    try clear x0 x1 x2 x3 l
    replace Ka := Lib.hid (Ka.out.ext hb)
    replace Kb := Lib.hid (Kb.out.ext hb)
    replace Kc := Lib.hid (Kc.out.ext hb)
    clear hb
    obtain ⟨x0, x1, x2, x3⟩ := X8.out
    have l := L8.out
    cases ho8 : (o == 8) with
    | false =>
      have hne8 : o ≠ 8 := by simpa using ho8
      go_wp2_with fail
      go_ret
      exact ⟨by first | rfl | simp, E1.out.trans E8.out⟩
    | true =>
      have he8 : o = 8 := by simpa using ho8
      cases U with
      | false =>
        go_wp2_with fail
        go_ret
        exact ⟨by first | rfl | simp, E1.out.trans E8.out⟩
      | true =>
        obtain rfl : Y = [(0, S)] := by first | exact HY.out.1 he8 rfl | exact HY.out.1 he8 trivial
        obtain ⟨b, off, rfl, hbl, z0, z1⟩ := DocW.lay_first Kc.out rfl
        subst he8
        clear ho8
        go_wp2_with fail
        go_ret
        exact ⟨by first | rfl | simp, E1.out.trans E8.out⟩

set_option maxHeartbeats 400000 in
theorem walk_big (w : World) (a0 : Option Addr) (len0 cap0 : Nat) (hl0 : 1048576 < len0) :
    Calls Try.prog 5 #[.slice a0 len0 cap0] w fun e w' => e = .returned (.bool true) ∧ Ext w w' := by
  have h1 : (1048576 : Int) < (len0 : Int) := by omega
  go_enter Try.func5, Try.ntmps5
  go_wp2_with fail
  go_ret
  exact ⟨rfl, Ext.refl w⟩

theorem walk (w : World) (a0 : Option Addr) (len0 cap0 : Nat) (hb0 : Bytes w a0 len0) (hlc0 : len0 ≤ cap0) (hcm0 : cap0 ≤ maxLen) :
    Calls Try.prog 5 #[.slice a0 len0 cap0] w fun e w' => e = .returned (.bool true) ∧ Below w.heap.size w w' := by
  by_cases h : 1048576 < len0
  · exact walk_big w a0 len0 cap0 h
  · exact walk_good w a0 len0 cap0 hb0 hlc0 hcm0 (by omega)

set_option maxRecDepth 100000 in
theorem lifted (os : Os) (started : os.Started) (H : Type) (enc : TypeId × Value → H) :
    ReturnsInHanded {} Try.checked os 5 .any (Rows.fnLastChoiceSpec.pre6 enc Try.prog Try.f5 Rows.fnLastChoiceRow.domain false) (Rows.fnLastChoiceSpec.post enc Try.prog Try.f5 false true false false) := by
  refine returnsInHanded_of_change (C := Try.checked) Facts.own started (by kernel_rfl) Try.func5
    (ChangeSpec.witness6 (enc := enc) (C := Try.checked) false ⟨#[], #[.slice none 0 0], []⟩ 8 (by kernel_rfl) (by kernel_rfl) (by kernel_rfl) (by kernel_rfl)) ?_
  intro W base args ds gs before hval0 hW hcnd0 _
  clear hcnd0
  have hval : ∀ (j : Nat) t v, Try.f5.params[j]? = some t → args[j]? = some v → Value.okWide Try.prog W .any base t v := hval0
  have hW' := hW
  obtain ⟨p, q, hA0, hV, rfl, hfz, hnd⟩ := hW
  have hA : DataW.TrodAll enc Try.prog W 0 (fun _ => true) true Try.f5.params.toList args.toList ds p := hA0
  rw [Try.params5] at hA hval
  obtain ⟨v0, d0, rfl, rfl, h0⟩ := trodAll_one hA
  obtain ⟨rfl, rfl⟩ := trodVars_none hV
  obtain ⟨a0, len0, cap0, rfl⟩ := okWide_slice Try.underlying22 (hval 0 22 v0 rfl rfl)
  clear hA0 hval0
  simp only [List.append_nil] at hW'
  have hlt : ∀ x ∈ p, x.block < W.heap.size := fun x hx => by simpa using hW'.lt x hx
  obtain ⟨hb0, hlc0, hcm0⟩ := opened h0
  refine (walk W a0 len0 cap0 hb0 hlc0 hcm0).mono fun e W' ⟨he, hb⟩ => ?_
  subst he
  refine ⟨_, rfl, [_], [], p, [], p, [], hW', trodAll_mk1 (shut_bool Try.underlying4 _), ?_, rfl, hb.frame _, fun h => by cases h⟩
  exact trodAll_mk1 (Below.trod Facts.laidOut (by kernel_rfl) (of_decide_eq_true (by kernel_rfl)) h0 hb hlt)

theorem named : Try.prog.funcNamed Rows.fnLastChoiceRow.func = some 5 := by kernel_rfl
theorem closed : joinedFacts Try.prog 5 Try.f5 Rows.fnLastChoiceSpec Rows.fnLastChoiceRow = true :=
  Facts.closed_of rfl rfl rfl rfl (h28b := rfl) (by kernel_rfl) (by kernel_rfl) (by kernel_rfl) (by kernel_rfl) (by kernel_rfl) (by kernel_rfl) (by kernel_rfl) (by kernel_rfl) (by kernel_rfl) (by kernel_rfl) (by kernel_rfl) (by kernel_rfl) (by kernel_rfl) (by kernel_rfl) (by kernel_rfl) (by kernel_rfl) (by kernel_rfl) (by kernel_rfl) (by kernel_rfl) (by kernel_rfl) (by kernel_rfl) (by kernel_rfl) (by kernel_rfl) (by kernel_rfl)
theorem instanced : Try.f5.isInstance Try.prog Rows.fnLastChoiceRow.origin Rows.fnLastChoiceRow.targs := of_decide_eq_true (by kernel_rfl)
theorem wrapped : Try.f5.isWrapper Try.prog Rows.fnLastChoiceRow.wrapper Rows.fnLastChoiceRow.mainSum := by
  unfold Func.isWrapper
  rw [if_neg (of_decide_eq_false (by kernel_rfl))]
  exact ⟨rfl, rfl⟩

theorem holds : Rows.FnLastChoiceSaid :=
  OpenClaim.holds_of_wide 5 Try.f5 rfl rfl rfl rfl rfl rfl rfl ⟨rfl, rfl, rfl, rfl, rfl⟩ rfl rfl rfl rfl rfl named Try.func5 closed instanced wrapped
    (fun os started H enc _ => lifted os started H enc)

end Go.Proofs.Ytlpmocdbmnpjcaa.lawLastChoice

