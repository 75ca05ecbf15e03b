import Derived.Test.YtmkibpimjaofgaaDr7
import Derived.Test.YtmkibpimjaofgaaNfM
import Derived.Test.YtmkibpimjaofgaaWo4
import Derived.Test.YtmkibpimjaofgaaDocC
import Derived.Test.YtmkibpimjaofgaaDocW
import Derived.Test.YtmkibpimjaofgaaDr9
import Derived.Test.YtmkibpimjaofgaaDrZ
import Derived.Test.YtmkibpimjaofgaaFacts
import Derived.Test.YtmkibpimjaofgaaRows
import Derived.Deep.RegionHeld3
import Derived.Deep.DeepCutAuto
import Derived.Deep.RegionWith
/-
  Without groups, a document has one layout: the law FnWithoutGroups returns true for whatever draws, and its argument reads as it did. No condition of ours.
-/
set_option linter.unusedVariables false
set_option linter.unusedSimpArgs false
namespace Go.Proofs.Ytmkibpimjaofgaa.lawWithoutGroups
open Go.ChangeShapes Go.WideShapes Go.ChangeAt Go.RowKit P1 Draw6 LawC CntC DocK CatD

set_option maxRecDepth 100000 in
set_option maxHeartbeats 6400000 in
theorem walk_good (w : World) (a0 : Option Addr) (len0 cap0 : Nat) (hb0 : Bytes w a0 len0) (hlc0 : len0 ≤ cap0) (hcm0 : cap0 ≤ maxLen) (hl0 : len0 ≤ 1048576) :
    Calls Try.prog 10 #[.slice a0 len0 cap0] w fun e w' => e = .returned (.bool true) ∧ Ext w w' := by
  have HD0 := Lib.hid (Dr7.drawWithoutGroups w a0 len0 cap0 hb0 hlc0 hcm0)
  clear hb0
  unfold maxLen at hcm0
  go_enter Try.func10, Try.ntmps10
  go_wp2_with fail
  refine HD0.out.mono ?_
  rintro e1 w1 ⟨o, n, t, k, a, c, fs, rfl, hc, hsz, hsub, hfr, hb1⟩
  have D1 := Lib.hid (show DocK.Doc0 w1 n t k a c fs from ⟨hsub, fun c hc => (hfr.2 c hc).2, hc, by omega⟩)
  have E1 := Lib.hid (show Ext w w1 from hb1)
  clear hsub hfr hb1 hc
  have hpush := fun (h : (Nf.woRes o n t k).1 = true) => Nf.wo_all h
  obtain ⟨⟨ok, o2, n2, t2, k2⟩, hR⟩ : ∃ R, Nf.woRes o n t k = R := ⟨_, rfl⟩
  have hsz3 : t2.size + k2.size ≤ 100000 := Nf.ch_tiny hR
  have hsz2 : t2.size + k2.size ≤ 1048576 := by omega
  have HIM := Lib.hid (show ∀ W : World, Ext w1 W → Calls Try.prog 22 #[.agg #[.int .i64 o, .int .i64 n, .string t, .slice a k.len c]] W (DocRes W (ok, o2, n2, t2, k2)) from fun W e => by
    have := Nf.implWithoutGroups W o n t k a c fs (D1.out.ext e).sub (D1.out.ext e).ok D1.out.cap_le (by omega)
    rw [hR] at this
    exact this)
  have HSP := Lib.hid (show ∀ W : World, Ext w1 W → Calls Try.prog 21 #[.agg #[.int .i64 o, .int .i64 n, .string t, .slice a k.len c]] W (DocRes W (ok, o2, n2, t2, k2)) from fun W e => by
    have := Nf.specWithoutGroups W o n t k a c fs (D1.out.ext e).sub (D1.out.ext e).ok D1.out.cap_le (by omega)
    rw [hR] at this
    exact this)
  clear hsz
  go_wp2_with fail
  refine (HIM.out _ ((Ext.refl w1).alloc _)).mono ?_
  rintro e2 w2 ⟨a2, c2, f2, rfl, hc2, hs2, hfr2, hb⟩
  have e2 : Ext w1 w2 := ((Ext.refl w1).alloc _).trans hb
  have X2 := Lib.hid (box4 (box_new w1 _ _ _ _ _) (by simp) hb)
  have L2 := Lib.hid (show w1.heap.size < w2.heap.size from by have := hb.size; simp at this; omega)
  have D2 := Lib.hid (D1.out.ext e2)
  have N2 := Lib.hid (show DocK.Doc0 w2 n2 t2 k2 a2 c2 f2 from ⟨hs2, fun c hc => (hfr2.2 c hc).2, hc2, hsz3⟩)
  have E2 := Lib.hid e2
  clear hb hc2 hs2 hfr2 e2
  obtain ⟨x0, x1, x2, x3⟩ := X2.out
  have l := L2.out
  go_wp2_with fail
  refine (HSP.out _ (E2.out.trans ((Ext.refl w2).alloc _))).mono ?_
  rintro e3 w3 ⟨a3, c3, f3, rfl, hc3, hs3, hfr3, hb⟩
  have e3 : Ext w2 w3 := ((Ext.refl w2).alloc _).trans hb
  have X3 := Lib.hid (box4 X2.out L2.out e3)
  have Y3 := Lib.hid (box4 (box_new w2 _ _ _ _ _) (by simp) hb)
  have L3 := Lib.hid (Nat.lt_of_lt_of_le L2.out e3.size)
  have M3 := Lib.hid (show w2.heap.size < w3.heap.size from by have := hb.size; simp at this; omega)
  have D3 := Lib.hid (D2.out.ext e3)
  have N3 := Lib.hid (N2.out.ext e3)
  have W3 := Lib.hid (show DocK.Doc0 w3 n2 t2 k2 a3 c3 f3 from ⟨hs3, fun c hc => (hfr3.2 c hc).2, hc3, hsz3⟩)
  have E3 := Lib.hid (E2.out.trans e3)
  have HSAME := Lib.hid (show ∀ W : World, Ext w3 W → Calls Try.prog 41 #[.agg #[.int .i64 o2, .int .i64 n2, .string t2, .slice a2 k2.len c2], .agg #[.int .i64 o2, .int .i64 n2, .string t2, .slice a3 k2.len c3]] W fun e w' => e = .returned (.bool true) ∧ Ext W w' from fun W e => by
    have := NfM.same (N3.out.ext e) (W3.out.ext e) o2 o2
    rw [show sameD o2 n2 t2 k2 o2 n2 t2 k2 = true by rw [sameD_yes, F.same_self]] at this
    exact this)
  have hvv : (ok != ok) = false := by simp
  have hvw : (ok == ok) = true := by simp
  clear hb hc3 hs3 hfr3 e3 x0 x1 x2 x3 l hsz3
  obtain ⟨x0, x1, x2, x3⟩ := X3.out
  obtain ⟨y0, y1, y2, y3⟩ := Y3.out
  have l := L3.out
  have m := M3.out
  cases ok with
  | false =>
    go_wp2_with fail
    refine (HSAME.out _ ((Ext.refl w3).alloc _)).mono ?_
    rintro e4 w4 ⟨rfl, hb⟩
    have e4 : Ext w3 w4 := ((Ext.refl w3).alloc _).trans hb
    have Z4 := Lib.hid (box4 (box_new w3 _ _ _ _ _) (by simp) hb)
    have Y4 := Lib.hid (box4 Y3.out M3.out e4)
    have E4 := Lib.hid e4
    have M4 := Lib.hid (Nat.lt_of_lt_of_le M3.out e4.size)
    have P4 := Lib.hid (show w3.heap.size < w4.heap.size from by have := hb.size; simp at this; omega)
    clear hb e4 x0 x1 x2 x3 y0 y1 y2 y3 l m
    obtain ⟨y0, y1, y2, y3⟩ := Y4.out
    obtain ⟨z0, z1, z2, z3⟩ := Z4.out
    have m := M4.out
    have p := P4.out
    go_wp2_with fail
    refine (HSAME.out _ E4.out).mono ?_
    rintro e5 w5 ⟨rfl, hb⟩
    have E5 := Lib.hid (E4.out.trans hb)
    clear hb y0 y1 y2 y3 z0 z1 z2 z3 m p
    go_wp2_with fail
    go_ret
    exact ⟨by first | rfl | simp, E1.out.trans (E3.out.trans E5.out)⟩
  | true =>
    obtain ⟨hv, hvn, hag, h8, hct, hop, hcc⟩ := hpush (by rw [hR])
    rw [hR] at hvn hag h8 hct hop hcc
    simp only at hvn hag h8 hct hop hcc
    obtain ⟨hcn, hmn, hin⟩ := Nf.wo_has hv hvn hct hop
    obtain ⟨OL, hOL⟩ : ∃ X, (OpenR.openRes o n t k).1 = X := ⟨_, rfl⟩
    obtain ⟨OK, hOK⟩ : ∃ X, (OpenR.openRes o n t k).2 = X := ⟨_, rfl⟩
    rw [hOL] at hin
    have HCC := Lib.hid (show ∀ W : World, Ext w3 W → Calls Try.prog 42 #[.agg #[.int .i64 o2, .int .i64 n2, .string t2, .slice a2 k2.len c2]] W fun e w' => e = .returned (.tuple #[.int .i64 1, .bool true]) ∧ Ext W w' from fun W e => by have h := DocC.implCount (N3.out.ext e) o2; rw [hcn, hmn] at h; exact h)
    have HOP := Lib.hid (show ∀ W : World, Ext w3 W → Calls Try.prog 43 #[.agg #[.int .i64 o, .int .i64 n, .string t, .slice a k.len c]] W (DocO.Out W OL OK) from fun W e => by have h := (DocW.toO (D3.out.ext e)).implOpen o; rw [hOL, hOK] at h; exact h)
    have HVN := Lib.hid (show ∀ W : World, Ext w3 W → Calls Try.prog 44 #[.agg #[.int .i64 o2, .int .i64 n2, .string t2, .slice a2 k2.len c2]] W fun e w' => e = .returned (.bool true) ∧ Ext W w' from fun W e => by have h := (N3.out.ext e).implDocValid o2; rw [hvn] at h; exact h)
    have HHA := Lib.hid (show ∀ (W : World), Ext w3 W → ∀ (al : Option Addr) (cl : Nat), DocO.LayIs W OL al cl → Calls Try.prog 45 #[.agg #[.int .i64 o2, .int .i64 n2, .string t2, .slice a2 k2.len c2], .slice al OL.length cl] W fun e w' => e = .returned (.bool true) ∧ Ext W w' from fun W e al cl hl => by have h := Nf.implHas (N3.out.ext e) o2 hl; rw [hin] at h; exact h)
    have HON := Lib.hid (show ∀ W : World, Ext w3 W → Calls Try.prog 46 #[.agg #[.int .i64 o2, .int .i64 n2, .string t2, .slice a2 k2.len c2], .int .i64 8] W fun e w' => e = .returned (.int .i64 ((0 : Nat) : Int)) ∧ Ext W w' from fun W e => by have h := (N3.out.ext e).implCountOps o2 8; rw [h8] at h; exact h)
    obtain ⟨ML, hML⟩ : ∃ m, OL.length = m := ⟨_, rfl⟩
    have HML := Lib.hid hML
    clear hpush hv hvn hag h8 hct hop hcc hcn hmn hin hOL hOK hML hR hsz2
    go_wp2_with fail
    refine (HSAME.out _ ((Ext.refl w3).alloc _)).mono ?_
    rintro e4 w4 ⟨rfl, hb⟩
    have hbb : Ext w3 w4 := ((Ext.refl w3).alloc _).trans hb
    have X4 := Lib.hid (box4 X3.out L3.out hbb)
    have L4 := Lib.hid (Nat.lt_of_lt_of_le L3.out hbb.size)
    have Y4 := Lib.hid (box4 Y3.out M3.out hbb)
    have M4 := Lib.hid (Nat.lt_of_lt_of_le M3.out hbb.size)
    have E4 := Lib.hid (hbb)
    have S4 := Lib.hid hbb
    clear hb hbb x0 x1 x2 x3 y0 y1 y2 y3 l m
    obtain ⟨y0, y1, y2, y3⟩ := Y4.out
    have m := M4.out
    go_wp2_with fail
    refine (HCC.out _ E4.out).mono ?_
    rintro e5 w5 ⟨rfl, hb⟩
    have hbb : Ext w4 w5 := hb
    have X5 := Lib.hid (box4 X4.out L4.out hbb)
    have L5 := Lib.hid (Nat.lt_of_lt_of_le L4.out hbb.size)
    have Y5 := Lib.hid (box4 Y4.out M4.out hbb)
    have M5 := Lib.hid (Nat.lt_of_lt_of_le M4.out hbb.size)
    have E5 := Lib.hid (E4.out.trans hbb)
    have S5 := Lib.hid hbb
    clear hb hbb y0 y1 y2 y3 m
    obtain ⟨x0, x1, x2, x3⟩ := X5.out
    have l := L5.out
    go_wp2_with fail
    refine (HOP.out _ E5.out).mono ?_
    rintro e6 w6 ⟨pa, ca, rfl, hla, hb⟩
    have hbb : Ext w5 w6 := hb
    have X6 := Lib.hid (box4 X5.out L5.out hbb)
    have L6 := Lib.hid (Nat.lt_of_lt_of_le L5.out hbb.size)
    have Y6 := Lib.hid (box4 Y5.out M5.out hbb)
    have M6 := Lib.hid (Nat.lt_of_lt_of_le M5.out hbb.size)
    have E6 := Lib.hid (E5.out.trans hbb)
    have S6 := Lib.hid hbb
    have KA := Lib.hid hla
    clear hla
    rw [HML.out]
    clear hb hbb x0 x1 x2 x3 l
    obtain ⟨y0, y1, y2, y3⟩ := Y6.out
    have m := M6.out
    go_wp2_with fail
    refine (HVN.out _ E6.out).mono ?_
    rintro e7 w7 ⟨rfl, hb⟩
    have hbb : Ext w6 w7 := hb
    have X7 := Lib.hid (box4 X6.out L6.out hbb)
    have L7 := Lib.hid (Nat.lt_of_lt_of_le L6.out hbb.size)
    have Y7 := Lib.hid (box4 Y6.out M6.out hbb)
    have M7 := Lib.hid (Nat.lt_of_lt_of_le M6.out hbb.size)
    have E7 := Lib.hid (E6.out.trans hbb)
    have S7 := Lib.hid hbb
    clear hb hbb y0 y1 y2 y3 m
    have HH4 := Lib.hid (fun (W : World) (e : Ext w7 W) => HHA.out W (E7.out.trans e) _ _ (KA.out.ext (S7.out.trans e)))
    rw [HML.out] at HH4
    obtain ⟨y0, y1, y2, y3⟩ := Y7.out
    have m := M7.out
    go_wp2_with fail
    refine (HH4.out _ (Ext.refl w7)).mono ?_
    rintro e8 w8 ⟨rfl, hb⟩
    have hbb : Ext w7 w8 := hb
    have X8 := Lib.hid (box4 X7.out L7.out hbb)
    have L8 := Lib.hid (Nat.lt_of_lt_of_le L7.out hbb.size)
    have Y8 := Lib.hid (box4 Y7.out M7.out hbb)
    have M8 := Lib.hid (Nat.lt_of_lt_of_le M7.out hbb.size)
    have E8 := Lib.hid (E7.out.trans hbb)
    have S8 := Lib.hid hbb
    clear hb hbb y0 y1 y2 y3 m
    obtain ⟨y0, y1, y2, y3⟩ := Y8.out
    have m := M8.out
    go_wp2_with fail
    refine (HON.out _ E8.out).mono ?_
    rintro e1 v0 ⟨rfl, hb0⟩
    have q0 := Lib.hid (show Ext w8 v0 from hb0)
    clear hb0 y0 y1 y2 y3 m
    go_wp2_with fail
    go_ret
    exact ⟨by first | rfl | simp, E1.out.trans (E3.out.trans (E8.out.trans q0.out))⟩

set_option maxHeartbeats 400000 in
theorem walk_big (w : World) (a0 : Option Addr) (len0 cap0 : Nat) (hl0 : 1048576 < len0) :
    Calls Try.prog 10 #[.slice a0 len0 cap0] w fun e w' => e = .returned (.bool true) ∧ Ext w w' := by
  have h1 : (1048576 : Int) < (len0 : Int) := by omega
  go_enter Try.func10, Try.ntmps10
  go_wp2_with fail
  go_ret
  exact ⟨rfl, Ext.refl w⟩

theorem walk (w : World) (a0 : Option Addr) (len0 cap0 : Nat) (hb0 : Bytes w a0 len0) (hlc0 : len0 ≤ cap0) (hcm0 : cap0 ≤ maxLen) :
    Calls Try.prog 10 #[.slice a0 len0 cap0] w fun e w' => e = .returned (.bool true) ∧ Below w.heap.size w w' := by
  by_cases h : 1048576 < len0
  · exact walk_big w a0 len0 cap0 h
  · exact walk_good w a0 len0 cap0 hb0 hlc0 hcm0 (by omega)

set_option maxRecDepth 100000 in
theorem lifted (os : Os) (started : os.Started) (H : Type) (enc : TypeId × Value → H) :
    ReturnsInHanded {} Try.checked os 10 .any (Rows.fnWithoutGroupsSpec.pre6 enc Try.prog Try.f10 Rows.fnWithoutGroupsRow.domain false) (Rows.fnWithoutGroupsSpec.post enc Try.prog Try.f10 false true false false) := by
  refine returnsInHanded_of_change (C := Try.checked) Facts.own started (by kernel_rfl) Try.func10
    (ChangeSpec.witness6 (enc := enc) (C := Try.checked) false ⟨#[], #[.slice none 0 0], []⟩ 8 (by kernel_rfl) (by kernel_rfl) (by kernel_rfl) (by kernel_rfl)) ?_
  intro W base args ds gs before hval0 hW hcnd0 _
  clear hcnd0
  have hval : ∀ (j : Nat) t v, Try.f10.params[j]? = some t → args[j]? = some v → Value.okWide Try.prog W .any base t v := hval0
  have hW' := hW
  obtain ⟨p, q, hA0, hV, rfl, hfz, hnd⟩ := hW
  have hA : DataW.TrodAll enc Try.prog W 0 (fun _ => true) true Try.f10.params.toList args.toList ds p := hA0
  rw [Try.params10] at hA hval
  obtain ⟨v0, d0, rfl, rfl, h0⟩ := trodAll_one hA
  obtain ⟨rfl, rfl⟩ := trodVars_none hV
  obtain ⟨a0, len0, cap0, rfl⟩ := okWide_slice Try.underlying48 (hval 0 48 v0 rfl rfl)
  clear hA0 hval0
  simp only [List.append_nil] at hW'
  have hlt : ∀ x ∈ p, x.block < W.heap.size := fun x hx => by simpa using hW'.lt x hx
  obtain ⟨hb0, hlc0, hcm0⟩ := opened h0
  refine (walk W a0 len0 cap0 hb0 hlc0 hcm0).mono fun e W' ⟨he, hb⟩ => ?_
  subst he
  refine ⟨_, rfl, [_], [], p, [], p, [], hW', trodAll_mk1 (shut_bool Try.underlying4 _), ?_, rfl, hb.frame _, fun h => by cases h⟩
  exact trodAll_mk1 (Below.trod Facts.laidOut (by kernel_rfl) (of_decide_eq_true (by kernel_rfl)) h0 hb hlt)

theorem named : Try.prog.funcNamed Rows.fnWithoutGroupsRow.func = some 10 := by kernel_rfl
theorem closed : joinedFacts Try.prog 10 Try.f10 Rows.fnWithoutGroupsSpec Rows.fnWithoutGroupsRow = true :=
  Facts.closed_of rfl rfl rfl rfl (h28b := rfl) (by kernel_rfl) (by kernel_rfl) (by kernel_rfl) (by kernel_rfl) (by kernel_rfl) (by kernel_rfl) (by kernel_rfl) (by kernel_rfl) (by kernel_rfl) (by kernel_rfl) (by kernel_rfl) (by kernel_rfl) (by kernel_rfl) (by kernel_rfl) (by kernel_rfl) (by kernel_rfl) (by kernel_rfl) (by kernel_rfl) (by kernel_rfl) (by kernel_rfl) (by kernel_rfl) (by kernel_rfl) (by kernel_rfl) (by kernel_rfl)
theorem instanced : Try.f10.isInstance Try.prog Rows.fnWithoutGroupsRow.origin Rows.fnWithoutGroupsRow.targs := of_decide_eq_true (by kernel_rfl)
theorem wrapped : Try.f10.isWrapper Try.prog Rows.fnWithoutGroupsRow.wrapper Rows.fnWithoutGroupsRow.mainSum := by
  unfold Func.isWrapper
  rw [if_neg (of_decide_eq_false (by kernel_rfl))]
  exact ⟨rfl, rfl⟩

theorem holds : Rows.FnWithoutGroupsSaid :=
  OpenClaim.holds_of_wide 10 Try.f10 rfl rfl rfl rfl rfl rfl rfl ⟨rfl, rfl, rfl, rfl, rfl⟩ rfl rfl rfl rfl rfl named Try.func10 closed instanced wrapped
    (fun os started H enc _ => lifted os started H enc)

end Go.Proofs.Ytmkibpimjaofgaa.lawWithoutGroups

