/-
  Open layouts of a nest are nested: the law FnOpenNest returns true for whatever draws, and its argument reads as it did. No condition of ours.
-/
import Derived.Test.YtjpgnhpfmdjamaaDrL
import Derived.Test.YtjpgnhpfmdjamaaDocO
import Derived.Test.YtjpgnhpfmdjamaaLawC
import Derived.Test.YtjpgnhpfmdjamaaFacts
import Derived.Test.YtjpgnhpfmdjamaaRows
import Derived.Deep.RegionHeld3
import Derived.Deep.DeepCutAuto
import Derived.Deep.RegionWith
set_option linter.unusedVariables false
set_option linter.unusedSimpArgs false
namespace Go.Proofs.Ytjpgnhpfmdjamaa.lawOpenNest
open Go.ChangeShapes Go.WideShapes Go.ChangeAt Go.RowKit P1 Draw6 LawC DocO LayN OpenR

set_option maxRecDepth 100000 in
set_option maxHeartbeats 6400000 in
theorem walk_good (w : World) (a0 : Option Addr) (len0 cap0 : Nat) (hb0 : Bytes w a0 len0) (hlc0 : len0 ≤ cap0) (hcm0 : cap0 ≤ maxLen) (hl0 : len0 ≤ 1048576) :
    Calls Try.prog 12 #[.slice a0 len0 cap0] w fun e w' => e = .returned (.bool true) ∧ Ext w w' := by
  have HD0 := Lib.hid (DrL.drawOpenLayout w a0 len0 cap0 hb0 hlc0 hcm0)
  clear hb0
  unfold maxLen at hcm0
  go_enter Try.func12, Try.ntmps12
  go_wp2_with fail
  refine HD0.out.mono ?_
  rintro e1 w1 ⟨o, n, t, k, a, cap, fs, rfl, hc, hsz, hsub, hfr, hb1⟩
  have D1 := Lib.hid (show DocO.Doc0 w1 n t k a cap fs from ⟨hsub, fun c hc => (hfr.2 c hc).2, hc, by omega⟩)
  have E1 := Lib.hid (show Ext w w1 from hb1)
  clear hsub hfr hb1
  obtain ⟨⟨X, V⟩, hr⟩ : ∃ r, openRes o n t k = r := ⟨_, rfl⟩
  have HOI := Lib.hid (show ∀ W : World, Ext w1 W → Calls Try.prog 38 #[.agg #[.int .i64 o, .int .i64 n, .string t, .slice a k.len cap]] W (Out W X V) from fun W e => by have h := (D1.out.ext e).implOpen o; rw [hr] at h; exact h)
  have HOS := Lib.hid (show ∀ W : World, Ext w1 W → Calls Try.prog 39 #[.agg #[.int .i64 o, .int .i64 n, .string t, .slice a k.len cap]] W (Out W X V) from fun W e => by have h := (D1.out.ext e).specOpen o; rw [hr] at h; exact h)
  obtain ⟨⟨Y, U⟩, hr2⟩ : ∃ r, openRes 6 4 ⟨#[]⟩ (.cons o n t k .nil) = r := ⟨_, rfl⟩
  have HON := Lib.hid (show ∀ (W : World), Ext w1 W → ∀ (T : TypeId) (W' : World), Ext (W.alloc (.cells #[.int .i64 o, .int .i64 n, .string t, .slice a k.len cap] T)) W' → Calls Try.prog 38 #[.agg #[.int .i64 6, .int .i64 4, .string ⟨#[]⟩, .slice (some ⟨W.heap.size, 0, none⟩) 1 1]] W' (Out W' Y U) from fun W e T W' e' => by have h := (D1.out.ext e).implOpenNest o 4 T W' e'; rw [hr2] at h; exact h)
  obtain ⟨⟨Z, G⟩, hr3⟩ : ∃ r, nestR 4 X = r := ⟨_, rfl⟩
  have HNL := Lib.hid (show ∀ (W : World) (a : Option Addr) (c : Nat), LayIs W X a c → Calls Try.prog 46 #[.int .i64 4, .slice a X.length c] W (Out W Z G) from fun W a c h => by have h := h.nest 4 (by omega); rw [hr3] at h; exact h)
  have HYZ := Lib.hid (show V = true → U = true → G = true → Z = Y from fun h1 h2 h3 => by
    subst h1; subst h2; subst h3
    rw [(open_yes hr2).2, nest_yes hr3, (open_yes hr).2]; rfl)
  clear hr hr2 hr3 hc hsz
  go_wp2_with fail
  refine (HOI.out _ ((Ext.refl _).alloc _)).mono ?_
  rintro e2 w2 ⟨pa, pc, rfl, hl2, hb2⟩
  have X2 := Lib.hid (box4 (box_new w1 _ _ _ _ _) (by simp) hb2)
  have E2 := Lib.hid (((Ext.refl w1).alloc _).trans hb2)
  have L2 := Lib.hid (show w1.heap.size < w2.heap.size from by have := hb2.size; simp at this; omega)
  have K2 := Lib.hid hl2
  clear hb2 hl2
  obtain ⟨x0, x1, x2, x3⟩ := X2.out
  have l2 := L2.out
  go_wp2_with fail
  refine (HOS.out _ E2.out).mono ?_
  rintro e3 w3 ⟨qa, qc, rfl, hl3, hb3⟩
  have X3 := Lib.hid (box4 X2.out L2.out hb3)
  have E3 := Lib.hid (E2.out.trans hb3)
  have L3 := Lib.hid (Nat.lt_of_lt_of_le L2.out hb3.size)
  have K3 := Lib.hid (And.intro (K2.out.ext hb3) hl3)
  clear hb3 hl3 x0 x1 x2 x3 l2 X2 E2 L2 K2
  obtain ⟨x0, x1, x2, x3⟩ := X3.out
  have l3 := L3.out
  go_wp2_with fail
  refine (HON.out w3 E3.out _ _ ((Ext.refl _).alloc _)).mono ?_
  rintro e4 w4 ⟨ya, yc, rfl, hl4, hb4⟩
  have B4 := Lib.hid (show Ext w3 w4 from (((Ext.refl w3).alloc _).alloc _).trans hb4)
  have E4 := Lib.hid (E3.out.trans B4.out)
  have K4 := Lib.hid (And.intro (K3.out.1.ext B4.out) (K3.out.2.ext B4.out))
  have Y4 := Lib.hid hl4
  clear hb4 hl4 x0 x1 x2 x3 l3
  cases V with
  | false =>
    go_wp2_with fail
    refine (LayIs.same K4.out.1 K4.out.2).mono ?_
    rintro e5 w5 ⟨rfl, hb5⟩
    have E5 := Lib.hid (E4.out.trans hb5)
    have K5 := Lib.hid (And.intro (K4.out.1.ext hb5) (K4.out.2.ext hb5))
    have B5 := Lib.hid hb5
    clear hb5
    go_wp2_with fail
    refine (LayIs.same K5.out.1 K5.out.2).mono ?_
    rintro e6 w6 ⟨rfl, hb6⟩
    have E6 := Lib.hid (E5.out.trans hb6)
    clear hb6
    go_wp2_with fail
    go_ret
    exact ⟨by first | rfl | simp, E1.out.trans E6.out⟩
  | true =>
   cases U with
   | false =>
    go_wp2_with fail
    refine (LayIs.same K4.out.1 K4.out.2).mono ?_
    rintro e5 w5 ⟨rfl, hb5⟩
    have E5 := Lib.hid (E4.out.trans hb5)
    have K5 := Lib.hid (And.intro (K4.out.1.ext hb5) (K4.out.2.ext hb5))
    have B5 := Lib.hid hb5
    clear hb5
    go_wp2_with fail
    refine (LayIs.same K5.out.1 K5.out.2).mono ?_
    rintro e6 w6 ⟨rfl, hb6⟩
    have E6 := Lib.hid (E5.out.trans hb6)
    clear hb6
    go_wp2_with fail
    go_ret
    exact ⟨by first | rfl | simp, E1.out.trans E6.out⟩
   | true =>
    go_wp2_with fail
    refine (LayIs.same K4.out.1 K4.out.2).mono ?_
    rintro e5 w5 ⟨rfl, hb5⟩
    have E5 := Lib.hid (E4.out.trans hb5)
    have K5 := Lib.hid (And.intro (K4.out.1.ext hb5) (K4.out.2.ext hb5))
    have B5 := Lib.hid hb5
    clear hb5
    have Y5 := Lib.hid (Y4.out.ext B5.out)
    go_wp2_with fail
    refine (HNL.out _ _ _ K5.out.1).mono ?_
    rintro e6 w6 ⟨za, zc, rfl, hl6, hb6⟩
    have E6 := Lib.hid (E5.out.trans hb6)
    cases G with
    | false =>
      clear hb6 hl6
      go_wp2_with fail
      go_ret
      exact ⟨by first | rfl | simp, E1.out.trans E6.out⟩
    | true =>
      obtain rfl : Z = Y := by first | exact HYZ.out rfl rfl rfl | exact HYZ.out trivial trivial rfl | exact HYZ.out trivial trivial trivial | simpa using HYZ.out
      have Y6 := Lib.hid (And.intro (Y5.out.ext hb6) hl6)
      clear hb6 hl6
      go_wp2_with fail
      refine (LayIs.same Y6.out.1 Y6.out.2).mono ?_
      rintro e7 w7 ⟨rfl, hb7⟩
      have E7 := Lib.hid (E6.out.trans hb7)
      clear hb7
      go_wp2_with fail
      go_ret
      exact ⟨by first | rfl | simp, E1.out.trans E7.out⟩

set_option maxHeartbeats 400000 in
theorem walk_big (w : World) (a0 : Option Addr) (len0 cap0 : Nat) (hl0 : 1048576 < len0) :
    Calls Try.prog 12 #[.slice a0 len0 cap0] w fun e w' => e = .returned (.bool true) ∧ Ext w w' := by
  have h1 : (1048576 : Int) < (len0 : Int) := by omega
  go_enter Try.func12, Try.ntmps12
  go_wp2_with fail
  go_ret
  exact ⟨rfl, Ext.refl w⟩

theorem walk (w : World) (a0 : Option Addr) (len0 cap0 : Nat) (hb0 : Bytes w a0 len0) (hlc0 : len0 ≤ cap0) (hcm0 : cap0 ≤ maxLen) :
    Calls Try.prog 12 #[.slice a0 len0 cap0] w fun e w' => e = .returned (.bool true) ∧ Below w.heap.size w w' := by
  by_cases h : 1048576 < len0
  · exact walk_big w a0 len0 cap0 h
  · exact walk_good w a0 len0 cap0 hb0 hlc0 hcm0 (by omega)

set_option maxRecDepth 100000 in
theorem lifted (os : Os) (started : os.Started) (H : Type) (enc : TypeId × Value → H) :
    ReturnsInHanded {} Try.checked os 12 .any (Rows.fnOpenNestSpec.pre6 enc Try.prog Try.f12 Rows.fnOpenNestRow.domain false) (Rows.fnOpenNestSpec.post enc Try.prog Try.f12 false true false false) := by
  refine returnsInHanded_of_change (C := Try.checked) Facts.own started (by kernel_rfl) Try.func12
    (ChangeSpec.witness6 (enc := enc) (C := Try.checked) false ⟨#[], #[.slice none 0 0], []⟩ 8 (by kernel_rfl) (by kernel_rfl) (by kernel_rfl) (by kernel_rfl)) ?_
  intro W base args ds gs before hval0 hW hcnd0 _
  clear hcnd0
  have hval : ∀ (j : Nat) t v, Try.f12.params[j]? = some t → args[j]? = some v → Value.okWide Try.prog W .any base t v := hval0
  have hW' := hW
  obtain ⟨p, q, hA0, hV, rfl, hfz, hnd⟩ := hW
  have hA : DataW.TrodAll enc Try.prog W 0 (fun _ => true) true Try.f12.params.toList args.toList ds p := hA0
  rw [Try.params12] at hA hval
  obtain ⟨v0, d0, rfl, rfl, h0⟩ := trodAll_one hA
  obtain ⟨rfl, rfl⟩ := trodVars_none hV
  obtain ⟨a0, len0, cap0, rfl⟩ := okWide_slice Try.underlying22 (hval 0 22 v0 rfl rfl)
  clear hA0 hval0
  simp only [List.append_nil] at hW'
  have hlt : ∀ x ∈ p, x.block < W.heap.size := fun x hx => by simpa using hW'.lt x hx
  obtain ⟨hb0, hlc0, hcm0⟩ := opened h0
  refine (walk W a0 len0 cap0 hb0 hlc0 hcm0).mono fun e W' ⟨he, hb⟩ => ?_
  subst he
  refine ⟨_, rfl, [_], [], p, [], p, [], hW', trodAll_mk1 (shut_bool Try.underlying4 _), ?_, rfl, hb.frame _, fun h => by cases h⟩
  exact trodAll_mk1 (Below.trod Facts.laidOut (by kernel_rfl) (of_decide_eq_true (by kernel_rfl)) h0 hb hlt)

theorem named : Try.prog.funcNamed Rows.fnOpenNestRow.func = some 12 := by kernel_rfl
theorem closed : joinedFacts Try.prog 12 Try.f12 Rows.fnOpenNestSpec Rows.fnOpenNestRow = true :=
  Facts.closed_of rfl rfl rfl rfl (h28b := rfl) (by kernel_rfl) (by kernel_rfl) (by kernel_rfl) (by kernel_rfl) (by kernel_rfl) (by kernel_rfl) (by kernel_rfl) (by kernel_rfl) (by kernel_rfl) (by kernel_rfl) (by kernel_rfl) (by kernel_rfl) (by kernel_rfl) (by kernel_rfl) (by kernel_rfl) (by kernel_rfl) (by kernel_rfl) (by kernel_rfl) (by kernel_rfl) (by kernel_rfl) (by kernel_rfl) (by kernel_rfl) (by kernel_rfl) (by kernel_rfl)
theorem instanced : Try.f12.isInstance Try.prog Rows.fnOpenNestRow.origin Rows.fnOpenNestRow.targs := of_decide_eq_true (by kernel_rfl)
theorem wrapped : Try.f12.isWrapper Try.prog Rows.fnOpenNestRow.wrapper Rows.fnOpenNestRow.mainSum := by
  unfold Func.isWrapper
  rw [if_neg (of_decide_eq_false (by kernel_rfl))]
  exact ⟨rfl, rfl⟩

theorem holds : Rows.FnOpenNestSaid :=
  OpenClaim.holds_of_wide 12 Try.f12 rfl rfl rfl rfl rfl rfl rfl ⟨rfl, rfl, rfl, rfl, rfl⟩ rfl rfl rfl rfl rfl named Try.func12 closed instanced wrapped
    (fun os started H enc _ => lifted os started H enc)

end Go.Proofs.Ytjpgnhpfmdjamaa.lawOpenNest
