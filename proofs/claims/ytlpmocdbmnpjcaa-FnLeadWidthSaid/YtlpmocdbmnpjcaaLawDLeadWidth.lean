import Derived.Test.YtlpmocdbmnpjcaaDrM
import Derived.Test.YtlpmocdbmnpjcaaDocW
import Derived.Test.YtlpmocdbmnpjcaaDcK
import Derived.Test.YtlpmocdbmnpjcaaDrZ
import Derived.Test.YtlpmocdbmnpjcaaFacts
import Derived.Test.YtlpmocdbmnpjcaaRows
import Derived.Deep.RegionHeld3
import Derived.Deep.DeepCutAuto
import Derived.Deep.RegionWith
/-
  Leads are first lines: the law FnLeadWidth returns true for whatever draws, and its argument reads as it did. No condition of ours.
-/
set_option linter.unusedVariables false
set_option linter.unusedSimpArgs false
namespace Go.Proofs.Ytlpmocdbmnpjcaa.lawLeadWidth
open Go.ChangeShapes Go.WideShapes Go.ChangeAt Go.RowKit P1 Draw6 LawC CntC DocK Wid OpenR LayN

set_option maxRecDepth 100000 in
set_option maxHeartbeats 6400000 in
theorem walk_good (w : World) (a0 : Option Addr) (len0 cap0 : Nat) (hb0 : Bytes w a0 len0) (hlc0 : len0 ≤ cap0) (hcm0 : cap0 ≤ maxLen) (hl0 : len0 ≤ 1048576) :
    Calls Try.prog 11 #[.slice a0 len0 cap0] w fun e w' => e = .returned (.bool true) ∧ Ext w w' := by
  have HD0 := Lib.hid (DrM.drawLeadWidth w a0 len0 cap0 hb0 hlc0 hcm0)
  clear hb0
  unfold maxLen at hcm0
  go_enter Try.func11, Try.ntmps11
  go_wp2_with fail
  refine HD0.out.mono ?_
  rintro e1 w1 ⟨o, n, t, k, a, cap, fs, rfl, hc, hsz, hsub, hfr, hb1⟩
  have D1 := Lib.hid (show DocK.Doc0 w1 n t k a cap fs from ⟨hsub, fun c hc => (hfr.2 c hc).2, hc, by omega⟩)
  have E1 := Lib.hid (show Ext w w1 from hb1)
  clear hsub hfr hb1
  obtain ⟨V, hV⟩ : ∃ V, validD o n t k = V := ⟨_, rfl⟩
  obtain ⟨N, hN⟩ : ∃ N : Int, orZ (validD o n t k) (nD o t k) = N := ⟨_, rfl⟩
  have HVI := Lib.hid (show ∀ W : World, Ext w1 W → Calls Try.prog 42 #[.agg #[.int .i64 o, .int .i64 n, .string t, .slice a k.len cap]] W fun e w' => e = .returned (.tuple #[.int .i64 N, .bool V]) ∧ Ext W w' from fun W e => by rw [← hN, ← hV]; exact DocW.implLeadWidth (D1.out.ext e) o)
  have HVS := Lib.hid (show ∀ W : World, Ext w1 W → Calls Try.prog 43 #[.agg #[.int .i64 o, .int .i64 n, .string t, .slice a k.len cap]] W fun e w' => e = .returned (.tuple #[.int .i64 N, .bool V]) ∧ Ext W w' from fun W e => by rw [← hN, ← hV]; exact DocW.specLeadWidth (D1.out.ext e) o)
  have hkl : k.len ≤ 100000 := D1.out.len
  have hNN : (N != N) = false := by simp
  have hNe : (N == N) = true := by simp
  have hNb : 0 ≤ N ∧ N ≤ 2000 := by
    have := nD_size o t k
    rw [← hN]; unfold orZ; split <;> omega
  obtain ⟨hNb0, hNb1⟩ := hNb
  clear hc hsz
  go_wp2_with fail
  refine (HVI.out _ ((Ext.refl _).alloc _)).mono ?_
  rintro e2 w2 ⟨rfl, hb2⟩
  have X2 := Lib.hid (box4 (box_new w1 _ _ _ _ _) (by simp) hb2)
  have E2 := Lib.hid (((Ext.refl w1).alloc _).trans hb2)
  have L2 := Lib.hid (show w1.heap.size < w2.heap.size from by have := hb2.size; simp at this; omega)
  clear hb2
  obtain ⟨x0, x1, x2, x3⟩ := X2.out
  have l2 := L2.out
  go_wp2_with fail
  refine (HVS.out _ E2.out).mono ?_
  rintro e3 w3 ⟨rfl, hb3⟩
  have X3 := Lib.hid (box4 X2.out L2.out hb3)
  have E3 := Lib.hid (E2.out.trans hb3)
  have L3 := Lib.hid (Nat.lt_of_lt_of_le L2.out hb3.size)
  clear hb3 x0 x1 x2 x3 l2 X2 E2 L2
  obtain ⟨x0, x1, x2, x3⟩ := X3.out
  have l3 := L3.out
  cases V with
  | false =>
    obtain rfl : 0 = N := by rw [← hN, hV]; rfl
    clear hV hN hNN hNe hNb0 hNb1
    go_wp2_with fail
    go_ret
    exact ⟨by first | rfl | simp, E1.out.trans E3.out⟩
  | true =>
    have hval := hV
    have HOI := Lib.hid (show ∀ W : World, Ext w1 W → Calls Try.prog 29 #[.agg #[.int .i64 o, .int .i64 n, .string t, .slice a k.len cap]] W (DocO.Out W (openD o n t k) true) from fun W e => by have h := (DocW.toO (D1.out.ext e)).implOpen o; rw [openRes_yes hval] at h; exact h)
    obtain ⟨i, s, r, e1, e2, e3⟩ := DocW.open_lead 40 o n t k (DocW.valid_ok hval)
    have hs : (s.size : Int) = N := by rw [e2, ← hN, hV]; rfl
    obtain ⟨X, hX⟩ : ∃ X, openD o n t k = X := ⟨_, rfl⟩
    rw [hX] at HOI e1
    have hXl : 0 < X.length := by rw [e1]; simp
    have HX := Lib.hid e1
    have hss : s.size ≤ 2000 := by omega
    clear hV hN hval e1 e2 e3 hX
    go_wp2_with fail
    refine (HOI.out _ E3.out).mono ?_
    rintro e4 w4 ⟨pa, pc, rfl, hl4, hb4⟩
    have E4 := Lib.hid (E3.out.trans hb4)
    obtain ⟨b, off, rfl, hbl, z0, z1⟩ := DocW.lay_first hl4 HX.out
    have hsN : ((s.size : Int) == N) = true := by rw [hs]; simp
    clear hb4 hl4 x0 x1 x2 x3 l3
    go_wp2_with fail
    go_ret
    exact ⟨by first | rfl | (simp; done) | simp [hs], E1.out.trans E4.out⟩

set_option maxHeartbeats 400000 in
theorem walk_big (w : World) (a0 : Option Addr) (len0 cap0 : Nat) (hl0 : 1048576 < len0) :
    Calls Try.prog 11 #[.slice a0 len0 cap0] w fun e w' => e = .returned (.bool true) ∧ Ext w w' := by
  have h1 : (1048576 : Int) < (len0 : Int) := by omega
  go_enter Try.func11, Try.ntmps11
  go_wp2_with fail
  go_ret
  exact ⟨rfl, Ext.refl w⟩

theorem walk (w : World) (a0 : Option Addr) (len0 cap0 : Nat) (hb0 : Bytes w a0 len0) (hlc0 : len0 ≤ cap0) (hcm0 : cap0 ≤ maxLen) :
    Calls Try.prog 11 #[.slice a0 len0 cap0] w fun e w' => e = .returned (.bool true) ∧ Below w.heap.size w w' := by
  by_cases h : 1048576 < len0
  · exact walk_big w a0 len0 cap0 h
  · exact walk_good w a0 len0 cap0 hb0 hlc0 hcm0 (by omega)

set_option maxRecDepth 100000 in
theorem lifted (os : Os) (started : os.Started) (H : Type) (enc : TypeId × Value → H) :
    ReturnsInHanded {} Try.checked os 11 .any (Rows.fnLeadWidthSpec.pre6 enc Try.prog Try.f11 Rows.fnLeadWidthRow.domain false) (Rows.fnLeadWidthSpec.post enc Try.prog Try.f11 false true false false) := by
  refine returnsInHanded_of_change (C := Try.checked) Facts.own started (by kernel_rfl) Try.func11
    (ChangeSpec.witness6 (enc := enc) (C := Try.checked) false ⟨#[], #[.slice none 0 0], []⟩ 8 (by kernel_rfl) (by kernel_rfl) (by kernel_rfl) (by kernel_rfl)) ?_
  intro W base args ds gs before hval0 hW hcnd0 _
  clear hcnd0
  have hval : ∀ (j : Nat) t v, Try.f11.params[j]? = some t → args[j]? = some v → Value.okWide Try.prog W .any base t v := hval0
  have hW' := hW
  obtain ⟨p, q, hA0, hV, rfl, hfz, hnd⟩ := hW
  have hA : DataW.TrodAll enc Try.prog W 0 (fun _ => true) true Try.f11.params.toList args.toList ds p := hA0
  rw [Try.params11] at hA hval
  obtain ⟨v0, d0, rfl, rfl, h0⟩ := trodAll_one hA
  obtain ⟨rfl, rfl⟩ := trodVars_none hV
  obtain ⟨a0, len0, cap0, rfl⟩ := okWide_slice Try.underlying22 (hval 0 22 v0 rfl rfl)
  clear hA0 hval0
  simp only [List.append_nil] at hW'
  have hlt : ∀ x ∈ p, x.block < W.heap.size := fun x hx => by simpa using hW'.lt x hx
  obtain ⟨hb0, hlc0, hcm0⟩ := opened h0
  refine (walk W a0 len0 cap0 hb0 hlc0 hcm0).mono fun e W' ⟨he, hb⟩ => ?_
  subst he
  refine ⟨_, rfl, [_], [], p, [], p, [], hW', trodAll_mk1 (shut_bool Try.underlying4 _), ?_, rfl, hb.frame _, fun h => by cases h⟩
  exact trodAll_mk1 (Below.trod Facts.laidOut (by kernel_rfl) (of_decide_eq_true (by kernel_rfl)) h0 hb hlt)

theorem named : Try.prog.funcNamed Rows.fnLeadWidthRow.func = some 11 := by kernel_rfl
theorem closed : joinedFacts Try.prog 11 Try.f11 Rows.fnLeadWidthSpec Rows.fnLeadWidthRow = true :=
  Facts.closed_of rfl rfl rfl rfl (h28b := rfl) (by kernel_rfl) (by kernel_rfl) (by kernel_rfl) (by kernel_rfl) (by kernel_rfl) (by kernel_rfl) (by kernel_rfl) (by kernel_rfl) (by kernel_rfl) (by kernel_rfl) (by kernel_rfl) (by kernel_rfl) (by kernel_rfl) (by kernel_rfl) (by kernel_rfl) (by kernel_rfl) (by kernel_rfl) (by kernel_rfl) (by kernel_rfl) (by kernel_rfl) (by kernel_rfl) (by kernel_rfl) (by kernel_rfl) (by kernel_rfl)
theorem instanced : Try.f11.isInstance Try.prog Rows.fnLeadWidthRow.origin Rows.fnLeadWidthRow.targs := of_decide_eq_true (by kernel_rfl)
theorem wrapped : Try.f11.isWrapper Try.prog Rows.fnLeadWidthRow.wrapper Rows.fnLeadWidthRow.mainSum := by
  unfold Func.isWrapper
  rw [if_neg (of_decide_eq_false (by kernel_rfl))]
  exact ⟨rfl, rfl⟩

theorem holds : Rows.FnLeadWidthSaid :=
  OpenClaim.holds_of_wide 11 Try.f11 rfl rfl rfl rfl rfl rfl rfl ⟨rfl, rfl, rfl, rfl, rfl⟩ rfl rfl rfl rfl rfl named Try.func11 closed instanced wrapped
    (fun os started H enc _ => lifted os started H enc)

end Go.Proofs.Ytlpmocdbmnpjcaa.lawLeadWidth

