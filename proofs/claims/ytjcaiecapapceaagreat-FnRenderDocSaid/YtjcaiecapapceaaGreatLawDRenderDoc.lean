import Derived.Test.YtjcaiecapapceaaGreatDrM
import Derived.Test.YtjcaiecapapceaaGreatDocT
import Derived.Test.YtjcaiecapapceaaGreatLdX
import Derived.Test.YtjcaiecapapceaaGreatFacts
import Derived.Deep.DeepCutAuto
/-
 Rendering chooses a layout: the law FnRenderDoc returns true for whatever draws, and its argument reads as it did. No condition of ours.
-/
set_option linter.unusedVariables false
set_option linter.unusedSimpArgs false
set_option maxRecDepth 100000
set_option maxHeartbeats 6400000
namespace Go.Proofs.YtjcaiecapapceaaGreat.lawRenderDoc
open Go.ChangeShapes Go.WideShapes Go.ChangeAt Go.RowKit P1 Draw6 LawC CntC DocK CatD
theorem walk_good (w : World) (a0 : Option Addr) (len0 cap0 : Nat) (hb0 : Bytes w a0 len0) (hlc0 : len0 ≤ cap0) (hcm0 : cap0 ≤ maxLen) (hl0 : len0 ≤ 1048576) :
  Calls Tryz.prog 3 #[.slice a0 len0 cap0] w fun e w' => e = .returned (.bool true) ∧ Ext w w' := by
 have HD0 := Lib.hid (DrR.drawRenderDoc w a0 len0 cap0 hb0 hlc0 hcm0)
 clear hb0
 unfold maxLen at hcm0
 go_enter Tryz.func3, Tryz.ntmps3
 go_wp2_with fail
 refine HD0.out.mono ?_
 rintro e1 w1 ⟨o, n, t, k, a, c, fs, i, rfl, hi, hc, hsz, hsub, hfr, hb1⟩
 obtain ⟨w3, hV⟩ : ∃ V, w1.alloc (.cells #[.int .i64 o, .int .i64 n, .string t, .slice a k.len c] 25) = V := ⟨_, rfl⟩
 have he : Ext w1 w3 := by rw [← hV]; exact (Ext.refl _).alloc _
 have X3 := Lib.hid (show w3.cell? ⟨w1.heap.size, 0, none⟩ = some (.int .i64 o) ∧ w3.cell? ⟨w1.heap.size, 1, none⟩ = some (.int .i64 n) ∧ w3.cell? ⟨w1.heap.size, 2, none⟩ = some (.string t) ∧ w3.cell? ⟨w1.heap.size, 3, none⟩ = some (.slice a k.len c) from by rw [← hV]; exact box_new w1 25 (.int .i64 o) (.int .i64 n) (.string t) (.slice a k.len c))
 have L3 := Lib.hid (show w1.heap.size < w3.heap.size by rw [← hV]; simp)
 have D3 := Lib.hid (show DocK.Doc0 w3 n t k a c fs from (DocK.Doc0.mk hsub (fun c hc => (hfr.2 c hc).2) hc (by omega)).ext he)
 have E1 := Lib.hid (show Ext w w3 from Ext.trans (show Ext w w1 from hb1) he)
 have E3 := Lib.hid (Ext.refl w3)
 clear he hsub hfr hb1 hc
 obtain ⟨⟨L, ok⟩, hR⟩ : ∃ R, Rn.rnR i o n t k = R := ⟨_, rfl⟩
 obtain ⟨LS, hLS⟩ : ∃ X, It.laysD o n t k = X := ⟨_, rfl⟩
 obtain ⟨few, hfew⟩ : ∃ X, It.toldD o n t k = X := ⟨_, rfl⟩
 have hfc : ok = true → P1.lv L = true ∧ (few = true → Ls.inL LS L = true) := by
  intro h
  rw [h] at hR
  obtain ⟨h1, h2⟩ := DocR.rn_true hR
  obtain ⟨hv, _, _⟩ := DocR.rn_valid h1
  refine ⟨by rw [← h2]; exact Rn.rn_lv i hv, fun hf => ?_⟩
  rw [← hLS]
  refine Ls.inL_iff.2 ?_
  obtain ⟨q, hq1, hq2⟩ := Rn.rn_choice i hv
  rw [It.lays_yes (by rw [hfew, hf]), ← h2, hq2]
  simp only [It.upto, List.mem_map, List.mem_range]
  exact ⟨q, hq1, rfl⟩
 have HRI := Lib.hid (show ∀ W : World, Ext w3 W → Calls Tryz.prog 12 #[.agg #[.int .i64 o, .int .i64 n, .string t, .slice a k.len c], .int .i64 i] W (DocO.Out W L ok) from fun W e => by have h := DocR.implRender (D3.out.ext e) o i; rw [hR] at h; exact h)
 have HRS := Lib.hid (show ∀ W : World, Ext w3 W → Calls Tryz.prog 13 #[.agg #[.int .i64 o, .int .i64 n, .string t, .slice a k.len c], .int .i64 i] W (DocO.Out W L ok) from fun W e => by have h := DocR.specRender (D3.out.ext e) o i; rw [hR] at h; exact h)
 have HLL := Lib.hid (show ∀ W : World, Ext w3 W → Calls Tryz.prog 15 #[.agg #[.int .i64 o, .int .i64 n, .string t, .slice a k.len c]] W (DocL.LOut W LS few) from fun W e => by have h := DocL.implLays (D3.out.ext e) o; rw [hLS, hfew] at h; exact h)
 have HRT := Lib.hid (show ∀ W : World, Ext w3 W → Calls Tryz.prog 16 #[.agg #[.int .i64 o, .int .i64 n, .string t, .slice a k.len c], .int .i64 i] W (fun e w' => e = .returned (.tuple #[.string (lt8 L), .bool ok]) ∧ Ext W w') from fun W e => by have h := RnR.implRenderText W i o n t k a c fs (D3.out.ext e).sub (D3.out.ext e).ok D3.out.cap_le (by have := D3.out.size; omega) D3.out.fits D3.out.tfit; rw [hR] at h; exact h)
 have HHA := Lib.hid (show ∀ (W : World), Ext w3 W → ∀ (al : Option Addr) (cl : Nat), DocO.LayIs W L al cl → Calls Tryz.prog 18 #[.agg #[.int .i64 o, .int .i64 n, .string t, .slice a k.len c], .slice al L.length cl] W fun e w' => e = .returned (.bool (Ls.inL LS L)) ∧ Ext W w' from fun W e al cl hl => by have h := DocL.implHas (D3.out.ext e) o hl; rw [hLS] at h; exact h)
 have hoo : (ok != ok) = false := by simp
 have hoe : (ok == ok) = true := by simp
 obtain ⟨S, hS⟩ : ∃ S, lt8 L = S := ⟨_, rfl⟩
 rw [hS] at HRT
 have HS := Lib.hid hS
 have hss : (S.toList == S.toList) = true := by simp
 obtain ⟨ML, hML⟩ : ∃ m, L.length = m := ⟨_, rfl⟩
 have HML := Lib.hid hML
 clear hR hML hLS hfew hS
 obtain ⟨x0, x1, x2, x3⟩ := X3.out
 have l := L3.out
 go_wp2_with fail
 try rw [hV]
 clear hV
 refine (HRI.out _ E3.out).mono ?_
 rintro e4 w4 ⟨pa, ca, rfl, hla, hb⟩
 have hbb : Ext w3 w4 := hb
 have X4 := Lib.hid (box4 X3.out L3.out hbb)
 have L4 := Lib.hid (Nat.lt_of_lt_of_le L3.out hbb.size)
 have E4 := Lib.hid (E3.out.trans hbb)
 have S4 := Lib.hid hbb
 have KA := Lib.hid hla
 clear hla
 rw [HML.out]
 clear hb hbb x0 x1 x2 x3 l
 obtain ⟨x0, x1, x2, x3⟩ := X4.out
 have l := L4.out
 go_wp2_with fail
 refine (HRS.out _ E4.out).mono ?_
 rintro e5 w5 ⟨pb, cb, rfl, hlb, hb⟩
 have hbb : Ext w4 w5 := hb
 have X5 := Lib.hid (box4 X4.out L4.out hbb)
 have L5 := Lib.hid (Nat.lt_of_lt_of_le L4.out hbb.size)
 have E5 := Lib.hid (E4.out.trans hbb)
 have S5 := Lib.hid hbb
 have KB := Lib.hid hlb
 clear hlb
 rw [HML.out]
 clear hb hbb x0 x1 x2 x3 l
 have HLS := Lib.hid (fun (W : World) (e : Ext w5 W) => DocO.LayIs.same ((KA.out.ext S5.out).ext e) ((KB.out.ext (Ext.refl w5)).ext e))
 rw [HML.out] at HLS
 obtain ⟨x0, x1, x2, x3⟩ := X5.out
 have l := L5.out
 go_wp2_with fail
 refine (HLS.out _ (Ext.refl w5)).mono ?_
 rintro e6 w6 ⟨rfl, hb⟩
 have hbb : Ext w5 w6 := hb
 have X6 := Lib.hid (box4 X5.out L5.out hbb)
 have L6 := Lib.hid (Nat.lt_of_lt_of_le L5.out hbb.size)
 have E6 := Lib.hid (E5.out.trans hbb)
 have S6 := Lib.hid hbb
 clear hb hbb x0 x1 x2 x3 l
 cases ok with
 | false =>
   clear hfc
   go_wp2_with fail
   refine (HLS.out _ S6.out).mono ?_
   rintro e9 w99 ⟨rfl, hb9⟩
   have q9 := Lib.hid (show Ext w6 w99 from hb9)
   clear hb9
   go_wp2_with fail
   go_ret
   exact ⟨by first | rfl | simp, E1.out.trans (E3.out.trans (E6.out.trans q9.out))⟩
 | true =>
 obtain ⟨hlv, hin⟩ := hfc (by rfl)
 clear hfc
 obtain ⟨x0, x1, x2, x3⟩ := X6.out
 have l := L6.out
 go_wp2_with fail
 refine (HLL.out _ E6.out).mono ?_
 rintro e7 w7 ⟨pl, cl, rfl, hll, hb⟩
 have hbb : Ext w6 w7 := hb
 have X7 := Lib.hid (box4 X6.out L6.out hbb)
 have L7 := Lib.hid (Nat.lt_of_lt_of_le L6.out hbb.size)
 have E7 := Lib.hid (E6.out.trans hbb)
 have S7 := Lib.hid hbb
 clear hll
 clear hb hbb x0 x1 x2 x3 l
 obtain ⟨MS, hMS⟩ : ∃ m, LS.length = m := ⟨_, rfl⟩
 rw [hMS]
 clear hMS
 obtain ⟨x0, x1, x2, x3⟩ := X7.out
 have l := L7.out
 go_wp2_with fail
 refine (HRT.out _ E7.out).mono ?_
 rintro e8 w8 ⟨rfl, hb⟩
 have hbb : Ext w7 w8 := hb
 have X8 := Lib.hid (box4 X7.out L7.out hbb)
 have L8 := Lib.hid (Nat.lt_of_lt_of_le L7.out hbb.size)
 have E8 := Lib.hid (E7.out.trans hbb)
 have S8 := Lib.hid hbb
 clear hb hbb x0 x1 x2 x3 l
 have HVA := Lib.hid (fun (W : World) (e : Ext w8 W) => DocR.layValid ((KA.out.ext (((S5.out.trans S6.out).trans S7.out).trans S8.out)).ext e))
 have HTX := Lib.hid (fun (W : World) (e : Ext w8 W) => DocR.layText ((KA.out.ext (((S5.out.trans S6.out).trans S7.out).trans S8.out)).ext e))
 have HHB := Lib.hid (fun (W : World) (e : Ext w8 W) => HHA.out W (E8.out.trans e) _ _ ((KA.out.ext (((S5.out.trans S6.out).trans S7.out).trans S8.out)).ext e))
 rw [hlv, HML.out] at HVA
 rw [HS.out, HML.out] at HTX
 rw [HML.out] at HHB
 clear hlv
 obtain ⟨x0, x1, x2, x3⟩ := X8.out
 have l := L8.out
 go_wp2_with fail
 refine (HVA.out _ (Ext.refl w8)).mono ?_
 rintro e9 w9 ⟨rfl, hb⟩
 have hbb : Ext w8 w9 := hb
 have X9 := Lib.hid (box4 X8.out L8.out hbb)
 have L9 := Lib.hid (Nat.lt_of_lt_of_le L8.out hbb.size)
 have E9 := Lib.hid (E8.out.trans hbb)
 have S9 := Lib.hid hbb
 clear hb hbb x0 x1 x2 x3 l
 cases few with
 | false =>
   clear hin
   go_wp2_with fail
   refine (HTX.out _ S9.out).mono ?_
   rintro e9 w99 ⟨rfl, hb9⟩
   have q9 := Lib.hid (show Ext w9 w99 from hb9)
   clear hb9
   go_wp2_with fail
   go_ret
   exact ⟨by first | rfl | simp, E1.out.trans (E3.out.trans (E9.out.trans q9.out))⟩
 | true =>
 have hin2 := hin (by first | rfl | trivial)
 rw [hin2] at HHB
 clear hin hin2
 obtain ⟨x0, x1, x2, x3⟩ := X9.out
 have l := L9.out
 go_wp2_with fail
 refine (HHB.out _ S9.out).mono ?_
 rintro e8 w98 ⟨rfl, hb8⟩
 have q8 := Lib.hid (show Ext w9 w98 from hb8)
 clear hb8 x0 x1 x2 x3 l
 go_wp2_with fail
 refine (HTX.out _ (S9.out.trans q8.out)).mono ?_
 rintro e9 w99 ⟨rfl, hb9⟩
 have q9 := Lib.hid (show Ext w98 w99 from hb9)
 clear hb9
 go_wp2_with fail
 go_ret
 exact ⟨by first | rfl | simp, E1.out.trans (E3.out.trans ((E9.out.trans q8.out).trans q9.out))⟩
set_option maxHeartbeats 400000 in
theorem walk_big (w : World) (a0 : Option Addr) (len0 cap0 : Nat) (hl0 : 1048576 < len0) :
  Calls Tryz.prog 3 #[.slice a0 len0 cap0] w fun e w' => e = .returned (.bool true) ∧ Ext w w' := by
 have h1 : (1048576 : Int) < (len0 : Int) := by omega
 go_enter Tryz.func3, Tryz.ntmps3
 go_wp2_with fail
 go_ret
 exact ⟨rfl, Ext.refl w⟩
theorem walk (w : World) (a0 : Option Addr) (len0 cap0 : Nat) (hb0 : Bytes w a0 len0) (hlc0 : len0 ≤ cap0) (hcm0 : cap0 ≤ maxLen) :
  Calls Tryz.prog 3 #[.slice a0 len0 cap0] w fun e w' => e = .returned (.bool true) ∧ Below w.heap.size w w' := by
 by_cases h : 1048576 < len0
 ·exact walk_big w a0 len0 cap0 h
 ·exact walk_good w a0 len0 cap0 hb0 hlc0 hcm0 (by omega)
theorem lifted (os : Os) (started : os.Started) (H : Type) (enc : TypeId × Value → H) :
  ReturnsInHanded {} Tryz.checked os 3 .any (Rows.fnRenderDocSpec.pre6 enc Tryz.prog Tryz.f3 Rows.fnRenderDocRow.domain false) (Rows.fnRenderDocSpec.post enc Tryz.prog Tryz.f3 false true false false) := by
 refine returnsInHanded_of_change (C := Tryz.checked) Facts.own started (by kernel_rfl) Tryz.func3
  (ChangeSpec.witness6 (enc := enc) (C := Tryz.checked) false ⟨#[], #[.slice none 0 0], []⟩ 8 (by kernel_rfl) (by kernel_rfl) (by kernel_rfl) (by kernel_rfl)) ?_
 intro W base args ds gs before hval0 hW hcnd0 _
 clear hcnd0
 have hval : ∀ (j : Nat) t v, Tryz.f3.params[j]? = some t → args[j]? = some v → Value.okWide Tryz.prog W .any base t v := hval0
 have hW' := hW
 obtain ⟨p, q, hA0, hV, rfl, hfz, hnd⟩ := hW
 have hA : DataW.TrodAll enc Tryz.prog W 0 (fun _ => true) true Tryz.f3.params.toList args.toList ds p := hA0
 rw [Tryz.params3] at hA hval
 obtain ⟨v0, d0, rfl, rfl, h0⟩ := trodAll_one hA
 obtain ⟨rfl, rfl⟩ := trodVars_none hV
 obtain ⟨a0, len0, cap0, rfl⟩ := okWide_slice Tryz.underlying22 (hval 0 22 v0 rfl rfl)
 clear hA0 hval0
 simp only [List.append_nil] at hW'
 have hlt : ∀ x ∈ p, x.block < W.heap.size := fun x hx => by simpa using hW'.lt x hx
 obtain ⟨hb0, hlc0, hcm0⟩ := opened h0
 refine (walk W a0 len0 cap0 hb0 hlc0 hcm0).mono fun e W' ⟨he, hb⟩ => ?_
 subst he
 refine ⟨_, rfl, [_], [], p, [], p, [], hW', trodAll_mk1 (shut_bool Tryz.underlying4 _), ?_, rfl, hb.frame _, fun h => by cases h⟩
 exact trodAll_mk1 (Below.trod Facts.laidOut (by kernel_rfl) (of_decide_eq_true (by kernel_rfl)) h0 hb hlt)
theorem named : Tryz.prog.funcNamed Rows.fnRenderDocRow.func = some 3 := by kernel_rfl
theorem closed : joinedFacts Tryz.prog 3 Tryz.f3 Rows.fnRenderDocSpec Rows.fnRenderDocRow = true :=
 Facts.closed_of rfl rfl rfl rfl (h28b := rfl) (by kernel_rfl) (by kernel_rfl) (by kernel_rfl) (by kernel_rfl) (by kernel_rfl) (by kernel_rfl) (by kernel_rfl) (by kernel_rfl) (by kernel_rfl) (by kernel_rfl) (by kernel_rfl) (by kernel_rfl) (by kernel_rfl) (by kernel_rfl) (by kernel_rfl) (by kernel_rfl) (by kernel_rfl) (by kernel_rfl) (by kernel_rfl) (by kernel_rfl) (by kernel_rfl) (by kernel_rfl) (by kernel_rfl) (by kernel_rfl)
theorem instanced : Tryz.f3.isInstance Tryz.prog Rows.fnRenderDocRow.origin Rows.fnRenderDocRow.targs := of_decide_eq_true (by kernel_rfl)
theorem wrapped : Tryz.f3.isWrapper Tryz.prog Rows.fnRenderDocRow.wrapper Rows.fnRenderDocRow.mainSum := by
 unfold Func.isWrapper
 rw [if_neg (of_decide_eq_false (by kernel_rfl))]
 exact ⟨rfl, rfl⟩
theorem holds : Rows.FnRenderDocSaid :=
 OpenClaim.holds_of_wide 3 Tryz.f3 rfl rfl rfl rfl rfl rfl rfl ⟨rfl, rfl, rfl, rfl, rfl⟩ rfl rfl rfl rfl rfl named Tryz.func3 closed instanced wrapped
  (fun os started H enc _ => lifted os started H enc)
end Go.Proofs.YtjcaiecapapceaaGreat.lawRenderDoc
