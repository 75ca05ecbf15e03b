import Derived.Test.YtjcaiecapapceaaGreatD8X
import Derived.Test.YtjcaiecapapceaaGreatEqX
import Derived.Test.YtjcaiecapapceaaGreatFacts
import Derived.Deep.DeepCutAuto
/-
 Layouts are compared: the law FnSameLayouts returns true for whatever draws, and its argument reads as it did. No condition of ours.
-/
set_option linter.unusedVariables false
set_option linter.unusedSimpArgs false
set_option maxRecDepth 100000
set_option maxHeartbeats 6400000
namespace Go.Proofs.YtjcaiecapapceaaGreat.lawSameLayouts
open Go.ChangeShapes Go.WideShapes Go.ChangeAt Go.RowKit P1 Draw6 LawC CntC DocK CatD
theorem walk_good (w : World) (a0 : Option Addr) (len0 cap0 : Nat) (hb0 : Bytes w a0 len0) (hlc0 : len0 ≤ cap0) (hcm0 : cap0 ≤ maxLen) (hl0 : len0 ≤ 1048576) :
  Calls Tryz.prog 5 #[.slice a0 len0 cap0] w fun e w' => e = .returned (.bool true) ∧ Ext w w' := by
 have HD0 := Lib.hid (Dr82.drawSameLayouts w a0 len0 cap0 hb0 hlc0 hcm0)
 clear hb0
 unfold maxLen at hcm0
 go_enter Tryz.func5, Tryz.ntmps5
 go_wp2_with fail
 refine HD0.out.mono ?_
 rintro e1 w1 ⟨o, n, t, k, a, c, fs, o2, n2, t2, k2, a2, c2, f2, rfl, hc, hc2, hsz, hsz2, hsub, hsub2, hfr, hfr2, hva, hb1⟩
 obtain ⟨w3, hV⟩ : ∃ V, (w1.alloc (.cells #[.int .i64 o, .int .i64 n, .string t, .slice a k.len c] 25)).alloc (.cells #[.int .i64 o2, .int .i64 n2, .string t2, .slice a2 k2.len c2] 25) = V := ⟨_, rfl⟩
 obtain ⟨hX, hY, he⟩ := Eqd.two_new w1 (.int .i64 o) (.int .i64 n) (.string t) (.slice a k.len c) (.int .i64 o2) (.int .i64 n2) (.string t2) (.slice a2 k2.len c2) 25 (Ext.refl _)
 rw [hV] at hX hY he
 have X3 := Lib.hid (show w3.cell? ⟨w1.heap.size, 0, none⟩ = some (.int .i64 o) ∧ w3.cell? ⟨w1.heap.size, 1, none⟩ = some (.int .i64 n) ∧ w3.cell? ⟨w1.heap.size, 2, none⟩ = some (.string t) ∧ w3.cell? ⟨w1.heap.size, 3, none⟩ = some (.slice a k.len c) from hX)
 have Y3 := Lib.hid (show w3.cell? ⟨(w1.heap.size + 1), 0, none⟩ = some (.int .i64 o2) ∧ w3.cell? ⟨(w1.heap.size + 1), 1, none⟩ = some (.int .i64 n2) ∧ w3.cell? ⟨(w1.heap.size + 1), 2, none⟩ = some (.string t2) ∧ w3.cell? ⟨(w1.heap.size + 1), 3, none⟩ = some (.slice a2 k2.len c2) from hY)
 have L3 := Lib.hid (show w1.heap.size < w3.heap.size by rw [← hV]; simp; omega)
 have M3 := Lib.hid (show w1.heap.size + 1 < w3.heap.size by rw [← hV]; simp)
 have D3 := Lib.hid (show DocK.Doc0 w3 n t k a c fs from (DocK.Doc0.mk hsub (fun c hc => (hfr.2 c hc).2) hc (by omega)).ext he)
 have N3 := Lib.hid (show DocK.Doc0 w3 n2 t2 k2 a2 c2 f2 from (DocK.Doc0.mk hsub2 (fun c hc => (hfr2.2 c hc).2) hc2 (by omega)).ext he)
 have E1 := Lib.hid (show Ext w w3 from Ext.trans (show Ext w w1 from hb1) he)
 have E3 := Lib.hid (Ext.refl w3)
 clear hX hY he hsub hsub2 hfr hfr2 hb1 hc hc2
 obtain ⟨S, hS⟩ : ∃ S, Eqd.sameLay o n t k o2 n2 t2 k2 = S := ⟨_, rfl⟩
 obtain ⟨VA, hVA⟩ : ∃ V, It.toldD o n t k = V := ⟨_, rfl⟩
 obtain ⟨VB, hVB⟩ : ∃ V, It.toldD o2 n2 t2 k2 = V := ⟨_, rfl⟩
 have hno : (VA && VB) = false → S = false := by rw [← hVA, ← hVB, ← hS]; exact Eqd.sameLay_no
 obtain ⟨⟨LL, LF⟩, hL⟩ : ∃ R, Eqd.onlyLay o n t k o2 n2 t2 k2 = R := ⟨_, rfl⟩
 obtain ⟨⟨RL, RF⟩, hR⟩ : ∃ R, Eqd.onlyLay o2 n2 t2 k2 o n t k = R := ⟨_, rfl⟩
 have hyes : (VA && VB) = true → S = (!LF && !RF) := by rw [← hVA, ← hVB, ← hS]; intro h; have := Eqd.sameLay_yes h; rw [hL, hR] at this; exact this
 obtain ⟨XL, hXL⟩ : ∃ X, Ls.dist (It.laysD o n t k) = X := ⟨_, rfl⟩
 obtain ⟨YL, hYL⟩ : ∃ X, Ls.dist (It.laysD o2 n2 t2 k2) = X := ⟨_, rfl⟩
 have hlen : S = true → XL.length = YL.length := by rw [← hXL, ← hYL, ← hS]; exact Eqd.dist_same
 have HIA := Lib.hid (show ∀ W : World, Ext w3 W → Calls Tryz.prog 27 #[.agg #[.int .i64 o, .int .i64 n, .string t, .slice a k.len c], .agg #[.int .i64 o2, .int .i64 n2, .string t2, .slice a2 k2.len c2]] W fun e w' => e = .returned (.bool S) ∧ Ext W w' from fun W e => by have h := Eqd.implSameLayouts W o n t k a c fs (Dr82.toIn (D3.out.ext e)) o2 n2 t2 k2 a2 c2 f2 (Dr82.toIn (N3.out.ext e)); rw [hS] at h; exact h)
 have HSA := Lib.hid (show ∀ W : World, Ext w3 W → Calls Tryz.prog 28 #[.agg #[.int .i64 o, .int .i64 n, .string t, .slice a k.len c], .agg #[.int .i64 o2, .int .i64 n2, .string t2, .slice a2 k2.len c2]] W fun e w' => e = .returned (.bool S) ∧ Ext W w' from fun W e => by have h := Eqd.specSameLayouts W o n t k a c fs (Dr82.toIn (D3.out.ext e)) o2 n2 t2 k2 a2 c2 f2 (Dr82.toIn (N3.out.ext e)); rw [hS] at h; exact h)
 have HIB := Lib.hid (show ∀ W : World, Ext w3 W → Calls Tryz.prog 27 #[.agg #[.int .i64 o2, .int .i64 n2, .string t2, .slice a2 k2.len c2], .agg #[.int .i64 o, .int .i64 n, .string t, .slice a k.len c]] W fun e w' => e = .returned (.bool S) ∧ Ext W w' from fun W e => by have h := Eqd.implSameLayouts W o2 n2 t2 k2 a2 c2 f2 (Dr82.toIn (N3.out.ext e)) o n t k a c fs (Dr82.toIn (D3.out.ext e)); rw [Eqd.sameLay_symm, hS] at h; exact h)
 have HXA := Lib.hid (show ∀ W : World, Ext w3 W → Calls Tryz.prog 29 #[.agg #[.int .i64 o, .int .i64 n, .string t, .slice a k.len c]] W (DocL.LOut W XL VA) from fun W e => by have h := DocL.implDist (D3.out.ext e) o; rw [hXL, hVA] at h; exact h)
 have HXB := Lib.hid (show ∀ W : World, Ext w3 W → Calls Tryz.prog 29 #[.agg #[.int .i64 o2, .int .i64 n2, .string t2, .slice a2 k2.len c2]] W (DocL.LOut W YL VB) from fun W e => by have h := DocL.implDist (N3.out.ext e) o2; rw [hYL, hVB] at h; exact h)
 have HOA := Lib.hid (show ∀ W : World, Ext w3 W → Calls Tryz.prog 30 #[.agg #[.int .i64 o, .int .i64 n, .string t, .slice a k.len c], .agg #[.int .i64 o2, .int .i64 n2, .string t2, .slice a2 k2.len c2]] W fun e w' => ∃ (al : Option Addr) (cl : Nat), e = .returned (.tuple #[.slice al LL.length cl, .bool LF]) ∧ Ext W w' from fun W e => (Eqd.implOnlyLayout W o n t k a c fs (Dr82.toIn (D3.out.ext e)) o2 n2 t2 k2 a2 c2 f2 (Dr82.toIn (N3.out.ext e))).mono fun _ _ h => by rw [hL] at h; obtain ⟨al, cl, fl, h1, _, _, _, h5⟩ := h; exact ⟨al, cl, h1, h5⟩)
 have HOB := Lib.hid (show ∀ W : World, Ext w3 W → Calls Tryz.prog 30 #[.agg #[.int .i64 o2, .int .i64 n2, .string t2, .slice a2 k2.len c2], .agg #[.int .i64 o, .int .i64 n, .string t, .slice a k.len c]] W fun e w' => ∃ (al : Option Addr) (cl : Nat), e = .returned (.tuple #[.slice al RL.length cl, .bool RF]) ∧ Ext W w' from fun W e => (Eqd.implOnlyLayout W o2 n2 t2 k2 a2 c2 f2 (Dr82.toIn (N3.out.ext e)) o n t k a c fs (Dr82.toIn (D3.out.ext e))).mono fun _ _ h => by rw [hR] at h; obtain ⟨al, cl, fl, h1, _, _, _, h5⟩ := h; exact ⟨al, cl, h1, h5⟩)
 clear hS hVA hVB hL hR hXL hYL
 obtain ⟨MX, hMX⟩ : ∃ m, XL.length = m := ⟨_, rfl⟩
 obtain ⟨MY, hMY⟩ : ∃ m, YL.length = m := ⟨_, rfl⟩
 have HMX := Lib.hid hMX
 have HMY := Lib.hid hMY
 rw [hMX, hMY] at hlen
 clear hMX hMY
 obtain ⟨x0, x1, x2, x3⟩ := X3.out
 obtain ⟨y0, y1, y2, y3⟩ := Y3.out
 have l := L3.out
 have m := M3.out
 go_wp2_with fail
 try rw [hV]
 clear hV
 refine (HIA.out _ E3.out).mono ?_
 rintro e4 w4 ⟨rfl, hb⟩
 have hbb : Ext w3 w4 := hb
 have X4 := Lib.hid (box4 X3.out L3.out hbb)
 have L4 := Lib.hid (Nat.lt_of_lt_of_le L3.out hbb.size)
 have Y4 := Lib.hid (box4 Y3.out M3.out hbb)
 have M4 := Lib.hid (Nat.lt_of_lt_of_le M3.out hbb.size)
 have E4 := Lib.hid (E3.out.trans hbb)
 have S4 := Lib.hid hbb
 clear hb hbb x0 x1 x2 x3 y0 y1 y2 y3 l m
 obtain ⟨x0, x1, x2, x3⟩ := X4.out
 have l := L4.out
 obtain ⟨y0, y1, y2, y3⟩ := Y4.out
 have m := M4.out
 go_wp2_with fail
 refine (HSA.out _ E4.out).mono ?_
 rintro e5 w5 ⟨rfl, hb⟩
 have hbb : Ext w4 w5 := hb
 have X5 := Lib.hid (box4 X4.out L4.out hbb)
 have L5 := Lib.hid (Nat.lt_of_lt_of_le L4.out hbb.size)
 have Y5 := Lib.hid (box4 Y4.out M4.out hbb)
 have M5 := Lib.hid (Nat.lt_of_lt_of_le M4.out hbb.size)
 have E5 := Lib.hid (E4.out.trans hbb)
 have S5 := Lib.hid hbb
 clear hb hbb x0 x1 x2 x3 l y0 y1 y2 y3 m
 obtain ⟨x0, x1, x2, x3⟩ := X5.out
 have l := L5.out
 obtain ⟨y0, y1, y2, y3⟩ := Y5.out
 have m := M5.out
 go_wp2_with fail
 refine (HIB.out _ E5.out).mono ?_
 rintro e6 w6 ⟨rfl, hb⟩
 have hbb : Ext w5 w6 := hb
 have X6 := Lib.hid (box4 X5.out L5.out hbb)
 have L6 := Lib.hid (Nat.lt_of_lt_of_le L5.out hbb.size)
 have Y6 := Lib.hid (box4 Y5.out M5.out hbb)
 have M6 := Lib.hid (Nat.lt_of_lt_of_le M5.out hbb.size)
 have E6 := Lib.hid (E5.out.trans hbb)
 have S6 := Lib.hid hbb
 clear hb hbb x0 x1 x2 x3 l y0 y1 y2 y3 m
 obtain ⟨x0, x1, x2, x3⟩ := X6.out
 have l := L6.out
 go_wp2_with fail
 refine (HXA.out _ E6.out).mono ?_
 rintro e7 w7 ⟨pa, ca, rfl, hla, hb⟩
 have hbb : Ext w6 w7 := hb
 have X7 := Lib.hid (box4 X6.out L6.out hbb)
 have L7 := Lib.hid (Nat.lt_of_lt_of_le L6.out hbb.size)
 have Y7 := Lib.hid (box4 Y6.out M6.out hbb)
 have M7 := Lib.hid (Nat.lt_of_lt_of_le M6.out hbb.size)
 have E7 := Lib.hid (E6.out.trans hbb)
 have S7 := Lib.hid hbb
 clear hla
 rw [HMX.out]
 clear hb hbb x0 x1 x2 x3 l
 obtain ⟨y0, y1, y2, y3⟩ := Y7.out
 have m := M7.out
 go_wp2_with fail
 refine (HXB.out _ E7.out).mono ?_
 rintro e8 w8 ⟨pb, cb, rfl, hlb, hb⟩
 have hbb : Ext w7 w8 := hb
 have X8 := Lib.hid (box4 X7.out L7.out hbb)
 have L8 := Lib.hid (Nat.lt_of_lt_of_le L7.out hbb.size)
 have Y8 := Lib.hid (box4 Y7.out M7.out hbb)
 have M8 := Lib.hid (Nat.lt_of_lt_of_le M7.out hbb.size)
 have E8 := Lib.hid (E7.out.trans hbb)
 have S8 := Lib.hid hbb
 clear hlb
 rw [HMY.out]
 clear hb hbb y0 y1 y2 y3 m
 cases VA with
 | false =>
   have hs := hno (by rfl)
   subst hs
   clear hyes hlen hno
   go_wp2_with fail
   go_ret
   exact ⟨by first | rfl | simp, E1.out.trans (E3.out.trans E8.out)⟩
 | true =>
 cases VB with
 | false =>
   have hs := hno (by rfl)
   subst hs
   clear hyes hlen hno
   go_wp2_with fail
   go_ret
   exact ⟨by first | rfl | simp, E1.out.trans (E3.out.trans E8.out)⟩
 | true =>
 have hs := hyes (by rfl)
 clear hyes hno
 obtain ⟨x0, x1, x2, x3⟩ := X8.out
 have l := L8.out
 obtain ⟨y0, y1, y2, y3⟩ := Y8.out
 have m := M8.out
 go_wp2_with fail
 refine (HOA.out _ E8.out).mono ?_
 rintro e9 w9 ⟨pc, cc, rfl, hb⟩
 have hbb : Ext w8 w9 := hb
 have X9 := Lib.hid (box4 X8.out L8.out hbb)
 have L9 := Lib.hid (Nat.lt_of_lt_of_le L8.out hbb.size)
 have Y9 := Lib.hid (box4 Y8.out M8.out hbb)
 have M9 := Lib.hid (Nat.lt_of_lt_of_le M8.out hbb.size)
 have E9 := Lib.hid (E8.out.trans hbb)
 have S9 := Lib.hid hbb
 clear hb hbb x0 x1 x2 x3 l y0 y1 y2 y3 m
 obtain ⟨x0, x1, x2, x3⟩ := X9.out
 have l := L9.out
 obtain ⟨y0, y1, y2, y3⟩ := Y9.out
 have m := M9.out
 go_wp2_with fail
 refine (HOB.out _ E9.out).mono ?_
 rintro e10 w10 ⟨pd, cd, rfl, hb⟩
 have hbb : Ext w9 w10 := hb
 have X10 := Lib.hid (box4 X9.out L9.out hbb)
 have L10 := Lib.hid (Nat.lt_of_lt_of_le L9.out hbb.size)
 have Y10 := Lib.hid (box4 Y9.out M9.out hbb)
 have M10 := Lib.hid (Nat.lt_of_lt_of_le M9.out hbb.size)
 have E10 := Lib.hid (E9.out.trans hbb)
 have S10 := Lib.hid hbb
 clear hb hbb x0 x1 x2 x3 l y0 y1 y2 y3 m
 cases LF <;> cases RF <;> (simp only [Bool.not_true, Bool.not_false, Bool.and_self, Bool.and_true, Bool.and_false, Bool.true_and, Bool.false_and] at hs; subst hs; (try (have hm := hlen (by rfl); subst hm)); clear hlen; go_wp2_with fail; go_ret; exact ⟨by first | rfl | simp, E1.out.trans (E3.out.trans E10.out)⟩)
set_option maxHeartbeats 400000 in
theorem walk_big (w : World) (a0 : Option Addr) (len0 cap0 : Nat) (hl0 : 1048576 < len0) :
  Calls Tryz.prog 5 #[.slice a0 len0 cap0] w fun e w' => e = .returned (.bool true) ∧ Ext w w' := by
 have h1 : (1048576 : Int) < (len0 : Int) := by omega
 go_enter Tryz.func5, Tryz.ntmps5
 go_wp2_with fail
 go_ret
 exact ⟨rfl, Ext.refl w⟩
theorem walk (w : World) (a0 : Option Addr) (len0 cap0 : Nat) (hb0 : Bytes w a0 len0) (hlc0 : len0 ≤ cap0) (hcm0 : cap0 ≤ maxLen) :
  Calls Tryz.prog 5 #[.slice a0 len0 cap0] w fun e w' => e = .returned (.bool true) ∧ Below w.heap.size w w' := by
 by_cases h : 1048576 < len0
 ·exact walk_big w a0 len0 cap0 h
 ·exact walk_good w a0 len0 cap0 hb0 hlc0 hcm0 (by omega)
theorem lifted (os : Os) (started : os.Started) (H : Type) (enc : TypeId × Value → H) :
  ReturnsInHanded {} Tryz.checked os 5 .any (Rows.fnSameLayoutsSpec.pre6 enc Tryz.prog Tryz.f5 Rows.fnSameLayoutsRow.domain false) (Rows.fnSameLayoutsSpec.post enc Tryz.prog Tryz.f5 false true false false) := by
 refine returnsInHanded_of_change (C := Tryz.checked) Facts.own started (by kernel_rfl) Tryz.func5
  (ChangeSpec.witness6 (enc := enc) (C := Tryz.checked) false ⟨#[], #[.slice none 0 0], []⟩ 8 (by kernel_rfl) (by kernel_rfl) (by kernel_rfl) (by kernel_rfl)) ?_
 intro W base args ds gs before hval0 hW hcnd0 _
 clear hcnd0
 have hval : ∀ (j : Nat) t v, Tryz.f5.params[j]? = some t → args[j]? = some v → Value.okWide Tryz.prog W .any base t v := hval0
 have hW' := hW
 obtain ⟨p, q, hA0, hV, rfl, hfz, hnd⟩ := hW
 have hA : DataW.TrodAll enc Tryz.prog W 0 (fun _ => true) true Tryz.f5.params.toList args.toList ds p := hA0
 rw [Tryz.params5] at hA hval
 obtain ⟨v0, d0, rfl, rfl, h0⟩ := trodAll_one hA
 obtain ⟨rfl, rfl⟩ := trodVars_none hV
 obtain ⟨a0, len0, cap0, rfl⟩ := okWide_slice Tryz.underlying22 (hval 0 22 v0 rfl rfl)
 clear hA0 hval0
 simp only [List.append_nil] at hW'
 have hlt : ∀ x ∈ p, x.block < W.heap.size := fun x hx => by simpa using hW'.lt x hx
 obtain ⟨hb0, hlc0, hcm0⟩ := opened h0
 refine (walk W a0 len0 cap0 hb0 hlc0 hcm0).mono fun e W' ⟨he, hb⟩ => ?_
 subst he
 refine ⟨_, rfl, [_], [], p, [], p, [], hW', trodAll_mk1 (shut_bool Tryz.underlying4 _), ?_, rfl, hb.frame _, fun h => by cases h⟩
 exact trodAll_mk1 (Below.trod Facts.laidOut (by kernel_rfl) (of_decide_eq_true (by kernel_rfl)) h0 hb hlt)
theorem named : Tryz.prog.funcNamed Rows.fnSameLayoutsRow.func = some 5 := by kernel_rfl
theorem closed : joinedFacts Tryz.prog 5 Tryz.f5 Rows.fnSameLayoutsSpec Rows.fnSameLayoutsRow = true :=
 Facts.closed_of rfl rfl rfl rfl (h28b := rfl) (by kernel_rfl) (by kernel_rfl) (by kernel_rfl) (by kernel_rfl) (by kernel_rfl) (by kernel_rfl) (by kernel_rfl) (by kernel_rfl) (by kernel_rfl) (by kernel_rfl) (by kernel_rfl) (by kernel_rfl) (by kernel_rfl) (by kernel_rfl) (by kernel_rfl) (by kernel_rfl) (by kernel_rfl) (by kernel_rfl) (by kernel_rfl) (by kernel_rfl) (by kernel_rfl) (by kernel_rfl) (by kernel_rfl) (by kernel_rfl)
theorem instanced : Tryz.f5.isInstance Tryz.prog Rows.fnSameLayoutsRow.origin Rows.fnSameLayoutsRow.targs := of_decide_eq_true (by kernel_rfl)
theorem wrapped : Tryz.f5.isWrapper Tryz.prog Rows.fnSameLayoutsRow.wrapper Rows.fnSameLayoutsRow.mainSum := by
 unfold Func.isWrapper
 rw [if_neg (of_decide_eq_false (by kernel_rfl))]
 exact ⟨rfl, rfl⟩
theorem holds : Rows.FnSameLayoutsSaid :=
 OpenClaim.holds_of_wide 5 Tryz.f5 rfl rfl rfl rfl rfl rfl rfl ⟨rfl, rfl, rfl, rfl, rfl⟩ rfl rfl rfl rfl rfl named Tryz.func5 closed instanced wrapped
  (fun os started H enc _ => lifted os started H enc)
end Go.Proofs.YtjcaiecapapceaaGreat.lawSameLayouts
