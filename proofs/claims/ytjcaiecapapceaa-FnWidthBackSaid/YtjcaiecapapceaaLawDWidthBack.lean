import Derived.Test.YtjcaiecapapceaaDrE8
import Derived.Test.YtjcaiecapapceaaEqP7
import Derived.Test.YtjcaiecapapceaaDcF
import Derived.Test.YtjcaiecapapceaaFacts
import Derived.Deep.DeepCutAuto
/-
 Differences are symmetric: the law FnWidthBack returns true for whatever draws, and its argument reads as it did. No condition of ours.
-/
set_option linter.unusedVariables false
set_option linter.unusedSimpArgs false
set_option maxRecDepth 100000
set_option maxHeartbeats 6400000
namespace Go.Proofs.Ytjcaiecapapceaa.lawWidthBack
open Go.ChangeShapes Go.WideShapes Go.ChangeAt Go.RowKit P1 Draw6 LawC CntC DocK CatD
theorem walk_good (w : World) (a0 : Option Addr) (len0 cap0 : Nat) (hb0 : Bytes w a0 len0) (hlc0 : len0 ≤ cap0) (hcm0 : cap0 ≤ maxLen) (hl0 : len0 ≤ 1048576) :
  Calls Try.prog 7 #[.slice a0 len0 cap0] w fun e w' => e = .returned (.bool true) ∧ Ext w w' := by
 have HD0 := Lib.hid (Dr82.drawFirstWidth w a0 len0 cap0 hb0 hlc0 hcm0)
 clear hb0
 unfold maxLen at hcm0
 go_enter Try.func7, Try.ntmps7
 go_wp2_with fail
 refine HD0.out.mono ?_
 rintro e1 w1 ⟨o, n, t, k, a, c, fs, o2, n2, t2, k2, a2, c2, f2, rfl, hc, hc2, hsz, hsz2, hsub, hsub2, hfr, hfr2, hva, hb1⟩
 obtain ⟨w3, hV⟩ : ∃ V, (w1.alloc (.cells #[.int .i64 o, .int .i64 n, .string t, .slice a k.len c] 25)).alloc (.cells #[.int .i64 o2, .int .i64 n2, .string t2, .slice a2 k2.len c2] 25) = V := ⟨_, rfl⟩
 obtain ⟨hX, hY, he⟩ := Eqd.two_new w1 (.int .i64 o) (.int .i64 n) (.string t) (.slice a k.len c) (.int .i64 o2) (.int .i64 n2) (.string t2) (.slice a2 k2.len c2) 25 (Ext.refl _)
 rw [hV] at hX hY he
 have X3 := Lib.hid (show w3.cell? ⟨w1.heap.size, 0, none⟩ = some (.int .i64 o) ∧ w3.cell? ⟨w1.heap.size, 1, none⟩ = some (.int .i64 n) ∧ w3.cell? ⟨w1.heap.size, 2, none⟩ = some (.string t) ∧ w3.cell? ⟨w1.heap.size, 3, none⟩ = some (.slice a k.len c) from hX)
 have Y3 := Lib.hid (show w3.cell? ⟨(w1.heap.size + 1), 0, none⟩ = some (.int .i64 o2) ∧ w3.cell? ⟨(w1.heap.size + 1), 1, none⟩ = some (.int .i64 n2) ∧ w3.cell? ⟨(w1.heap.size + 1), 2, none⟩ = some (.string t2) ∧ w3.cell? ⟨(w1.heap.size + 1), 3, none⟩ = some (.slice a2 k2.len c2) from hY)
 have L3 := Lib.hid (show w1.heap.size < w3.heap.size by rw [← hV]; simp; omega)
 have M3 := Lib.hid (show w1.heap.size + 1 < w3.heap.size by rw [← hV]; simp)
 have D3 := Lib.hid (show DocK.Doc0 w3 n t k a c fs from (DocK.Doc0.mk hsub (fun c hc => (hfr.2 c hc).2) hc (by omega)).ext he)
 have N3 := Lib.hid (show DocK.Doc0 w3 n2 t2 k2 a2 c2 f2 from (DocK.Doc0.mk hsub2 (fun c hc => (hfr2.2 c hc).2) hc2 (by omega)).ext he)
 have E1 := Lib.hid (show Ext w w3 from Ext.trans (show Ext w w1 from hb1) he)
 have E3 := Lib.hid (Ext.refl w3)
 clear hX hY he hsub hsub2 hfr hfr2 hb1 hc hc2
 obtain ⟨⟨J, V⟩, hF⟩ : ∃ R, Eqd.fwR o n t k o2 n2 t2 k2 = R := ⟨_, rfl⟩
 obtain ⟨⟨LA, VA⟩, hA⟩ : ∃ R, RnV.wdR o n t k = R := ⟨_, rfl⟩
 obtain ⟨⟨LB, VB⟩, hB⟩ : ∃ R, RnV.wdR o2 n2 t2 k2 = R := ⟨_, rfl⟩
 have hback : V = true → J ≠ 0 → J ∈ LA ∨ J ∈ LB := by
  intro h h0
  rw [h] at hF
  have h1 := Eqd.fw_back hF h0
  rw [hA, hB] at h1
  exact h1
 have HFA := Lib.hid (show ∀ W : World, Ext w3 W → Calls Try.prog 26 #[.agg #[.int .i64 o, .int .i64 n, .string t, .slice a k.len c], .agg #[.int .i64 o2, .int .i64 n2, .string t2, .slice a2 k2.len c2]] W fun e w' => e = .returned (.tuple #[.int .i64 J, .bool V]) ∧ Ext W w' from fun W e => by have h := Eqd.implFirstWidth W o n t k a c fs (Dr82.toIn (D3.out.ext e)) o2 n2 t2 k2 a2 c2 f2 (Dr82.toIn (N3.out.ext e)); rw [hF] at h; exact h)
 have HFS := Lib.hid (show ∀ W : World, Ext w3 W → Calls Try.prog 27 #[.agg #[.int .i64 o, .int .i64 n, .string t, .slice a k.len c], .agg #[.int .i64 o2, .int .i64 n2, .string t2, .slice a2 k2.len c2]] W fun e w' => e = .returned (.tuple #[.int .i64 J, .bool V]) ∧ Ext W w' from fun W e => by have h := Eqd.specFirstWidth W o n t k a c fs (Dr82.toIn (D3.out.ext e)) o2 n2 t2 k2 a2 c2 f2 (Dr82.toIn (N3.out.ext e)); rw [hF] at h; exact h)
 have HFB := Lib.hid (show ∀ W : World, Ext w3 W → Calls Try.prog 26 #[.agg #[.int .i64 o2, .int .i64 n2, .string t2, .slice a2 k2.len c2], .agg #[.int .i64 o, .int .i64 n, .string t, .slice a k.len c]] W fun e w' => e = .returned (.tuple #[.int .i64 J, .bool V]) ∧ Ext W w' from fun W e => by have h := Eqd.implFirstWidth W o2 n2 t2 k2 a2 c2 f2 (Dr82.toIn (N3.out.ext e)) o n t k a c fs (Dr82.toIn (D3.out.ext e)); rw [Eqd.fwR_symm, hF] at h; exact h)
 have HWA := Lib.hid (show ∀ W : World, Ext w3 W → Calls Try.prog 30 #[.agg #[.int .i64 o, .int .i64 n, .string t, .slice a k.len c]] W (DocR.IOut W LA VA) from fun W e => by have h := DocR.implWidths (D3.out.ext e) o; rw [hA] at h; exact h)
 have HWB := Lib.hid (show ∀ W : World, Ext w3 W → Calls Try.prog 30 #[.agg #[.int .i64 o2, .int .i64 n2, .string t2, .slice a2 k2.len c2]] W (DocR.IOut W LB VB) from fun W e => by have h := DocR.implWidths (N3.out.ext e) o2; rw [hB] at h; exact h)
 obtain ⟨MX, hMX⟩ : ∃ m, LA.length = m := ⟨_, rfl⟩
 obtain ⟨MY, hMY⟩ : ∃ m, LB.length = m := ⟨_, rfl⟩
 have HMX := Lib.hid hMX
 have HMY := Lib.hid hMY
 have HBK := Lib.hid hback
 have eJJ : (J != J) = false := by simp
 have eVV : (V != V) = false := by simp
 clear hF hA hB hMX hMY hback hva
 obtain ⟨x0, x1, x2, x3⟩ := X3.out
 obtain ⟨y0, y1, y2, y3⟩ := Y3.out
 have l := L3.out
 have m := M3.out
 go_wp2_with fail
 try rw [hV]
 clear hV
 refine (HFA.out _ E3.out).mono ?_
 rintro e4 w4 ⟨rfl, hb⟩
 have hbb : Ext w3 w4 := hb
 have X4 := Lib.hid (box4 X3.out L3.out hbb)
 have L4 := Lib.hid (Nat.lt_of_lt_of_le L3.out hbb.size)
 have Y4 := Lib.hid (box4 Y3.out M3.out hbb)
 have M4 := Lib.hid (Nat.lt_of_lt_of_le M3.out hbb.size)
 have E4 := Lib.hid (E3.out.trans hbb)
 have S4 := Lib.hid hbb
 clear hb hbb x0 x1 x2 x3 y0 y1 y2 y3 l m
 obtain ⟨x0, x1, x2, x3⟩ := X4.out
 have l := L4.out
 obtain ⟨y0, y1, y2, y3⟩ := Y4.out
 have m := M4.out
 go_wp2_with fail
 refine (HFS.out _ E4.out).mono ?_
 rintro e5 w5 ⟨rfl, hb⟩
 have hbb : Ext w4 w5 := hb
 have X5 := Lib.hid (box4 X4.out L4.out hbb)
 have L5 := Lib.hid (Nat.lt_of_lt_of_le L4.out hbb.size)
 have Y5 := Lib.hid (box4 Y4.out M4.out hbb)
 have M5 := Lib.hid (Nat.lt_of_lt_of_le M4.out hbb.size)
 have E5 := Lib.hid (E4.out.trans hbb)
 have S5 := Lib.hid hbb
 clear hb hbb x0 x1 x2 x3 l y0 y1 y2 y3 m
 obtain ⟨x0, x1, x2, x3⟩ := X5.out
 have l := L5.out
 obtain ⟨y0, y1, y2, y3⟩ := Y5.out
 have m := M5.out
 go_wp2_with fail
 refine (HFB.out _ E5.out).mono ?_
 rintro e6 w6 ⟨rfl, hb⟩
 have hbb : Ext w5 w6 := hb
 have X6 := Lib.hid (box4 X5.out L5.out hbb)
 have L6 := Lib.hid (Nat.lt_of_lt_of_le L5.out hbb.size)
 have Y6 := Lib.hid (box4 Y5.out M5.out hbb)
 have M6 := Lib.hid (Nat.lt_of_lt_of_le M5.out hbb.size)
 have E6 := Lib.hid (E5.out.trans hbb)
 have S6 := Lib.hid hbb
 clear hb hbb x0 x1 x2 x3 l y0 y1 y2 y3 m
 obtain ⟨x0, x1, x2, x3⟩ := X6.out
 have l := L6.out
 go_wp2_with fail
 refine (HWA.out _ E6.out).mono ?_
 rintro e7 w7 ⟨pa, ca, rfl, hla, hb⟩
 have hbb : Ext w6 w7 := hb
 have X7 := Lib.hid (box4 X6.out L6.out hbb)
 have L7 := Lib.hid (Nat.lt_of_lt_of_le L6.out hbb.size)
 have Y7 := Lib.hid (box4 Y6.out M6.out hbb)
 have M7 := Lib.hid (Nat.lt_of_lt_of_le M6.out hbb.size)
 have E7 := Lib.hid (E6.out.trans hbb)
 have S7 := Lib.hid hbb
 have KA := Lib.hid hla
 clear hla
 rw [HMX.out]
 clear hb hbb x0 x1 x2 x3 l
 obtain ⟨y0, y1, y2, y3⟩ := Y7.out
 have m := M7.out
 go_wp2_with fail
 refine (HWB.out _ E7.out).mono ?_
 rintro e8 w8 ⟨pb, cb, rfl, hlb, hb⟩
 have hbb : Ext w7 w8 := hb
 have X8 := Lib.hid (box4 X7.out L7.out hbb)
 have L8 := Lib.hid (Nat.lt_of_lt_of_le L7.out hbb.size)
 have Y8 := Lib.hid (box4 Y7.out M7.out hbb)
 have M8 := Lib.hid (Nat.lt_of_lt_of_le M7.out hbb.size)
 have E8 := Lib.hid (E7.out.trans hbb)
 have S8 := Lib.hid hbb
 have KB := Lib.hid hlb
 clear hlb
 rw [HMY.out]
 clear hb hbb y0 y1 y2 y3 m
 have HDA := Lib.hid (fun (W : World) (e : Ext w8 W) => DocR.daInL ((KA.out.ext S8.out).ext e) J)
 have HDB := Lib.hid (fun (W : World) (e : Ext w8 W) => DocR.daInL ((KB.out.ext (Ext.refl w8)).ext e) J)
 rw [HMX.out] at HDA
 rw [HMY.out] at HDB
 cases V with
 | false =>
   go_wp2_with fail
   go_ret
   exact ⟨by first | rfl | simp, E1.out.trans (E3.out.trans E8.out)⟩
 | true =>
 by_cases h0 : J = 0
 ·subst h0
  go_wp2_with fail
  go_ret
  exact ⟨by first | rfl | simp, E1.out.trans (E3.out.trans E8.out)⟩
 have e0 : (J == 0) = false := by simp [h0]
 have HIN := Lib.hid (HBK.out rfl h0)
 by_cases ha : J ∈ LA
 ·rw [decide_eq_true ha] at HDA
  clear ha
  go_wp2_with fail
  refine (HDA.out _ (Ext.refl _)).mono ?_
  rintro e8 w90 ⟨rfl, hb8⟩
  have q8 := Lib.hid (show Ext w8 w90 from hb8)
  clear hb8
  go_wp2_with fail
  go_ret
  exact ⟨by first | rfl | simp, E1.out.trans (E3.out.trans (E8.out.trans q8.out))⟩
 ·rw [decide_eq_false ha] at HDA
  rw [decide_eq_true (HIN.out.resolve_left ha)] at HDB
  clear ha
  go_wp2_with fail
  refine (HDA.out _ (Ext.refl _)).mono ?_
  rintro e8 w90 ⟨rfl, hb8⟩
  have q8 := Lib.hid (show Ext w8 w90 from hb8)
  clear hb8
  go_wp2_with fail
  refine (HDB.out _ q8.out).mono ?_
  rintro e9 w91 ⟨rfl, hb9⟩
  have q9 := Lib.hid (show Ext w90 w91 from hb9)
  clear hb9
  go_wp2_with fail
  go_ret
  exact ⟨by first | rfl | simp, E1.out.trans (E3.out.trans ((E8.out.trans q8.out).trans q9.out))⟩
set_option maxHeartbeats 400000 in
theorem walk_big (w : World) (a0 : Option Addr) (len0 cap0 : Nat) (hl0 : 1048576 < len0) :
  Calls Try.prog 7 #[.slice a0 len0 cap0] w fun e w' => e = .returned (.bool true) ∧ Ext w w' := by
 have h1 : (1048576 : Int) < (len0 : Int) := by omega
 go_enter Try.func7, Try.ntmps7
 go_wp2_with fail
 go_ret
 exact ⟨rfl, Ext.refl w⟩
theorem walk (w : World) (a0 : Option Addr) (len0 cap0 : Nat) (hb0 : Bytes w a0 len0) (hlc0 : len0 ≤ cap0) (hcm0 : cap0 ≤ maxLen) :
  Calls Try.prog 7 #[.slice a0 len0 cap0] w fun e w' => e = .returned (.bool true) ∧ Below w.heap.size w w' := by
 by_cases h : 1048576 < len0
 ·exact walk_big w a0 len0 cap0 h
 ·exact walk_good w a0 len0 cap0 hb0 hlc0 hcm0 (by omega)
theorem lifted (os : Os) (started : os.Started) (H : Type) (enc : TypeId × Value → H) :
  ReturnsInHanded {} Try.checked os 7 .any (Rows.fnWidthBackSpec.pre6 enc Try.prog Try.f7 Rows.fnWidthBackRow.domain false) (Rows.fnWidthBackSpec.post enc Try.prog Try.f7 false true false false) := by
 refine returnsInHanded_of_change (C := Try.checked) Facts.own started (by kernel_rfl) Try.func7
  (ChangeSpec.witness6 (enc := enc) (C := Try.checked) false ⟨#[], #[.slice none 0 0], []⟩ 8 (by kernel_rfl) (by kernel_rfl) (by kernel_rfl) (by kernel_rfl)) ?_
 intro W base args ds gs before hval0 hW hcnd0 _
 clear hcnd0
 have hval : ∀ (j : Nat) t v, Try.f7.params[j]? = some t → args[j]? = some v → Value.okWide Try.prog W .any base t v := hval0
 have hW' := hW
 obtain ⟨p, q, hA0, hV, rfl, hfz, hnd⟩ := hW
 have hA : DataW.TrodAll enc Try.prog W 0 (fun _ => true) true Try.f7.params.toList args.toList ds p := hA0
 rw [Try.params7] at hA hval
 obtain ⟨v0, d0, rfl, rfl, h0⟩ := trodAll_one hA
 obtain ⟨rfl, rfl⟩ := trodVars_none hV
 obtain ⟨a0, len0, cap0, rfl⟩ := okWide_slice Try.underlying22 (hval 0 22 v0 rfl rfl)
 clear hA0 hval0
 simp only [List.append_nil] at hW'
 have hlt : ∀ x ∈ p, x.block < W.heap.size := fun x hx => by simpa using hW'.lt x hx
 obtain ⟨hb0, hlc0, hcm0⟩ := opened h0
 refine (walk W a0 len0 cap0 hb0 hlc0 hcm0).mono fun e W' ⟨he, hb⟩ => ?_
 subst he
 refine ⟨_, rfl, [_], [], p, [], p, [], hW', trodAll_mk1 (shut_bool Try.underlying4 _), ?_, rfl, hb.frame _, fun h => by cases h⟩
 exact trodAll_mk1 (Below.trod Facts.laidOut (by kernel_rfl) (of_decide_eq_true (by kernel_rfl)) h0 hb hlt)
theorem named : Try.prog.funcNamed Rows.fnWidthBackRow.func = some 7 := by kernel_rfl
theorem closed : joinedFacts Try.prog 7 Try.f7 Rows.fnWidthBackSpec Rows.fnWidthBackRow = true :=
 Facts.closed_of rfl rfl rfl rfl (h28b := rfl) (by kernel_rfl) (by kernel_rfl) (by kernel_rfl) (by kernel_rfl) (by kernel_rfl) (by kernel_rfl) (by kernel_rfl) (by kernel_rfl) (by kernel_rfl) (by kernel_rfl) (by kernel_rfl) (by kernel_rfl) (by kernel_rfl) (by kernel_rfl) (by kernel_rfl) (by kernel_rfl) (by kernel_rfl) (by kernel_rfl) (by kernel_rfl) (by kernel_rfl) (by kernel_rfl) (by kernel_rfl) (by kernel_rfl) (by kernel_rfl)
theorem instanced : Try.f7.isInstance Try.prog Rows.fnWidthBackRow.origin Rows.fnWidthBackRow.targs := of_decide_eq_true (by kernel_rfl)
theorem wrapped : Try.f7.isWrapper Try.prog Rows.fnWidthBackRow.wrapper Rows.fnWidthBackRow.mainSum := by
 unfold Func.isWrapper
 rw [if_neg (of_decide_eq_false (by kernel_rfl))]
 exact ⟨rfl, rfl⟩
theorem holds : Rows.FnWidthBackSaid :=
 OpenClaim.holds_of_wide 7 Try.f7 rfl rfl rfl rfl rfl rfl rfl ⟨rfl, rfl, rfl, rfl, rfl⟩ rfl rfl rfl rfl rfl named Try.func7 closed instanced wrapped
  (fun os started H enc _ => lifted os started H enc)
end Go.Proofs.Ytjcaiecapapceaa.lawWidthBack
