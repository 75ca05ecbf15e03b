import Derived.Test.YtjcaiecapapceaaGreatD8X
import Derived.Test.YtjcaiecapapceaaGreatEqX
import Derived.Test.YtjcaiecapapceaaGreatSmX
import Derived.Test.YtjcaiecapapceaaGreatFacts
import Derived.Deep.DeepCutAuto
/-
 Equality is stronger: the law FnSameChain returns true for whatever draws, and its argument reads as it did. No condition of ours.
-/
set_option linter.unusedVariables false
set_option linter.unusedSimpArgs false
set_option maxRecDepth 100000
set_option maxHeartbeats 6400000
namespace Go.Proofs.YtjcaiecapapceaaGreat.lawSameChain
open Go.ChangeShapes Go.WideShapes Go.ChangeAt Go.RowKit P1 Draw6 LawC CntC DocK CatD
theorem walk_good (w : World) (a0 : Option Addr) (len0 cap0 : Nat) (hb0 : Bytes w a0 len0) (hlc0 : len0 ≤ cap0) (hcm0 : cap0 ≤ maxLen) (hl0 : len0 ≤ 1048576) :
  Calls Tryz.prog 9 #[.slice a0 len0 cap0] w fun e w' => e = .returned (.bool true) ∧ Ext w w' := by
 have HD0 := Lib.hid (Dr82.drawSameLayouts w a0 len0 cap0 hb0 hlc0 hcm0)
 clear hb0
 unfold maxLen at hcm0
 go_enter Tryz.func9, Tryz.ntmps9
 go_wp2_with fail
 refine HD0.out.mono ?_
 rintro e1 w1 ⟨o, n, t, k, a, c, fs, o2, n2, t2, k2, a2, c2, f2, rfl, hc, hc2, hsz, hsz2, hsub, hsub2, hfr, hfr2, hva, hb1⟩
 obtain ⟨w3, hV⟩ : ∃ V, (w1.alloc (.cells #[.int .i64 o, .int .i64 n, .string t, .slice a k.len c] 25)).alloc (.cells #[.int .i64 o2, .int .i64 n2, .string t2, .slice a2 k2.len c2] 25) = V := ⟨_, rfl⟩
 obtain ⟨hX, hY, he⟩ := Eqd.two_new w1 (.int .i64 o) (.int .i64 n) (.string t) (.slice a k.len c) (.int .i64 o2) (.int .i64 n2) (.string t2) (.slice a2 k2.len c2) 25 (Ext.refl _)
 rw [hV] at hX hY he
 have X3 := Lib.hid (show w3.cell? ⟨w1.heap.size, 0, none⟩ = some (.int .i64 o) ∧ w3.cell? ⟨w1.heap.size, 1, none⟩ = some (.int .i64 n) ∧ w3.cell? ⟨w1.heap.size, 2, none⟩ = some (.string t) ∧ w3.cell? ⟨w1.heap.size, 3, none⟩ = some (.slice a k.len c) from hX)
 have Y3 := Lib.hid (show w3.cell? ⟨(w1.heap.size + 1), 0, none⟩ = some (.int .i64 o2) ∧ w3.cell? ⟨(w1.heap.size + 1), 1, none⟩ = some (.int .i64 n2) ∧ w3.cell? ⟨(w1.heap.size + 1), 2, none⟩ = some (.string t2) ∧ w3.cell? ⟨(w1.heap.size + 1), 3, none⟩ = some (.slice a2 k2.len c2) from hY)
 have L3 := Lib.hid (show w1.heap.size < w3.heap.size by rw [← hV]; simp; omega)
 have M3 := Lib.hid (show w1.heap.size + 1 < w3.heap.size by rw [← hV]; simp)
 have D3 := Lib.hid (show DocK.Doc0 w3 n t k a c fs from (DocK.Doc0.mk hsub (fun c hc => (hfr.2 c hc).2) hc (by omega)).ext he)
 have N3 := Lib.hid (show DocK.Doc0 w3 n2 t2 k2 a2 c2 f2 from (DocK.Doc0.mk hsub2 (fun c hc => (hfr2.2 c hc).2) hc2 (by omega)).ext he)
 have E1 := Lib.hid (show Ext w w3 from Ext.trans (show Ext w w1 from hb1) he)
 have E3 := Lib.hid (Ext.refl w3)
 clear hX hY he hsub hsub2 hfr hfr2 hb1 hc hc2
 obtain ⟨S, hS⟩ : ∃ S, Eqd.sameLay o n t k o2 n2 t2 k2 = S := ⟨_, rfl⟩
 obtain ⟨VA, hVA⟩ : ∃ V, It.toldD o n t k = V := ⟨_, rfl⟩
 obtain ⟨XL, hXL⟩ : ∃ X, It.laysD o n t k = X := ⟨_, rfl⟩
 obtain ⟨DS, hDS⟩ : ∃ X, sameD o n t k o2 n2 t2 k2 = X := ⟨_, rfl⟩
 have hfew : VA = true → DS = true → S = true := by
  intro h1 h2
  rw [h2] at hDS
  unfold sameD at hDS
  simp only [Bool.and_eq_true, decide_eq_true_eq, F.same_iff] at hDS
  obtain ⟨⟨⟨rfl, rfl⟩, rfl⟩, rfl⟩ := hDS
  rw [← hS, Eqd.sameLay_self, hVA, h1]
 have HIA := Lib.hid (show ∀ W : World, Ext w3 W → Calls Tryz.prog 27 #[.agg #[.int .i64 o, .int .i64 n, .string t, .slice a k.len c], .agg #[.int .i64 o2, .int .i64 n2, .string t2, .slice a2 k2.len c2]] W fun e w' => e = .returned (.bool S) ∧ Ext W w' from fun W e => by have h := Eqd.implSameLayouts W o n t k a c fs (Dr82.toIn (D3.out.ext e)) o2 n2 t2 k2 a2 c2 f2 (Dr82.toIn (N3.out.ext e)); rw [hS] at h; exact h)
 have HSA := Lib.hid (show ∀ W : World, Ext w3 W → Calls Tryz.prog 28 #[.agg #[.int .i64 o, .int .i64 n, .string t, .slice a k.len c], .agg #[.int .i64 o2, .int .i64 n2, .string t2, .slice a2 k2.len c2]] W fun e w' => e = .returned (.bool S) ∧ Ext W w' from fun W e => by have h := Eqd.specSameLayouts W o n t k a c fs (Dr82.toIn (D3.out.ext e)) o2 n2 t2 k2 a2 c2 f2 (Dr82.toIn (N3.out.ext e)); rw [hS] at h; exact h)
 have HAA := Lib.hid (show ∀ W : World, Ext w3 W → Calls Tryz.prog 27 #[.agg #[.int .i64 o, .int .i64 n, .string t, .slice a k.len c], .agg #[.int .i64 o, .int .i64 n, .string t, .slice a k.len c]] W fun e w' => e = .returned (.bool VA) ∧ Ext W w' from fun W e => by have h := Eqd.implSameLayouts W o n t k a c fs (Dr82.toIn (D3.out.ext e)) o n t k a c fs (Dr82.toIn (D3.out.ext e)); rw [Eqd.sameLay_self, hVA] at h; exact h)
 have HXA := Lib.hid (show ∀ W : World, Ext w3 W → Calls Tryz.prog 15 #[.agg #[.int .i64 o, .int .i64 n, .string t, .slice a k.len c]] W (DocL.LOut W XL VA) from fun W e => by have h := DocL.implLays (D3.out.ext e) o; rw [hXL, hVA] at h; exact h)
 have HDS := Lib.hid (show ∀ W : World, Ext w3 W → Calls Tryz.prog 23 #[.agg #[.int .i64 o, .int .i64 n, .string t, .slice a k.len c], .agg #[.int .i64 o2, .int .i64 n2, .string t2, .slice a2 k2.len c2]] W fun e w' => e = .returned (.bool DS) ∧ Ext W w' from fun W e => by have h := NfM.same (D3.out.ext e) (N3.out.ext e) o o2; rw [hDS] at h; exact h)
 clear hS hVA hXL hDS
 obtain ⟨x0, x1, x2, x3⟩ := X3.out
 obtain ⟨y0, y1, y2, y3⟩ := Y3.out
 have l := L3.out
 have m := M3.out
 go_wp2_with fail
 try rw [hV]
 clear hV
 refine (HIA.out _ E3.out).mono ?_
 rintro e4 w4 ⟨rfl, hb⟩
 have hbb : Ext w3 w4 := hb
 have X4 := Lib.hid (box4 X3.out L3.out hbb)
 have L4 := Lib.hid (Nat.lt_of_lt_of_le L3.out hbb.size)
 have Y4 := Lib.hid (box4 Y3.out M3.out hbb)
 have M4 := Lib.hid (Nat.lt_of_lt_of_le M3.out hbb.size)
 have E4 := Lib.hid (E3.out.trans hbb)
 have S4 := Lib.hid hbb
 clear hb hbb x0 x1 x2 x3 y0 y1 y2 y3 l m
 obtain ⟨x0, x1, x2, x3⟩ := X4.out
 have l := L4.out
 obtain ⟨y0, y1, y2, y3⟩ := Y4.out
 have m := M4.out
 go_wp2_with fail
 refine (HSA.out _ E4.out).mono ?_
 rintro e5 w5 ⟨rfl, hb⟩
 have hbb : Ext w4 w5 := hb
 have X5 := Lib.hid (box4 X4.out L4.out hbb)
 have L5 := Lib.hid (Nat.lt_of_lt_of_le L4.out hbb.size)
 have Y5 := Lib.hid (box4 Y4.out M4.out hbb)
 have M5 := Lib.hid (Nat.lt_of_lt_of_le M4.out hbb.size)
 have E5 := Lib.hid (E4.out.trans hbb)
 have S5 := Lib.hid hbb
 clear hb hbb x0 x1 x2 x3 l y0 y1 y2 y3 m
 obtain ⟨x0, x1, x2, x3⟩ := X5.out
 have l := L5.out
 go_wp2_with fail
 refine (HXA.out _ E5.out).mono ?_
 rintro e6 w6 ⟨pa, ca, rfl, hla, hb⟩
 have hbb : Ext w5 w6 := hb
 have X6 := Lib.hid (box4 X5.out L5.out hbb)
 have L6 := Lib.hid (Nat.lt_of_lt_of_le L5.out hbb.size)
 have Y6 := Lib.hid (box4 Y5.out M5.out hbb)
 have M6 := Lib.hid (Nat.lt_of_lt_of_le M5.out hbb.size)
 have E6 := Lib.hid (E5.out.trans hbb)
 have S6 := Lib.hid hbb
 clear hla
 clear hb hbb x0 x1 x2 x3 l
 obtain ⟨x0, x1, x2, x3⟩ := X6.out
 have l := L6.out
 go_wp2_with fail
 refine (HAA.out _ E6.out).mono ?_
 rintro e7 w7 ⟨rfl, hb⟩
 have hbb : Ext w6 w7 := hb
 have X7 := Lib.hid (box4 X6.out L6.out hbb)
 have L7 := Lib.hid (Nat.lt_of_lt_of_le L6.out hbb.size)
 have Y7 := Lib.hid (box4 Y6.out M6.out hbb)
 have M7 := Lib.hid (Nat.lt_of_lt_of_le M6.out hbb.size)
 have E7 := Lib.hid (E6.out.trans hbb)
 have S7 := Lib.hid hbb
 clear hb hbb x0 x1 x2 x3 l
 cases VA with
 | false =>
   clear hfew
   go_wp2_with fail
   go_ret
   exact ⟨by first | rfl | simp, E1.out.trans (E3.out.trans E7.out)⟩
 | true =>
 obtain ⟨x0, x1, x2, x3⟩ := X7.out
 have l := L7.out
 obtain ⟨y0, y1, y2, y3⟩ := Y7.out
 have m := M7.out
 go_wp2_with fail
 refine (HDS.out _ E7.out).mono ?_
 rintro e8 w8 ⟨rfl, hb⟩
 have hbb : Ext w7 w8 := hb
 have X8 := Lib.hid (box4 X7.out L7.out hbb)
 have L8 := Lib.hid (Nat.lt_of_lt_of_le L7.out hbb.size)
 have Y8 := Lib.hid (box4 Y7.out M7.out hbb)
 have M8 := Lib.hid (Nat.lt_of_lt_of_le M7.out hbb.size)
 have E8 := Lib.hid (E7.out.trans hbb)
 have S8 := Lib.hid hbb
 clear hb hbb x0 x1 x2 x3 l y0 y1 y2 y3 m
 cases DS with
 | false =>
   clear hfew
   go_wp2_with fail
   go_ret
   exact ⟨by first | rfl | simp, E1.out.trans (E3.out.trans E8.out)⟩
 | true =>
   have hs := hfew (by first | rfl | trivial) (by first | rfl | trivial)
   subst hs
   clear hfew
   go_wp2_with fail
   go_ret
   exact ⟨by first | rfl | simp, E1.out.trans (E3.out.trans E8.out)⟩
set_option maxHeartbeats 400000 in
theorem walk_big (w : World) (a0 : Option Addr) (len0 cap0 : Nat) (hl0 : 1048576 < len0) :
  Calls Tryz.prog 9 #[.slice a0 len0 cap0] w fun e w' => e = .returned (.bool true) ∧ Ext w w' := by
 have h1 : (1048576 : Int) < (len0 : Int) := by omega
 go_enter Tryz.func9, Tryz.ntmps9
 go_wp2_with fail
 go_ret
 exact ⟨rfl, Ext.refl w⟩
theorem walk (w : World) (a0 : Option Addr) (len0 cap0 : Nat) (hb0 : Bytes w a0 len0) (hlc0 : len0 ≤ cap0) (hcm0 : cap0 ≤ maxLen) :
  Calls Tryz.prog 9 #[.slice a0 len0 cap0] w fun e w' => e = .returned (.bool true) ∧ Below w.heap.size w w' := by
 by_cases h : 1048576 < len0
 ·exact walk_big w a0 len0 cap0 h
 ·exact walk_good w a0 len0 cap0 hb0 hlc0 hcm0 (by omega)
theorem lifted (os : Os) (started : os.Started) (H : Type) (enc : TypeId × Value → H) :
  ReturnsInHanded {} Tryz.checked os 9 .any (Rows.fnSameChainSpec.pre6 enc Tryz.prog Tryz.f9 Rows.fnSameChainRow.domain false) (Rows.fnSameChainSpec.post enc Tryz.prog Tryz.f9 false true false false) := by
 refine returnsInHanded_of_change (C := Tryz.checked) Facts.own started (by kernel_rfl) Tryz.func9
  (ChangeSpec.witness6 (enc := enc) (C := Tryz.checked) false ⟨#[], #[.slice none 0 0], []⟩ 8 (by kernel_rfl) (by kernel_rfl) (by kernel_rfl) (by kernel_rfl)) ?_
 intro W base args ds gs before hval0 hW hcnd0 _
 clear hcnd0
 have hval : ∀ (j : Nat) t v, Tryz.f9.params[j]? = some t → args[j]? = some v → Value.okWide Tryz.prog W .any base t v := hval0
 have hW' := hW
 obtain ⟨p, q, hA0, hV, rfl, hfz, hnd⟩ := hW
 have hA : DataW.TrodAll enc Tryz.prog W 0 (fun _ => true) true Tryz.f9.params.toList args.toList ds p := hA0
 rw [Tryz.params9] at hA hval
 obtain ⟨v0, d0, rfl, rfl, h0⟩ := trodAll_one hA
 obtain ⟨rfl, rfl⟩ := trodVars_none hV
 obtain ⟨a0, len0, cap0, rfl⟩ := okWide_slice Tryz.underlying22 (hval 0 22 v0 rfl rfl)
 clear hA0 hval0
 simp only [List.append_nil] at hW'
 have hlt : ∀ x ∈ p, x.block < W.heap.size := fun x hx => by simpa using hW'.lt x hx
 obtain ⟨hb0, hlc0, hcm0⟩ := opened h0
 refine (walk W a0 len0 cap0 hb0 hlc0 hcm0).mono fun e W' ⟨he, hb⟩ => ?_
 subst he
 refine ⟨_, rfl, [_], [], p, [], p, [], hW', trodAll_mk1 (shut_bool Tryz.underlying4 _), ?_, rfl, hb.frame _, fun h => by cases h⟩
 exact trodAll_mk1 (Below.trod Facts.laidOut (by kernel_rfl) (of_decide_eq_true (by kernel_rfl)) h0 hb hlt)
theorem named : Tryz.prog.funcNamed Rows.fnSameChainRow.func = some 9 := by kernel_rfl
theorem closed : joinedFacts Tryz.prog 9 Tryz.f9 Rows.fnSameChainSpec Rows.fnSameChainRow = true :=
 Facts.closed_of rfl rfl rfl rfl (h28b := rfl) (by kernel_rfl) (by kernel_rfl) (by kernel_rfl) (by kernel_rfl) (by kernel_rfl) (by kernel_rfl) (by kernel_rfl) (by kernel_rfl) (by kernel_rfl) (by kernel_rfl) (by kernel_rfl) (by kernel_rfl) (by kernel_rfl) (by kernel_rfl) (by kernel_rfl) (by kernel_rfl) (by kernel_rfl) (by kernel_rfl) (by kernel_rfl) (by kernel_rfl) (by kernel_rfl) (by kernel_rfl) (by kernel_rfl) (by kernel_rfl)
theorem instanced : Tryz.f9.isInstance Tryz.prog Rows.fnSameChainRow.origin Rows.fnSameChainRow.targs := of_decide_eq_true (by kernel_rfl)
theorem wrapped : Tryz.f9.isWrapper Tryz.prog Rows.fnSameChainRow.wrapper Rows.fnSameChainRow.mainSum := by
 unfold Func.isWrapper
 rw [if_neg (of_decide_eq_false (by kernel_rfl))]
 exact ⟨rfl, rfl⟩
theorem holds : Rows.FnSameChainSaid :=
 OpenClaim.holds_of_wide 9 Tryz.f9 rfl rfl rfl rfl rfl rfl rfl ⟨rfl, rfl, rfl, rfl, rfl⟩ rfl rfl rfl rfl rfl named Tryz.func9 closed instanced wrapped
  (fun os started H enc _ => lifted os started H enc)
end Go.Proofs.YtjcaiecapapceaaGreat.lawSameChain
