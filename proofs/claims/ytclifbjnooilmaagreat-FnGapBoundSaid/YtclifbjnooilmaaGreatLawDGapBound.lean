import Derived.Test.YtclifbjnooilmaaGreatDr5
import Derived.Test.YtclifbjnooilmaaGreatGgX
import Derived.Test.YtclifbjnooilmaaGreatFacts
import Derived.Deep.DeepCutAuto
/-
 Gaps are bounded: the law FnGapBound returns true for whatever draws, and its argument reads as it did. No condition of ours.
-/
set_option linter.unusedVariables false
set_option linter.unusedSimpArgs false
set_option maxRecDepth 100000
set_option maxHeartbeats 6400000
namespace Go.Proofs.YtclifbjnooilmaaGreat.lawGapBound
open Go.ChangeShapes Go.WideShapes Go.ChangeAt Go.RowKit P1 Draw6 LawC CntC DocK CatD
theorem walk_good (w : World) (a0 : Option Addr) (len0 cap0 : Nat) (hb0 : Bytes w a0 len0) (hlc0 : len0 ≤ cap0) (hcm0 : cap0 ≤ maxLen) (hl0 : len0 ≤ 1048576) :
  Calls Tryz.prog 8 #[.slice a0 len0 cap0] w fun e w' => e = .returned (.bool true) ∧ Ext w w' := by
 have HD0 := Lib.hid (Dr5.drawGreedyGap w a0 len0 cap0 hb0 hlc0 hcm0)
 clear hb0
 unfold maxLen at hcm0
 go_enter Tryz.func8, Tryz.ntmps8
 go_wp2_with fail
 refine HD0.out.mono ?_
 rintro e1 w1 ⟨o, n, t, k, a, c, fs, i, rfl, hi, hc, hsz, hsub, hfr, hb1⟩
 obtain ⟨w3, hV⟩ : ∃ V, w1.alloc (.cells #[.int .i64 o, .int .i64 n, .string t, .slice a k.len c] 25) = V := ⟨_, rfl⟩
 have he : Ext w1 w3 := by rw [← hV]; exact (Ext.refl _).alloc _
 have X3 := Lib.hid (show w3.cell? ⟨w1.heap.size, 0, none⟩ = some (.int .i64 o) ∧ w3.cell? ⟨w1.heap.size, 1, none⟩ = some (.int .i64 n) ∧ w3.cell? ⟨w1.heap.size, 2, none⟩ = some (.string t) ∧ w3.cell? ⟨w1.heap.size, 3, none⟩ = some (.slice a k.len c) from by rw [← hV]; exact box_new w1 25 (.int .i64 o) (.int .i64 n) (.string t) (.slice a k.len c))
 have L3 := Lib.hid (show w1.heap.size < w3.heap.size by rw [← hV]; simp)
 have D3 := Lib.hid (show DocK.Doc0 w3 n t k a c fs from (DocK.Doc0.mk hsub (fun c hc => (hfr.2 c hc).2) hc (by omega)).ext he)
 have E1 := Lib.hid (show Ext w w3 from Ext.trans (show Ext w w1 from hb1) he)
 have E3 := Lib.hid (Ext.refl w3)
 clear he hsub hfr hb1 hc
 obtain ⟨⟨g1, g2, ok⟩, hR⟩ : ∃ R, Be.ggR i o n t k = R := ⟨_, rfl⟩
 have hfc : ok = true → Rn.rightD i o n t k = true ∧ (OpenR.openRes o n t k).2 = true ∧ (Be.rnX i o n t k).length ≤ (OpenR.openRes o n t k).1.length ∧ (OpenR.openRes o n t k).1.length ≤ 200 ∧ g2 < ((OpenR.openRes o n t k).1.length : Int) ∧ -((OpenR.openRes o n t k).1.length : Int) < g2 := by
  intro h
  rw [h] at hR
  exact Be.gg_bound hR
 have HGI := Lib.hid (show ∀ W : World, Ext w3 W → Calls Tryz.prog 21 #[.agg #[.int .i64 o, .int .i64 n, .string t, .slice a k.len c], .int .i64 i] W (fun e w' => e = .returned (.tuple #[.agg #[.int .i64 g1, .int .i64 g2], .bool ok]) ∧ Ext W w') from fun W e => by have h := Be.implGreedyGap i W o n t k a c fs (D3.out.ext e).sub (D3.out.ext e).ok D3.out.cap_le (by have := D3.out.size; omega) D3.out.fits D3.out.tfit; unfold Be.CoOut at h; rw [hR] at h; exact h)
 have HGS := Lib.hid (show ∀ W : World, Ext w3 W → Calls Tryz.prog 22 #[.agg #[.int .i64 o, .int .i64 n, .string t, .slice a k.len c], .int .i64 i] W (fun e w' => e = .returned (.tuple #[.agg #[.int .i64 g1, .int .i64 g2], .bool ok]) ∧ Ext W w') from fun W e => by have h := Be.specGreedyGap i W o n t k a c fs (D3.out.ext e).sub (D3.out.ext e).lt D3.out.cap_le (by have := D3.out.size; omega) D3.out.fits D3.out.tfit; unfold Be.CoOut at h; rw [hR] at h; exact h)
 have HRD := Lib.hid (show ∀ W : World, Ext w3 W → Calls Tryz.prog 18 #[.agg #[.int .i64 o, .int .i64 n, .string t, .slice a k.len c], .int .i64 i] W (DocO.Out W (Rn.rnR i o n t k).1 (Rn.rnR i o n t k).2) from fun W e => by exact DocR.implRender (D3.out.ext e) o i)
 have HOP := Lib.hid (show ∀ W : World, Ext w3 W → Calls Tryz.prog 33 #[.agg #[.int .i64 o, .int .i64 n, .string t, .slice a k.len c]] W (DocO.Out W (OpenR.openRes o n t k).1 (OpenR.openRes o n t k).2) from fun W e => by exact (DocW.toO (D3.out.ext e)).implOpen o)
 have heq := Be.cost_refl g1 g2
 have hoo : (ok != ok) = false := by simp
 have hoe : (ok == ok) = true := by simp
 clear hR
 obtain ⟨x0, x1, x2, x3⟩ := X3.out
 have l := L3.out
 go_wp2_with fail
 try rw [hV]
 clear hV
 refine (HGI.out _ E3.out).mono ?_
 rintro e4 wx4 ⟨rfl, hb⟩
 obtain ⟨w4, hV⟩ : ∃ V, wx4.alloc (.cells #[.int .i64 g1, .int .i64 g2] 33) = V := ⟨_, rfl⟩
 have hbb : Ext w3 w4 := by rw [← hV]; exact Ext.trans (show Ext w3 wx4 from hb) ((Ext.refl _).alloc _)
 have X4 := Lib.hid (box4 X3.out L3.out hbb)
 have L4 := Lib.hid (Nat.lt_of_lt_of_le L3.out hbb.size)
 have E4 := Lib.hid (E3.out.trans hbb)
 have S4 := Lib.hid hbb
 have Ga4 := Lib.hid (show w4.cell? ⟨wx4.heap.size, 0, none⟩ = some (.int .i64 g1) ∧ w4.cell? ⟨wx4.heap.size, 1, none⟩ = some (.int .i64 g2) from by rw [← hV]; exact ⟨by rw [World.cell?_alloc_new]; rfl, by rw [World.cell?_alloc_new]; rfl⟩)
 have Gl4 := Lib.hid (show wx4.heap.size < w4.heap.size by rw [← hV]; simp)
 clear hb hbb x0 x1 x2 x3 l
 obtain ⟨x0, x1, x2, x3⟩ := X4.out
 have l := L4.out
 go_wp2_with fail
 try rw [hV]
 clear hV
 refine (HGS.out _ E4.out).mono ?_
 rintro e5 wx5 ⟨rfl, hb⟩
 obtain ⟨w5, hV⟩ : ∃ V, wx5.alloc (.cells #[.int .i64 g1, .int .i64 g2] 33) = V := ⟨_, rfl⟩
 have hbb : Ext w4 w5 := by rw [← hV]; exact Ext.trans (show Ext w4 wx5 from hb) ((Ext.refl _).alloc _)
 have X5 := Lib.hid (box4 X4.out L4.out hbb)
 have L5 := Lib.hid (Nat.lt_of_lt_of_le L4.out hbb.size)
 have Ga5 := Lib.hid (Be.box2 Ga4.out Gl4.out hbb)
 have Gl5 := Lib.hid (Nat.lt_of_lt_of_le Gl4.out hbb.size)
 have E5 := Lib.hid (E4.out.trans hbb)
 have S5 := Lib.hid hbb
 have Wa5 := Lib.hid (show w5.cell? ⟨wx5.heap.size, 0, none⟩ = some (.int .i64 g1) ∧ w5.cell? ⟨wx5.heap.size, 1, none⟩ = some (.int .i64 g2) from by rw [← hV]; exact ⟨by rw [World.cell?_alloc_new]; rfl, by rw [World.cell?_alloc_new]; rfl⟩)
 have Wl5 := Lib.hid (show wx5.heap.size < w5.heap.size by rw [← hV]; simp)
 clear hb hbb x0 x1 x2 x3 l
 cases ok with
 | false =>
   clear hfc
   obtain ⟨ga0, ga1⟩ := Ga5.out
   have gl := Gl5.out
   obtain ⟨wa0, wa1⟩ := Wa5.out
   have wl := Wl5.out
   go_wp2_with fail
   try rw [hV]
   clear hV
   go_ret
   exact ⟨by first | rfl | simp, E1.out.trans (E3.out.trans E5.out)⟩
 | true =>
 obtain ⟨hrt, hop, h1, h2, h3, h4⟩ := hfc (by rfl)
 clear hfc
 rw [RnR.rnR_yes hrt] at HRD
 rw [hop] at HOP
 obtain ⟨X, hX⟩ : ∃ X, Be.rnX i o n t k = X := ⟨_, rfl⟩
 obtain ⟨O, hO⟩ : ∃ X, (OpenR.openRes o n t k).1 = X := ⟨_, rfl⟩
 have HRD := Lib.hid (show ∀ W : World, Ext w3 W → Calls Tryz.prog 18 #[.agg #[.int .i64 o, .int .i64 n, .string t, .slice a k.len c], .int .i64 i] W (DocO.Out W X true) from fun W e => by rw [← hX]; exact HRD.out W e)
 rw [hO] at HOP h1 h2 h3 h4
 rw [hX] at h1
 obtain ⟨MX, hMX⟩ : ∃ m, X.length = m := ⟨_, rfl⟩
 obtain ⟨MO, hMO⟩ : ∃ m, O.length = m := ⟨_, rfl⟩
 have HMX := Lib.hid hMX
 have HMO := Lib.hid hMO
 rw [hMX, hMO] at h1
 rw [hMO] at h2 h3 h4
 have j1 : (MX : Int) ≤ (MO : Int) := by omega
 have j2 : decide ((MX : Int) ≤ (MO : Int)) = true := decide_eq_true j1
 have j3 : decide (g2 < (MO : Int)) = true := decide_eq_true h3
 have j4 : IntKind.i64.wrap (-(MO : Int)) = -(MO : Int) := by rw [IntKind.wrap_i64]; omega
 have j5 : decide (-(MO : Int) < g2) = true := decide_eq_true h4
 clear hX hO hMX hMO h1 hrt hop
 obtain ⟨x0, x1, x2, x3⟩ := X5.out
 have l := L5.out
 obtain ⟨ga0, ga1⟩ := Ga5.out
 have gl := Gl5.out
 obtain ⟨wa0, wa1⟩ := Wa5.out
 have wl := Wl5.out
 go_wp2_with fail
 try rw [hV]
 clear hV
 refine (HOP.out _ E5.out).mono ?_
 rintro e6 w6 ⟨pa, ca, rfl, hla, hb⟩
 have hbb : Ext w5 w6 := hb
 have X6 := Lib.hid (box4 X5.out L5.out hbb)
 have L6 := Lib.hid (Nat.lt_of_lt_of_le L5.out hbb.size)
 have Ga6 := Lib.hid (Be.box2 Ga5.out Gl5.out hbb)
 have Gl6 := Lib.hid (Nat.lt_of_lt_of_le Gl5.out hbb.size)
 have Wa6 := Lib.hid (Be.box2 Wa5.out Wl5.out hbb)
 have Wl6 := Lib.hid (Nat.lt_of_lt_of_le Wl5.out hbb.size)
 have E6 := Lib.hid (E5.out.trans hbb)
 have S6 := Lib.hid hbb
 have KA := Lib.hid hla
 clear hla
 rw [HMO.out]
 clear hb hbb x0 x1 x2 x3 l ga0 ga1 gl wa0 wa1 wl
 obtain ⟨x0, x1, x2, x3⟩ := X6.out
 have l := L6.out
 go_wp2_with fail
 refine (HRD.out _ E6.out).mono ?_
 rintro e7 w7 ⟨pb, cb, rfl, hlb, hb⟩
 have hbb : Ext w6 w7 := hb
 have X7 := Lib.hid (box4 X6.out L6.out hbb)
 have L7 := Lib.hid (Nat.lt_of_lt_of_le L6.out hbb.size)
 have Ga7 := Lib.hid (Be.box2 Ga6.out Gl6.out hbb)
 have Gl7 := Lib.hid (Nat.lt_of_lt_of_le Gl6.out hbb.size)
 have Wa7 := Lib.hid (Be.box2 Wa6.out Wl6.out hbb)
 have Wl7 := Lib.hid (Nat.lt_of_lt_of_le Wl6.out hbb.size)
 have E7 := Lib.hid (E6.out.trans hbb)
 have S7 := Lib.hid hbb
 have KB := Lib.hid hlb
 clear hlb
 rw [HMX.out]
 clear hb hbb x0 x1 x2 x3 l
 obtain ⟨ga0, ga1⟩ := Ga7.out
 have gl := Gl7.out
 go_wp2_with fail
 go_ret
 exact ⟨by first | rfl | simp, E1.out.trans (E3.out.trans E7.out)⟩
set_option maxHeartbeats 400000 in
theorem walk_big (w : World) (a0 : Option Addr) (len0 cap0 : Nat) (hl0 : 1048576 < len0) :
  Calls Tryz.prog 8 #[.slice a0 len0 cap0] w fun e w' => e = .returned (.bool true) ∧ Ext w w' := by
 have h1 : (1048576 : Int) < (len0 : Int) := by omega
 go_enter Tryz.func8, Tryz.ntmps8
 go_wp2_with fail
 go_ret
 exact ⟨rfl, Ext.refl w⟩
theorem walk (w : World) (a0 : Option Addr) (len0 cap0 : Nat) (hb0 : Bytes w a0 len0) (hlc0 : len0 ≤ cap0) (hcm0 : cap0 ≤ maxLen) :
  Calls Tryz.prog 8 #[.slice a0 len0 cap0] w fun e w' => e = .returned (.bool true) ∧ Below w.heap.size w w' := by
 by_cases h : 1048576 < len0
 ·exact walk_big w a0 len0 cap0 h
 ·exact walk_good w a0 len0 cap0 hb0 hlc0 hcm0 (by omega)
theorem lifted (os : Os) (started : os.Started) (H : Type) (enc : TypeId × Value → H) :
  ReturnsInHanded {} Tryz.checked os 8 .any (Rows.fnGapBoundSpec.pre6 enc Tryz.prog Tryz.f8 Rows.fnGapBoundRow.domain false) (Rows.fnGapBoundSpec.post enc Tryz.prog Tryz.f8 false true false false) := by
 refine returnsInHanded_of_change (C := Tryz.checked) Facts.own started (by kernel_rfl) Tryz.func8
  (ChangeSpec.witness6 (enc := enc) (C := Tryz.checked) false ⟨#[], #[.slice none 0 0], []⟩ 8 (by kernel_rfl) (by kernel_rfl) (by kernel_rfl) (by kernel_rfl)) ?_
 intro W base args ds gs before hval0 hW hcnd0 _
 clear hcnd0
 have hval : ∀ (j : Nat) t v, Tryz.f8.params[j]? = some t → args[j]? = some v → Value.okWide Tryz.prog W .any base t v := hval0
 have hW' := hW
 obtain ⟨p, q, hA0, hV, rfl, hfz, hnd⟩ := hW
 have hA : DataW.TrodAll enc Tryz.prog W 0 (fun _ => true) true Tryz.f8.params.toList args.toList ds p := hA0
 rw [Tryz.params8] at hA hval
 obtain ⟨v0, d0, rfl, rfl, h0⟩ := trodAll_one hA
 obtain ⟨rfl, rfl⟩ := trodVars_none hV
 obtain ⟨a0, len0, cap0, rfl⟩ := okWide_slice Tryz.underlying22 (hval 0 22 v0 rfl rfl)
 clear hA0 hval0
 simp only [List.append_nil] at hW'
 have hlt : ∀ x ∈ p, x.block < W.heap.size := fun x hx => by simpa using hW'.lt x hx
 obtain ⟨hb0, hlc0, hcm0⟩ := opened h0
 refine (walk W a0 len0 cap0 hb0 hlc0 hcm0).mono fun e W' ⟨he, hb⟩ => ?_
 subst he
 refine ⟨_, rfl, [_], [], p, [], p, [], hW', trodAll_mk1 (shut_bool Tryz.underlying4 _), ?_, rfl, hb.frame _, fun h => by cases h⟩
 exact trodAll_mk1 (Below.trod Facts.laidOut (by kernel_rfl) (of_decide_eq_true (by kernel_rfl)) h0 hb hlt)
theorem named : Tryz.prog.funcNamed Rows.fnGapBoundRow.func = some 8 := by kernel_rfl
theorem closed : joinedFacts Tryz.prog 8 Tryz.f8 Rows.fnGapBoundSpec Rows.fnGapBoundRow = true :=
 Facts.closed_of rfl rfl rfl rfl (h28b := rfl) (by kernel_rfl) (by kernel_rfl) (by kernel_rfl) (by kernel_rfl) (by kernel_rfl) (by kernel_rfl) (by kernel_rfl) (by kernel_rfl) (by kernel_rfl) (by kernel_rfl) (by kernel_rfl) (by kernel_rfl) (by kernel_rfl) (by kernel_rfl) (by kernel_rfl) (by kernel_rfl) (by kernel_rfl) (by kernel_rfl) (by kernel_rfl) (by kernel_rfl) (by kernel_rfl) (by kernel_rfl) (by kernel_rfl) (by kernel_rfl)
theorem instanced : Tryz.f8.isInstance Tryz.prog Rows.fnGapBoundRow.origin Rows.fnGapBoundRow.targs := of_decide_eq_true (by kernel_rfl)
theorem wrapped : Tryz.f8.isWrapper Tryz.prog Rows.fnGapBoundRow.wrapper Rows.fnGapBoundRow.mainSum := by
 unfold Func.isWrapper
 rw [if_neg (of_decide_eq_false (by kernel_rfl))]
 exact ⟨rfl, rfl⟩
theorem holds : Rows.FnGapBoundSaid :=
 OpenClaim.holds_of_wide 8 Tryz.f8 rfl rfl rfl rfl rfl rfl rfl ⟨rfl, rfl, rfl, rfl, rfl⟩ rfl rfl rfl rfl rfl named Tryz.func8 closed instanced wrapped
  (fun os started H enc _ => lifted os started H enc)
end Go.Proofs.YtclifbjnooilmaaGreat.lawGapBound
