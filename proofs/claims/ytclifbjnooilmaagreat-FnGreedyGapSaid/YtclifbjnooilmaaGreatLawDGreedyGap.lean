import Derived.Test.YtclifbjnooilmaaGreatDr5
import Derived.Test.YtclifbjnooilmaaGreatGgX
import Derived.Test.YtclifbjnooilmaaGreatFacts
import Derived.Deep.DeepCutAuto
/-
 Greedy layouts cost more: the law FnGreedyGap returns true for whatever draws, and its argument reads as it did. No condition of ours.
-/
set_option linter.unusedVariables false
set_option linter.unusedSimpArgs false
set_option maxRecDepth 100000
set_option maxHeartbeats 6400000
namespace Go.Proofs.YtclifbjnooilmaaGreat.lawGreedyGap
open Go.ChangeShapes Go.WideShapes Go.ChangeAt Go.RowKit P1 Draw6 LawC CntC DocK CatD
theorem walk_good (w : World) (a0 : Option Addr) (len0 cap0 : Nat) (hb0 : Bytes w a0 len0) (hlc0 : len0 ≤ cap0) (hcm0 : cap0 ≤ maxLen) (hl0 : len0 ≤ 1048576) :
  Calls Tryz.prog 4 #[.slice a0 len0 cap0] w fun e w' => e = .returned (.bool true) ∧ Ext w w' := by
 have HD0 := Lib.hid (Dr5.drawGreedyGap w a0 len0 cap0 hb0 hlc0 hcm0)
 clear hb0
 unfold maxLen at hcm0
 go_enter Tryz.func4, Tryz.ntmps4
 go_wp2_with fail
 refine HD0.out.mono ?_
 rintro e1 w1 ⟨o, n, t, k, a, c, fs, i, rfl, hi, hc, hsz, hsub, hfr, hb1⟩
 obtain ⟨w3, hV⟩ : ∃ V, w1.alloc (.cells #[.int .i64 o, .int .i64 n, .string t, .slice a k.len c] 25) = V := ⟨_, rfl⟩
 have he : Ext w1 w3 := by rw [← hV]; exact (Ext.refl _).alloc _
 have X3 := Lib.hid (show w3.cell? ⟨w1.heap.size, 0, none⟩ = some (.int .i64 o) ∧ w3.cell? ⟨w1.heap.size, 1, none⟩ = some (.int .i64 n) ∧ w3.cell? ⟨w1.heap.size, 2, none⟩ = some (.string t) ∧ w3.cell? ⟨w1.heap.size, 3, none⟩ = some (.slice a k.len c) from by rw [← hV]; exact box_new w1 25 (.int .i64 o) (.int .i64 n) (.string t) (.slice a k.len c))
 have L3 := Lib.hid (show w1.heap.size < w3.heap.size by rw [← hV]; simp)
 have D3 := Lib.hid (show DocK.Doc0 w3 n t k a c fs from (DocK.Doc0.mk hsub (fun c hc => (hfr.2 c hc).2) hc (by omega)).ext he)
 have E1 := Lib.hid (show Ext w w3 from Ext.trans (show Ext w w1 from hb1) he)
 have E3 := Lib.hid (Ext.refl w3)
 clear he hsub hfr hb1 hc
 obtain ⟨⟨g1, g2, ok⟩, hR⟩ : ∃ R, Be.ggR i o n t k = R := ⟨_, rfl⟩
 have hfc : ok = true → (0 < g1 ∨ g1 = 0 ∧ 0 ≤ g2) ∧ Rn.rightD i o n t k = true ∧ Cst.wv i = true ∧ P1.lv (Be.rnX i o n t k) = true ∧ P1.lv (Be.beR i o n t k).1 = true ∧ Be.bcR i o n t k = (ov i (Be.beR i o n t k).1, ((Be.beR i o n t k).1.length : Int), true) ∧ ov i (Be.rnX i o n t k) = ov i (Be.beR i o n t k).1 + g1 ∧ ((Be.rnX i o n t k).length : Int) = ((Be.beR i o n t k).1.length : Int) + g2 := by
  intro h
  rw [h] at hR
  exact Be.gg_facts hR
 have HGI := Lib.hid (show ∀ W : World, Ext w3 W → Calls Tryz.prog 21 #[.agg #[.int .i64 o, .int .i64 n, .string t, .slice a k.len c], .int .i64 i] W (fun e w' => e = .returned (.tuple #[.agg #[.int .i64 g1, .int .i64 g2], .bool ok]) ∧ Ext W w') from fun W e => by have h := Be.implGreedyGap i W o n t k a c fs (D3.out.ext e).sub (D3.out.ext e).ok D3.out.cap_le (by have := D3.out.size; omega) D3.out.fits D3.out.tfit; unfold Be.CoOut at h; rw [hR] at h; exact h)
 have HGS := Lib.hid (show ∀ W : World, Ext w3 W → Calls Tryz.prog 22 #[.agg #[.int .i64 o, .int .i64 n, .string t, .slice a k.len c], .int .i64 i] W (fun e w' => e = .returned (.tuple #[.agg #[.int .i64 g1, .int .i64 g2], .bool ok]) ∧ Ext W w') from fun W e => by have h := Be.specGreedyGap i W o n t k a c fs (D3.out.ext e).sub (D3.out.ext e).lt D3.out.cap_le (by have := D3.out.size; omega) D3.out.fits D3.out.tfit; unfold Be.CoOut at h; rw [hR] at h; exact h)
 have HRD := Lib.hid (show ∀ W : World, Ext w3 W → Calls Tryz.prog 18 #[.agg #[.int .i64 o, .int .i64 n, .string t, .slice a k.len c], .int .i64 i] W (DocO.Out W (Rn.rnR i o n t k).1 (Rn.rnR i o n t k).2) from fun W e => by exact DocR.implRender (D3.out.ext e) o i)
 have HBC := Lib.hid (show ∀ W : World, Ext w3 W → Calls Tryz.prog 23 #[.agg #[.int .i64 o, .int .i64 n, .string t, .slice a k.len c], .int .i64 i] W (fun e w' => e = .returned (.tuple #[.agg #[.int .i64 (Be.bcR i o n t k).1, .int .i64 (Be.bcR i o n t k).2.1], .bool (Be.bcR i o n t k).2.2]) ∧ Ext W w') from fun W e => by exact Be.implBestCost i W o n t k a c fs (D3.out.ext e).sub (D3.out.ext e).ok D3.out.cap_le (by have := D3.out.size; omega) D3.out.fits D3.out.tfit)
 have heq := Be.cost_refl g1 g2
 have hoo : (ok != ok) = false := by simp
 have hoe : (ok == ok) = true := by simp
 clear hR
 obtain ⟨x0, x1, x2, x3⟩ := X3.out
 have l := L3.out
 go_wp2_with fail
 try rw [hV]
 clear hV
 refine (HGI.out _ E3.out).mono ?_
 rintro e4 wx4 ⟨rfl, hb⟩
 obtain ⟨w4, hV⟩ : ∃ V, wx4.alloc (.cells #[.int .i64 g1, .int .i64 g2] 33) = V := ⟨_, rfl⟩
 have hbb : Ext w3 w4 := by rw [← hV]; exact Ext.trans (show Ext w3 wx4 from hb) ((Ext.refl _).alloc _)
 have X4 := Lib.hid (box4 X3.out L3.out hbb)
 have L4 := Lib.hid (Nat.lt_of_lt_of_le L3.out hbb.size)
 have E4 := Lib.hid (E3.out.trans hbb)
 have S4 := Lib.hid hbb
 have Ga4 := Lib.hid (show w4.cell? ⟨wx4.heap.size, 0, none⟩ = some (.int .i64 g1) ∧ w4.cell? ⟨wx4.heap.size, 1, none⟩ = some (.int .i64 g2) from by rw [← hV]; exact ⟨by rw [World.cell?_alloc_new]; rfl, by rw [World.cell?_alloc_new]; rfl⟩)
 have Gl4 := Lib.hid (show wx4.heap.size < w4.heap.size by rw [← hV]; simp)
 clear hb hbb x0 x1 x2 x3 l
 obtain ⟨x0, x1, x2, x3⟩ := X4.out
 have l := L4.out
 go_wp2_with fail
 try rw [hV]
 clear hV
 refine (HGS.out _ E4.out).mono ?_
 rintro e5 wx5 ⟨rfl, hb⟩
 obtain ⟨w5, hV⟩ : ∃ V, wx5.alloc (.cells #[.int .i64 g1, .int .i64 g2] 33) = V := ⟨_, rfl⟩
 have hbb : Ext w4 w5 := by rw [← hV]; exact Ext.trans (show Ext w4 wx5 from hb) ((Ext.refl _).alloc _)
 have X5 := Lib.hid (box4 X4.out L4.out hbb)
 have L5 := Lib.hid (Nat.lt_of_lt_of_le L4.out hbb.size)
 have Ga5 := Lib.hid (Be.box2 Ga4.out Gl4.out hbb)
 have Gl5 := Lib.hid (Nat.lt_of_lt_of_le Gl4.out hbb.size)
 have E5 := Lib.hid (E4.out.trans hbb)
 have S5 := Lib.hid hbb
 have Wa5 := Lib.hid (show w5.cell? ⟨wx5.heap.size, 0, none⟩ = some (.int .i64 g1) ∧ w5.cell? ⟨wx5.heap.size, 1, none⟩ = some (.int .i64 g2) from by rw [← hV]; exact ⟨by rw [World.cell?_alloc_new]; rfl, by rw [World.cell?_alloc_new]; rfl⟩)
 have Wl5 := Lib.hid (show wx5.heap.size < w5.heap.size by rw [← hV]; simp)
 clear hb hbb x0 x1 x2 x3 l
 cases ok with
 | false =>
   clear hfc
   obtain ⟨ga0, ga1⟩ := Ga5.out
   have gl := Gl5.out
   obtain ⟨wa0, wa1⟩ := Wa5.out
   have wl := Wl5.out
   go_wp2_with fail
   try rw [hV]
   clear hV
   go_ret
   exact ⟨by first | rfl | simp, E1.out.trans (E3.out.trans E5.out)⟩
 | true =>
 obtain ⟨hg, hrt, hwv, hlR, hlB, hbc, ho, hl⟩ := hfc (by rfl)
 clear hfc
 rw [RnR.rnR_yes hrt] at HRD
 rw [hbc] at HBC
 obtain ⟨X, hX⟩ : ∃ X, Be.rnX i o n t k = X := ⟨_, rfl⟩
 have HRD := Lib.hid (show ∀ W : World, Ext w3 W → Calls Tryz.prog 18 #[.agg #[.int .i64 o, .int .i64 n, .string t, .slice a k.len c], .int .i64 i] W (DocO.Out W X true) from fun W e => by rw [← hX]; exact HRD.out W e)
 obtain ⟨r1, hr1⟩ : ∃ r, ov i X = r := ⟨_, rfl⟩
 obtain ⟨r2, hr2⟩ : ∃ r, (X.length : Int) = r := ⟨_, rfl⟩
 obtain ⟨b1, hb1⟩ : ∃ r, ov i (Be.beR i o n t k).1 = r := ⟨_, rfl⟩
 obtain ⟨b2, hb2⟩ : ∃ r, ((Be.beR i o n t k).1.length : Int) = r := ⟨_, rfl⟩
 have q1 := Be.ov_top (Cst.wv_bd hwv).1 hlR
 have q2 := (lv_len hlR).2
 have HCO := Lib.hid (Be.co_yes hwv hlR)
 rw [hX] at q1 q2 ho hl
 rw [hX] at HCO
 rw [hr1, hr2] at HCO
 rw [hr1, hb1] at ho
 rw [hr2, hb2] at hl
 rw [hr1] at q1
 rw [hb1, hb2] at HBC
 have u1 : IntKind.i64.wrap (b1 + g1) = r1 := by rw [IntKind.wrap_i64]; omega
 have u2 : IntKind.i64.wrap (b2 + g2) = r2 := by rw [IntKind.wrap_i64]; omega
 have v1 : (r1 == r1) = true := by simp
 have v2 : (r2 == r2) = true := by simp
 obtain ⟨ML, hML⟩ : ∃ m, X.length = m := ⟨_, rfl⟩
 have HML := Lib.hid hML
 have HG := Lib.hid hg
 clear hbc hX hr1 hr2 hb1 hb2 q1 q2 ho hl hlR hlB hrt hwv hML hg
 obtain ⟨x0, x1, x2, x3⟩ := X5.out
 have l := L5.out
 obtain ⟨ga0, ga1⟩ := Ga5.out
 have gl := Gl5.out
 obtain ⟨wa0, wa1⟩ := Wa5.out
 have wl := Wl5.out
 go_wp2_with fail
 try rw [hV]
 clear hV
 refine (HRD.out _ E5.out).mono ?_
 rintro e6 w6 ⟨pa, ca, rfl, hla, hb⟩
 have hbb : Ext w5 w6 := hb
 have X6 := Lib.hid (box4 X5.out L5.out hbb)
 have L6 := Lib.hid (Nat.lt_of_lt_of_le L5.out hbb.size)
 have Ga6 := Lib.hid (Be.box2 Ga5.out Gl5.out hbb)
 have Gl6 := Lib.hid (Nat.lt_of_lt_of_le Gl5.out hbb.size)
 have Wa6 := Lib.hid (Be.box2 Wa5.out Wl5.out hbb)
 have Wl6 := Lib.hid (Nat.lt_of_lt_of_le Wl5.out hbb.size)
 have E6 := Lib.hid (E5.out.trans hbb)
 have S6 := Lib.hid hbb
 have KA := Lib.hid hla
 clear hla
 rw [HML.out]
 clear hb hbb x0 x1 x2 x3 l ga0 ga1 gl wa0 wa1 wl
 go_wp2_with fail
 have HCA := Lib.hid (fun (W : World) (e : Ext w6 W) => Be.costAt (KA.out.ext e) i)
 rw [HCO.out, HML.out] at HCA
 refine (HCA.out _ (Ext.refl w6)).mono ?_
 rintro e7 wx7 ⟨rfl, hb⟩
 obtain ⟨w7, hV⟩ : ∃ V, wx7.alloc (.cells #[.int .i64 r1, .int .i64 r2] 33) = V := ⟨_, rfl⟩
 have hbb : Ext w6 w7 := by rw [← hV]; exact Ext.trans (show Ext w6 wx7 from hb) ((Ext.refl _).alloc _)
 have X7 := Lib.hid (box4 X6.out L6.out hbb)
 have L7 := Lib.hid (Nat.lt_of_lt_of_le L6.out hbb.size)
 have Ga7 := Lib.hid (Be.box2 Ga6.out Gl6.out hbb)
 have Gl7 := Lib.hid (Nat.lt_of_lt_of_le Gl6.out hbb.size)
 have Wa7 := Lib.hid (Be.box2 Wa6.out Wl6.out hbb)
 have Wl7 := Lib.hid (Nat.lt_of_lt_of_le Wl6.out hbb.size)
 have E7 := Lib.hid (E6.out.trans hbb)
 have S7 := Lib.hid hbb
 have Ca7 := Lib.hid (show w7.cell? ⟨wx7.heap.size, 0, none⟩ = some (.int .i64 r1) ∧ w7.cell? ⟨wx7.heap.size, 1, none⟩ = some (.int .i64 r2) from by rw [← hV]; exact ⟨by rw [World.cell?_alloc_new]; rfl, by rw [World.cell?_alloc_new]; rfl⟩)
 have Cl7 := Lib.hid (show wx7.heap.size < w7.heap.size by rw [← hV]; simp)
 clear hb hbb 
 obtain ⟨x0, x1, x2, x3⟩ := X7.out
 have l := L7.out
 go_wp2_with fail
 try rw [hV]
 clear hV
 refine (HBC.out _ E7.out).mono ?_
 rintro e8 wx8 ⟨rfl, hb⟩
 obtain ⟨w8, hV⟩ : ∃ V, wx8.alloc (.cells #[.int .i64 b1, .int .i64 b2] 33) = V := ⟨_, rfl⟩
 have hbb : Ext w7 w8 := by rw [← hV]; exact Ext.trans (show Ext w7 wx8 from hb) ((Ext.refl _).alloc _)
 have X8 := Lib.hid (box4 X7.out L7.out hbb)
 have L8 := Lib.hid (Nat.lt_of_lt_of_le L7.out hbb.size)
 have Ga8 := Lib.hid (Be.box2 Ga7.out Gl7.out hbb)
 have Gl8 := Lib.hid (Nat.lt_of_lt_of_le Gl7.out hbb.size)
 have Wa8 := Lib.hid (Be.box2 Wa7.out Wl7.out hbb)
 have Wl8 := Lib.hid (Nat.lt_of_lt_of_le Wl7.out hbb.size)
 have Ca8 := Lib.hid (Be.box2 Ca7.out Cl7.out hbb)
 have Cl8 := Lib.hid (Nat.lt_of_lt_of_le Cl7.out hbb.size)
 have E8 := Lib.hid (E7.out.trans hbb)
 have S8 := Lib.hid hbb
 have Ba8 := Lib.hid (show w8.cell? ⟨wx8.heap.size, 0, none⟩ = some (.int .i64 b1) ∧ w8.cell? ⟨wx8.heap.size, 1, none⟩ = some (.int .i64 b2) from by rw [← hV]; exact ⟨by rw [World.cell?_alloc_new]; rfl, by rw [World.cell?_alloc_new]; rfl⟩)
 have Bl8 := Lib.hid (show wx8.heap.size < w8.heap.size by rw [← hV]; simp)
 clear hb hbb x0 x1 x2 x3 l
 rcases HG.out with hg | ⟨h0, hg⟩
 ·have hgd : decide (0 < g1) = true := decide_eq_true hg
  obtain ⟨ga0, ga1⟩ := Ga8.out
  have gl := Gl8.out
  obtain ⟨ca0, ca1⟩ := Ca8.out
  have cl := Cl8.out
  obtain ⟨ba0, ba1⟩ := Ba8.out
  have bl := Bl8.out
  go_wp2_with fail
  try rw [hV]
  clear hV
  go_ret
  exact ⟨by first | rfl | simp, E1.out.trans (E3.out.trans E8.out)⟩
 ·have hgd : decide (0 ≤ g2) = true := decide_eq_true hg
  have hg0 : decide (0 < g1) = false := decide_eq_false (by omega)
  have hg1 : (g1 == 0) = true := by rw [h0]; rfl
  have hg2 : ¬ (0 < g1) := by omega
  clear h0
  obtain ⟨ga0, ga1⟩ := Ga8.out
  have gl := Gl8.out
  obtain ⟨ca0, ca1⟩ := Ca8.out
  have cl := Cl8.out
  obtain ⟨ba0, ba1⟩ := Ba8.out
  have bl := Bl8.out
  go_wp2_with fail
  try rw [hV]
  clear hV
  go_ret
  exact ⟨by first | rfl | simp, E1.out.trans (E3.out.trans E8.out)⟩
set_option maxHeartbeats 400000 in
theorem walk_big (w : World) (a0 : Option Addr) (len0 cap0 : Nat) (hl0 : 1048576 < len0) :
  Calls Tryz.prog 4 #[.slice a0 len0 cap0] w fun e w' => e = .returned (.bool true) ∧ Ext w w' := by
 have h1 : (1048576 : Int) < (len0 : Int) := by omega
 go_enter Tryz.func4, Tryz.ntmps4
 go_wp2_with fail
 go_ret
 exact ⟨rfl, Ext.refl w⟩
theorem walk (w : World) (a0 : Option Addr) (len0 cap0 : Nat) (hb0 : Bytes w a0 len0) (hlc0 : len0 ≤ cap0) (hcm0 : cap0 ≤ maxLen) :
  Calls Tryz.prog 4 #[.slice a0 len0 cap0] w fun e w' => e = .returned (.bool true) ∧ Below w.heap.size w w' := by
 by_cases h : 1048576 < len0
 ·exact walk_big w a0 len0 cap0 h
 ·exact walk_good w a0 len0 cap0 hb0 hlc0 hcm0 (by omega)
theorem lifted (os : Os) (started : os.Started) (H : Type) (enc : TypeId × Value → H) :
  ReturnsInHanded {} Tryz.checked os 4 .any (Rows.fnGreedyGapSpec.pre6 enc Tryz.prog Tryz.f4 Rows.fnGreedyGapRow.domain false) (Rows.fnGreedyGapSpec.post enc Tryz.prog Tryz.f4 false true false false) := by
 refine returnsInHanded_of_change (C := Tryz.checked) Facts.own started (by kernel_rfl) Tryz.func4
  (ChangeSpec.witness6 (enc := enc) (C := Tryz.checked) false ⟨#[], #[.slice none 0 0], []⟩ 8 (by kernel_rfl) (by kernel_rfl) (by kernel_rfl) (by kernel_rfl)) ?_
 intro W base args ds gs before hval0 hW hcnd0 _
 clear hcnd0
 have hval : ∀ (j : Nat) t v, Tryz.f4.params[j]? = some t → args[j]? = some v → Value.okWide Tryz.prog W .any base t v := hval0
 have hW' := hW
 obtain ⟨p, q, hA0, hV, rfl, hfz, hnd⟩ := hW
 have hA : DataW.TrodAll enc Tryz.prog W 0 (fun _ => true) true Tryz.f4.params.toList args.toList ds p := hA0
 rw [Tryz.params4] at hA hval
 obtain ⟨v0, d0, rfl, rfl, h0⟩ := trodAll_one hA
 obtain ⟨rfl, rfl⟩ := trodVars_none hV
 obtain ⟨a0, len0, cap0, rfl⟩ := okWide_slice Tryz.underlying22 (hval 0 22 v0 rfl rfl)
 clear hA0 hval0
 simp only [List.append_nil] at hW'
 have hlt : ∀ x ∈ p, x.block < W.heap.size := fun x hx => by simpa using hW'.lt x hx
 obtain ⟨hb0, hlc0, hcm0⟩ := opened h0
 refine (walk W a0 len0 cap0 hb0 hlc0 hcm0).mono fun e W' ⟨he, hb⟩ => ?_
 subst he
 refine ⟨_, rfl, [_], [], p, [], p, [], hW', trodAll_mk1 (shut_bool Tryz.underlying4 _), ?_, rfl, hb.frame _, fun h => by cases h⟩
 exact trodAll_mk1 (Below.trod Facts.laidOut (by kernel_rfl) (of_decide_eq_true (by kernel_rfl)) h0 hb hlt)
theorem named : Tryz.prog.funcNamed Rows.fnGreedyGapRow.func = some 4 := by kernel_rfl
theorem closed : joinedFacts Tryz.prog 4 Tryz.f4 Rows.fnGreedyGapSpec Rows.fnGreedyGapRow = true :=
 Facts.closed_of rfl rfl rfl rfl (h28b := rfl) (by kernel_rfl) (by kernel_rfl) (by kernel_rfl) (by kernel_rfl) (by kernel_rfl) (by kernel_rfl) (by kernel_rfl) (by kernel_rfl) (by kernel_rfl) (by kernel_rfl) (by kernel_rfl) (by kernel_rfl) (by kernel_rfl) (by kernel_rfl) (by kernel_rfl) (by kernel_rfl) (by kernel_rfl) (by kernel_rfl) (by kernel_rfl) (by kernel_rfl) (by kernel_rfl) (by kernel_rfl) (by kernel_rfl) (by kernel_rfl)
theorem instanced : Tryz.f4.isInstance Tryz.prog Rows.fnGreedyGapRow.origin Rows.fnGreedyGapRow.targs := of_decide_eq_true (by kernel_rfl)
theorem wrapped : Tryz.f4.isWrapper Tryz.prog Rows.fnGreedyGapRow.wrapper Rows.fnGreedyGapRow.mainSum := by
 unfold Func.isWrapper
 rw [if_neg (of_decide_eq_false (by kernel_rfl))]
 exact ⟨rfl, rfl⟩
theorem holds : Rows.FnGreedyGapSaid :=
 OpenClaim.holds_of_wide 4 Tryz.f4 rfl rfl rfl rfl rfl rfl rfl ⟨rfl, rfl, rfl, rfl, rfl⟩ rfl rfl rfl rfl rfl named Tryz.func4 closed instanced wrapped
  (fun os started H enc _ => lifted os started H enc)
end Go.Proofs.YtclifbjnooilmaaGreat.lawGreedyGap
