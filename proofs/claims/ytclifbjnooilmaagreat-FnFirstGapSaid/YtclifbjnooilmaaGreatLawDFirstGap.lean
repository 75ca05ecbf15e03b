import Derived.Test.YtclifbjnooilmaaGreatGgX
import Derived.Test.YtclifbjnooilmaaGreatDr5b
import Derived.Test.YtclifbjnooilmaaGreatFacts
import Derived.Deep.DeepCutAuto
/-
 Gaps are first: the law FnFirstGap returns true for whatever draws, and its argument reads as it did. No condition of ours.
-/
set_option linter.unusedVariables false
set_option linter.unusedSimpArgs false
set_option maxRecDepth 100000
set_option maxHeartbeats 6400000
namespace Go.Proofs.YtclifbjnooilmaaGreat.lawFirstGap
open Go.ChangeShapes Go.WideShapes Go.ChangeAt Go.RowKit P1 Draw6 LawC CntC DocK CatD
theorem walk_good (w : World) (a0 : Option Addr) (len0 cap0 : Nat) (hb0 : Bytes w a0 len0) (hlc0 : len0 ≤ cap0) (hcm0 : cap0 ≤ maxLen) (hl0 : len0 ≤ 1048576) :
  Calls Tryz.prog 5 #[.slice a0 len0 cap0] w fun e w' => e = .returned (.bool true) ∧ Ext w w' := by
 have HD0 := Lib.hid (Dr5.drawFirstGap w a0 len0 cap0 hb0 hlc0 hcm0)
 clear hb0
 unfold maxLen at hcm0
 go_enter Tryz.func5, Tryz.ntmps5
 go_wp2_with fail
 refine HD0.out.mono ?_
 rintro e1 w1 ⟨o, n, t, k, a, c, fs, rfl, hc, hsz, hsub, hfr, hb1⟩
 obtain ⟨w3, hV⟩ : ∃ V, w1.alloc (.cells #[.int .i64 o, .int .i64 n, .string t, .slice a k.len c] 25) = V := ⟨_, rfl⟩
 have he : Ext w1 w3 := by rw [← hV]; exact (Ext.refl _).alloc _
 have X3 := Lib.hid (show w3.cell? ⟨w1.heap.size, 0, none⟩ = some (.int .i64 o) ∧ w3.cell? ⟨w1.heap.size, 1, none⟩ = some (.int .i64 n) ∧ w3.cell? ⟨w1.heap.size, 2, none⟩ = some (.string t) ∧ w3.cell? ⟨w1.heap.size, 3, none⟩ = some (.slice a k.len c) from by rw [← hV]; exact box_new w1 25 (.int .i64 o) (.int .i64 n) (.string t) (.slice a k.len c))
 have L3 := Lib.hid (show w1.heap.size < w3.heap.size by rw [← hV]; simp)
 have D3 := Lib.hid (show DocK.Doc0 w3 n t k a c fs from (DocK.Doc0.mk hsub (fun c hc => (hfr.2 c hc).2) hc (by omega)).ext he)
 have E1 := Lib.hid (show Ext w w3 from Ext.trans (show Ext w w1 from hb1) he)
 have E3 := Lib.hid (Ext.refl w3)
 clear he hsub hfr hb1 hc
 obtain ⟨⟨J, ok⟩, hF⟩ : ∃ R, Be.fgR o n t k = R := ⟨_, rfl⟩
 have hno : ok = false → J = 0 := by intro h; rw [h] at hF; exact Be.fgR_fail hF
 have hyes : ok = true → ∃ j : Nat, J = (j : Int) ∧ j ≤ 200 ∧ It.toldD o n t k = true ∧ (∀ q, q < j → (Be.ggR (q : Int) o n t k).1 = 0 ∧ (Be.ggR (q : Int) o n t k).2.1 = 0) ∧ ¬ ((Be.ggR (j : Int) o n t k).1 = 0 ∧ (Be.ggR (j : Int) o n t k).2.1 = 0) := by
  intro h
  rw [h] at hF
  obtain ⟨h1, j, h2, h3, h4, h5⟩ := Be.fgR_yes hF
  exact ⟨j, h2, h3, h1, h4, h5⟩
 have HFI := Lib.hid (show ∀ W : World, Ext w3 W → Calls Tryz.prog 25 #[.agg #[.int .i64 o, .int .i64 n, .string t, .slice a k.len c]] W (fun e w' => e = .returned (.tuple #[.int .i64 J, .bool ok]) ∧ Ext W w') from fun W e => by have h := Be.implFirstGap W o n t k a c fs (D3.out.ext e).sub (D3.out.ext e).ok D3.out.cap_le (by have := D3.out.size; omega) D3.out.fits D3.out.tfit; rw [hF] at h; exact h)
 have HFS := Lib.hid (show ∀ W : World, Ext w3 W → Calls Tryz.prog 26 #[.agg #[.int .i64 o, .int .i64 n, .string t, .slice a k.len c]] W (fun e w' => e = .returned (.tuple #[.int .i64 J, .bool ok]) ∧ Ext W w') from fun W e => by have h := Be.specFirstGap W o n t k a c fs (D3.out.ext e).sub (D3.out.ext e).lt D3.out.cap_le (by have := D3.out.size; omega) D3.out.fits D3.out.tfit; rw [hF] at h; exact h)
 have HGG := Lib.hid (show It.toldD o n t k = true → ∀ (W : World) (j : Nat), j ≤ 200 → Ext w3 W → Calls Tryz.prog 21 #[.agg #[.int .i64 o, .int .i64 n, .string t, .slice a k.len c], .int .i64 (j : Int)] W fun e w' => e = .returned (.tuple #[.agg #[.int .i64 (Be.ggR (j : Int) o n t k).1, .int .i64 (Be.ggR (j : Int) o n t k).2.1], .bool true]) ∧ Ext W w' from fun hto W j hj e => by have h := Be.implGreedyGap (j : Int) W o n t k a c fs (D3.out.ext e).sub (D3.out.ext e).ok D3.out.cap_le (by have := D3.out.size; omega) D3.out.fits D3.out.tfit; unfold Be.CoOut at h; rw [Be.gg_told hto hj] at h; exact h)
 have hoo : (ok != ok) = false := by simp
 have hoe : (ok == ok) = true := by simp
 have hjj : (J != J) = false := by simp
 have hje : (J == J) = true := by simp
 clear hF
 obtain ⟨x0, x1, x2, x3⟩ := X3.out
 have l := L3.out
 go_wp2_with fail
 try rw [hV]
 clear hV
 refine (HFI.out _ E3.out).mono ?_
 rintro e4 w4 ⟨rfl, hb⟩
 have hbb : Ext w3 w4 := hb
 have X4 := Lib.hid (box4 X3.out L3.out hbb)
 have L4 := Lib.hid (Nat.lt_of_lt_of_le L3.out hbb.size)
 have E4 := Lib.hid (E3.out.trans hbb)
 have S4 := Lib.hid hbb
 clear hb hbb x0 x1 x2 x3 l
 obtain ⟨x0, x1, x2, x3⟩ := X4.out
 have l := L4.out
 go_wp2_with fail
 refine (HFS.out _ E4.out).mono ?_
 rintro e5 w5 ⟨rfl, hb⟩
 have hbb : Ext w4 w5 := hb
 have X5 := Lib.hid (box4 X4.out L4.out hbb)
 have L5 := Lib.hid (Nat.lt_of_lt_of_le L4.out hbb.size)
 have E5 := Lib.hid (E4.out.trans hbb)
 have S5 := Lib.hid hbb
 clear hb hbb x0 x1 x2 x3 l
 cases ok with
 | false =>
   have hj := hno (by rfl)
   subst hj
   clear hno hyes
   go_wp2_with fail
   go_ret
   exact ⟨by first | rfl | simp, E1.out.trans (E3.out.trans E5.out)⟩
 | true =>
 obtain ⟨j, hJ, hj, hto, hlt, hne⟩ := hyes (by rfl)
 subst hJ
 have HG1 := Lib.hid (HGG.out hto)
 have HLT := Lib.hid hlt
 have HNE := Lib.hid hne
 clear hno hyes hto hlt hne HGG
 have j0 : (0 : Int) ≤ (j : Int) := Int.natCast_nonneg _
 obtain ⟨x0, x1, x2, x3⟩ := X5.out
 have l := L5.out
 go_wp2_with fail
 go_loopw [8] (fun v wr => ∃ q : Nat, q ≤ j ∧ v = .int .i64 (q : Int) ∧ Ext w5 wr) (fun v _ => j - (intOf v).toNat)
 case atStart => exact ⟨0, by omega, rfl, Ext.refl _⟩
 case round =>
  obtain ⟨q, hq, rfl, hext⟩ := hrel
  have q0 : (0 : Int) ≤ (q : Int) := Int.natCast_nonneg _
  have R9 := Lib.hid hext
  clear x0 x1 x2 x3 l
  obtain ⟨x0, x1, x2, x3⟩ := box4 X5.out L5.out hext
  have l := Nat.lt_of_lt_of_le L5.out hext.size
  clear hext
  by_cases hqm : q < j
  ·have q1 : (q : Int) < (j : Int) := by omega
   obtain ⟨z1, z2⟩ := HLT.out q hqm
   have HGQ := Lib.hid (HG1.out wr q (by omega) (E5.out.trans R9.out))
   obtain ⟨u1, hu1⟩ : ∃ r, (Be.ggR (q : Int) o n t k).1 = r := ⟨_, rfl⟩
   obtain ⟨u2, hu2⟩ : ∃ r, (Be.ggR (q : Int) o n t k).2.1 = r := ⟨_, rfl⟩
   rw [hu1] at z1 HGQ
   rw [hu2] at z2 HGQ
   have heq := Be.cost_is z1 z2
   clear z1 z2 hu1 hu2
   go_wp2_with fail
   refine HGQ.out.mono ?_
   rintro e10 wx10 ⟨rfl, hb⟩
   obtain ⟨w10, hV⟩ : ∃ V, wx10.alloc (.cells #[.int .i64 u1, .int .i64 u2] 33) = V := ⟨_, rfl⟩
   have hbb : Ext wr w10 := by rw [← hV]; exact Ext.trans (show Ext wr wx10 from hb) ((Ext.refl _).alloc _)
   obtain ⟨k0, k1⟩ : w10.cell? ⟨wx10.heap.size, 0, none⟩ = some (.int .i64 u1) ∧ w10.cell? ⟨wx10.heap.size, 1, none⟩ = some (.int .i64 u2) := by rw [← hV]; exact ⟨by rw [World.cell?_alloc_new]; rfl, by rw [World.cell?_alloc_new]; rfl⟩
   have kl : wx10.heap.size < w10.heap.size := by rw [← hV]; simp
   have R10 := Lib.hid (R9.out.trans hbb)
   clear hb hbb x0 x1 x2 x3 l
   go_wp2_with fail
   try rw [hV]
   clear hV
   go_roundw
   case rel => exact ⟨q + 1, by omega, by go_num, R10.out⟩
   case measure => simp [intOf]; omega
  ·obtain rfl : q = j := by omega
   have HGQ := Lib.hid (HG1.out wr q hj (E5.out.trans R9.out))
   obtain ⟨u1, hu1⟩ : ∃ r, (Be.ggR (q : Int) o n t k).1 = r := ⟨_, rfl⟩
   obtain ⟨u2, hu2⟩ : ∃ r, (Be.ggR (q : Int) o n t k).2.1 = r := ⟨_, rfl⟩
   have hne := HNE.out
   rw [hu1, hu2] at HGQ hne
   have heq := Be.cost_not hne
   clear hu1 hu2 hne
   go_wp2_with fail
   refine HGQ.out.mono ?_
   rintro e10 wx10 ⟨rfl, hb⟩
   obtain ⟨w10, hV⟩ : ∃ V, wx10.alloc (.cells #[.int .i64 u1, .int .i64 u2] 33) = V := ⟨_, rfl⟩
   have hbb : Ext wr w10 := by rw [← hV]; exact Ext.trans (show Ext wr wx10 from hb) ((Ext.refl _).alloc _)
   obtain ⟨k0, k1⟩ : w10.cell? ⟨wx10.heap.size, 0, none⟩ = some (.int .i64 u1) ∧ w10.cell? ⟨wx10.heap.size, 1, none⟩ = some (.int .i64 u2) := by rw [← hV]; exact ⟨by rw [World.cell?_alloc_new]; rfl, by rw [World.cell?_alloc_new]; rfl⟩
   have kl : wx10.heap.size < w10.heap.size := by rw [← hV]; simp
   have R10 := Lib.hid (R9.out.trans hbb)
   clear hb hbb x0 x1 x2 x3 l
   go_wp2_with fail
   try rw [hV]
   clear hV
   go_ret
   exact ⟨by first | rfl | simp, E1.out.trans (E3.out.trans (E5.out.trans R10.out))⟩
set_option maxHeartbeats 400000 in
theorem walk_big (w : World) (a0 : Option Addr) (len0 cap0 : Nat) (hl0 : 1048576 < len0) :
  Calls Tryz.prog 5 #[.slice a0 len0 cap0] w fun e w' => e = .returned (.bool true) ∧ Ext w w' := by
 have h1 : (1048576 : Int) < (len0 : Int) := by omega
 go_enter Tryz.func5, Tryz.ntmps5
 go_wp2_with fail
 go_ret
 exact ⟨rfl, Ext.refl w⟩
theorem walk (w : World) (a0 : Option Addr) (len0 cap0 : Nat) (hb0 : Bytes w a0 len0) (hlc0 : len0 ≤ cap0) (hcm0 : cap0 ≤ maxLen) :
  Calls Tryz.prog 5 #[.slice a0 len0 cap0] w fun e w' => e = .returned (.bool true) ∧ Below w.heap.size w w' := by
 by_cases h : 1048576 < len0
 ·exact walk_big w a0 len0 cap0 h
 ·exact walk_good w a0 len0 cap0 hb0 hlc0 hcm0 (by omega)
theorem lifted (os : Os) (started : os.Started) (H : Type) (enc : TypeId × Value → H) :
  ReturnsInHanded {} Tryz.checked os 5 .any (Rows.fnFirstGapSpec.pre6 enc Tryz.prog Tryz.f5 Rows.fnFirstGapRow.domain false) (Rows.fnFirstGapSpec.post enc Tryz.prog Tryz.f5 false true false false) := by
 refine returnsInHanded_of_change (C := Tryz.checked) Facts.own started (by kernel_rfl) Tryz.func5
  (ChangeSpec.witness6 (enc := enc) (C := Tryz.checked) false ⟨#[], #[.slice none 0 0], []⟩ 8 (by kernel_rfl) (by kernel_rfl) (by kernel_rfl) (by kernel_rfl)) ?_
 intro W base args ds gs before hval0 hW hcnd0 _
 clear hcnd0
 have hval : ∀ (j : Nat) t v, Tryz.f5.params[j]? = some t → args[j]? = some v → Value.okWide Tryz.prog W .any base t v := hval0
 have hW' := hW
 obtain ⟨p, q, hA0, hV, rfl, hfz, hnd⟩ := hW
 have hA : DataW.TrodAll enc Tryz.prog W 0 (fun _ => true) true Tryz.f5.params.toList args.toList ds p := hA0
 rw [Tryz.params5] at hA hval
 obtain ⟨v0, d0, rfl, rfl, h0⟩ := trodAll_one hA
 obtain ⟨rfl, rfl⟩ := trodVars_none hV
 obtain ⟨a0, len0, cap0, rfl⟩ := okWide_slice Tryz.underlying22 (hval 0 22 v0 rfl rfl)
 clear hA0 hval0
 simp only [List.append_nil] at hW'
 have hlt : ∀ x ∈ p, x.block < W.heap.size := fun x hx => by simpa using hW'.lt x hx
 obtain ⟨hb0, hlc0, hcm0⟩ := opened h0
 refine (walk W a0 len0 cap0 hb0 hlc0 hcm0).mono fun e W' ⟨he, hb⟩ => ?_
 subst he
 refine ⟨_, rfl, [_], [], p, [], p, [], hW', trodAll_mk1 (shut_bool Tryz.underlying4 _), ?_, rfl, hb.frame _, fun h => by cases h⟩
 exact trodAll_mk1 (Below.trod Facts.laidOut (by kernel_rfl) (of_decide_eq_true (by kernel_rfl)) h0 hb hlt)
theorem named : Tryz.prog.funcNamed Rows.fnFirstGapRow.func = some 5 := by kernel_rfl
theorem closed : joinedFacts Tryz.prog 5 Tryz.f5 Rows.fnFirstGapSpec Rows.fnFirstGapRow = true :=
 Facts.closed_of rfl rfl rfl rfl (h28b := rfl) (by kernel_rfl) (by kernel_rfl) (by kernel_rfl) (by kernel_rfl) (by kernel_rfl) (by kernel_rfl) (by kernel_rfl) (by kernel_rfl) (by kernel_rfl) (by kernel_rfl) (by kernel_rfl) (by kernel_rfl) (by kernel_rfl) (by kernel_rfl) (by kernel_rfl) (by kernel_rfl) (by kernel_rfl) (by kernel_rfl) (by kernel_rfl) (by kernel_rfl) (by kernel_rfl) (by kernel_rfl) (by kernel_rfl) (by kernel_rfl)
theorem instanced : Tryz.f5.isInstance Tryz.prog Rows.fnFirstGapRow.origin Rows.fnFirstGapRow.targs := of_decide_eq_true (by kernel_rfl)
theorem wrapped : Tryz.f5.isWrapper Tryz.prog Rows.fnFirstGapRow.wrapper Rows.fnFirstGapRow.mainSum := by
 unfold Func.isWrapper
 rw [if_neg (of_decide_eq_false (by kernel_rfl))]
 exact ⟨rfl, rfl⟩
theorem holds : Rows.FnFirstGapSaid :=
 OpenClaim.holds_of_wide 5 Tryz.f5 rfl rfl rfl rfl rfl rfl rfl ⟨rfl, rfl, rfl, rfl, rfl⟩ rfl rfl rfl rfl rfl named Tryz.func5 closed instanced wrapped
  (fun os started H enc _ => lifted os started H enc)
end Go.Proofs.YtclifbjnooilmaaGreat.lawFirstGap
