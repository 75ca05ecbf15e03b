import Derived.Test.YtjcaiecapapceaaDr7
import Derived.Test.YtjcaiecapapceaaSmX
import Derived.Test.YtjcaiecapapceaaRqG
import Derived.Test.YtjcaiecapapceaaLsY
import Derived.Test.YtjcaiecapapceaaFacts
import Derived.Deep.DeepCutAuto
/-
 Without the groups that do not matter, a document is rendered in the same way: the law FnDropGroups returns true for whatever draws, and its argument reads as it did. No condition of ours.
-/
set_option linter.unusedVariables false
set_option linter.unusedSimpArgs false
set_option maxRecDepth 100000
set_option maxHeartbeats 6400000
namespace Go.Proofs.Ytjcaiecapapceaa.lawDropGroups
open Go.ChangeShapes Go.WideShapes Go.ChangeAt Go.RowKit P1 Draw6 LawC CntC DocK CatD
theorem walk_good (w : World) (a0 : Option Addr) (len0 cap0 : Nat) (hb0 : Bytes w a0 len0) (hlc0 : len0 ≤ cap0) (hcm0 : cap0 ≤ maxLen) (hl0 : len0 ≤ 1048576) :
  Calls Try.prog 4 #[.slice a0 len0 cap0] w fun e w' => e = .returned (.bool true) ∧ Ext w w' := by
 have HD0 := Lib.hid (Dr7.drawDropGroups w a0 len0 cap0 hb0 hlc0 hcm0)
 clear hb0
 unfold maxLen at hcm0
 go_enter Try.func4, Try.ntmps4
 go_wp2_with fail
 refine HD0.out.mono ?_
 rintro e1 w1 ⟨o, n, t, k, a, c, fs, rfl, hc, hsz, hsub, hfr, hb1⟩
 have D1 := Lib.hid (show DocK.Doc0 w1 n t k a c fs from ⟨hsub, fun c hc => (hfr.2 c hc).2, hc, by omega⟩)
 have E1 := Lib.hid (show Ext w w1 from hb1)
 clear hsub hfr hb1 hc
 have hpush := fun (h : (Nf.grRes o n t k).1 = true) {o2 n2 : Int} {t2 : ByteArray} {k2 : F} (h2 : Nf.grRes o n t k = (true, o2, n2, t2, k2)) => Rq.dg_rn h2
 obtain ⟨⟨ok, o2, n2, t2, k2⟩, hR⟩ : ∃ R, Nf.grRes o n t k = R := ⟨_, rfl⟩
 have hsz3 : t2.size + k2.size ≤ 100000 := Nf.ch_tiny hR
 have hsz2 : t2.size + k2.size ≤ 1048576 := by omega
 have HIM := Lib.hid (show ∀ W : World, Ext w1 W → Calls Try.prog 14 #[.agg #[.int .i64 o, .int .i64 n, .string t, .slice a k.len c]] W (DocRes W (ok, o2, n2, t2, k2)) from fun W e => by
  have := Nf.implDropGroups W o n t k a c fs (D1.out.ext e).sub (D1.out.ext e).ok D1.out.cap_le (by omega)
  rw [hR] at this
  exact this)
 have HSP := Lib.hid (show ∀ W : World, Ext w1 W → Calls Try.prog 15 #[.agg #[.int .i64 o, .int .i64 n, .string t, .slice a k.len c]] W (DocRes W (ok, o2, n2, t2, k2)) from fun W e => by
  have := Nf.specDropGroups W o n t k a c fs (D1.out.ext e).sub (D1.out.ext e).ok D1.out.cap_le (by omega)
  rw [hR] at this
  exact this)
 clear hsz
 go_wp2_with fail
 refine (HIM.out _ ((Ext.refl w1).alloc _)).mono ?_
 rintro e2 w2 ⟨a2, c2, f2, rfl, hc2, hs2, hfr2, hb⟩
 have e2 : Ext w1 w2 := ((Ext.refl w1).alloc _).trans hb
 have X2 := Lib.hid (box4 (box_new w1 _ _ _ _ _) (by simp) hb)
 have L2 := Lib.hid (show w1.heap.size < w2.heap.size from by have := hb.size; simp at this; omega)
 have D2 := Lib.hid (D1.out.ext e2)
 have N2 := Lib.hid (show DocK.Doc0 w2 n2 t2 k2 a2 c2 f2 from ⟨hs2, fun c hc => (hfr2.2 c hc).2, hc2, hsz3⟩)
 have E2 := Lib.hid e2
 clear hb hc2 hs2 hfr2 e2
 obtain ⟨x0, x1, x2, x3⟩ := X2.out
 have l := L2.out
 go_wp2_with fail
 refine (HSP.out _ (E2.out.trans ((Ext.refl w2).alloc _))).mono ?_
 rintro e3 w3 ⟨a3, c3, f3, rfl, hc3, hs3, hfr3, hb⟩
 have e3 : Ext w2 w3 := ((Ext.refl w2).alloc _).trans hb
 have X3 := Lib.hid (box4 X2.out L2.out e3)
 have Y3 := Lib.hid (box4 (box_new w2 _ _ _ _ _) (by simp) hb)
 have L3 := Lib.hid (Nat.lt_of_lt_of_le L2.out e3.size)
 have M3 := Lib.hid (show w2.heap.size < w3.heap.size from by have := hb.size; simp at this; omega)
 have D3 := Lib.hid (D2.out.ext e3)
 have N3 := Lib.hid (N2.out.ext e3)
 have W3 := Lib.hid (show DocK.Doc0 w3 n2 t2 k2 a3 c3 f3 from ⟨hs3, fun c hc => (hfr3.2 c hc).2, hc3, hsz3⟩)
 have E3 := Lib.hid (E2.out.trans e3)
 have HSAME := Lib.hid (show ∀ W : World, Ext w3 W → Calls Try.prog 16 #[.agg #[.int .i64 o2, .int .i64 n2, .string t2, .slice a2 k2.len c2], .agg #[.int .i64 o2, .int .i64 n2, .string t2, .slice a3 k2.len c3]] W fun e w' => e = .returned (.bool true) ∧ Ext W w' from fun W e => by
  have := NfM.same (N3.out.ext e) (W3.out.ext e) o2 o2
  rw [show sameD o2 n2 t2 k2 o2 n2 t2 k2 = true by rw [sameD_yes, F.same_self]] at this
  exact this)
 have hvv : (ok != ok) = false := by simp
 have hvw : (ok == ok) = true := by simp
 clear hb hc3 hs3 hfr3 e3 x0 x1 x2 x3 l hsz3
 obtain ⟨x0, x1, x2, x3⟩ := X3.out
 obtain ⟨y0, y1, y2, y3⟩ := Y3.out
 have l := L3.out
 have m := M3.out
 cases ok with
 | false =>
   go_wp2_with fail
   refine (HSAME.out _ ((Ext.refl w3).alloc _)).mono ?_
   rintro e4 w4 ⟨rfl, hb⟩
   have e4 : Ext w3 w4 := ((Ext.refl w3).alloc _).trans hb
   have Z4 := Lib.hid (box4 (box_new w3 _ _ _ _ _) (by simp) hb)
   have Y4 := Lib.hid (box4 Y3.out M3.out e4)
   have E4 := Lib.hid e4
   have M4 := Lib.hid (Nat.lt_of_lt_of_le M3.out e4.size)
   have P4 := Lib.hid (show w3.heap.size < w4.heap.size from by have := hb.size; simp at this; omega)
   clear hb e4 x0 x1 x2 x3 y0 y1 y2 y3 l m
   obtain ⟨y0, y1, y2, y3⟩ := Y4.out
   obtain ⟨z0, z1, z2, z3⟩ := Z4.out
   have m := M4.out
   have p := P4.out
   go_wp2_with fail
   refine (HSAME.out _ E4.out).mono ?_
   rintro e5 w5 ⟨rfl, hb⟩
   have E5 := Lib.hid (E4.out.trans hb)
   clear hb y0 y1 y2 y3 z0 z1 z2 z3 m p
   go_wp2_with fail
   go_ret
   exact ⟨by first | rfl | simp, E1.out.trans (E3.out.trans E5.out)⟩
 | true =>
   obtain ⟨hv, hvn, hst, hcc⟩ := hpush (by rw [hR]) hR
   obtain ⟨C, hC⟩ : ∃ C, 1 + k.cnt = C := ⟨_, rfl⟩
   obtain ⟨C2, hC2⟩ : ∃ C, 1 + k2.cnt = C := ⟨_, rfl⟩
   rw [hC, hC2] at hcc
   obtain ⟨Lf, hLf⟩ : ∃ f : Nat → Ls.Lay, (fun j : Nat => (Rn.stD (j : Int) o n t k).fin) = f := ⟨_, rfl⟩
   have HRD := Lib.hid (show ∀ (W : World) (j : Nat), j ≤ 40 → Ext w3 W → Calls Try.prog 9 #[.agg #[.int .i64 o, .int .i64 n, .string t, .slice a k.len c], .int .i64 (j : Int)] W (DocO.Out W (Lf j) true) from fun W j hj e => by
    have h := DocR.implRender (D3.out.ext e) o (j : Int)
    rw [RnR.rnR_yes (RnV.right_w hv (show j ≤ 200 by omega))] at h
    have e2 : (Rn.stD (j : Int) o n t k).fin = Lf j := by rw [← hLf]
    rw [e2] at h
    exact h)
   have HRN := Lib.hid (show ∀ (W : World) (j : Nat), j ≤ 40 → Ext w3 W → Calls Try.prog 9 #[.agg #[.int .i64 o2, .int .i64 n2, .string t2, .slice a2 k2.len c2], .int .i64 (j : Int)] W (DocO.Out W (Lf j) true) from fun W j hj e => by
    have h := DocR.implRender (N3.out.ext e) o2 (j : Int)
    rw [RnR.rnR_yes (RnV.right_w hvn (show j ≤ 200 by omega))] at h
    have e2 : (Rn.stD (j : Int) o2 n2 t2 k2).fin = Lf j := by rw [← hLf]; exact hst _
    rw [e2] at h
    exact h)
   have HZD := Lib.hid (show ∀ W : World, Ext w3 W → Calls Try.prog 17 #[.agg #[.int .i64 o, .int .i64 n, .string t, .slice a k.len c]] W fun e w' => e = .returned (.int .i64 ((C : Nat) : Int)) ∧ Ext W w' from fun W e => by have h := (D3.out.ext e).implDocSize o; rw [hC] at h; exact h)
   have HZN := Lib.hid (show ∀ W : World, Ext w3 W → Calls Try.prog 17 #[.agg #[.int .i64 o2, .int .i64 n2, .string t2, .slice a2 k2.len c2]] W fun e w' => e = .returned (.int .i64 ((C2 : Nat) : Int)) ∧ Ext W w' from fun W e => by have h := (N3.out.ext e).implDocSize o2; rw [hC2] at h; exact h)
   have ezz : decide (((C2 : Nat) : Int) ≤ ((C : Nat) : Int)) = true := by rw [decide_eq_true_eq]; omega
   have ezzn : decide (C2 ≤ C) = true := by rw [decide_eq_true_eq]; omega
   clear hpush hv hvn hst hcc hC hC2 hLf hR hsz2
   go_wp2_with fail
   refine (HSAME.out _ ((Ext.refl w3).alloc _)).mono ?_
   rintro e4 w4 ⟨rfl, hb⟩
   have hbb : Ext w3 w4 := ((Ext.refl w3).alloc _).trans hb
   have X4 := Lib.hid (box4 X3.out L3.out hbb)
   have L4 := Lib.hid (Nat.lt_of_lt_of_le L3.out hbb.size)
   have Y4 := Lib.hid (box4 Y3.out M3.out hbb)
   have M4 := Lib.hid (Nat.lt_of_lt_of_le M3.out hbb.size)
   have E4 := Lib.hid (hbb)
   have S4 := Lib.hid hbb
   clear hb hbb x0 x1 x2 x3 y0 y1 y2 y3 l m
   obtain ⟨x0, x1, x2, x3⟩ := X4.out
   have l := L4.out
   obtain ⟨y0, y1, y2, y3⟩ := Y4.out
   have m := M4.out
   go_wp2_with fail
   go_loopw [8] (fun i wr => ∃ q : Nat, q ≤ 42 ∧ q % 3 = 0 ∧ i = .int .i64 (q : Int) ∧ Ext w4 wr) (fun i _ => 42 - (intOf i).toNat)
   case atStart => exact ⟨0, by omega, rfl, rfl, Ext.refl _⟩
   case round =>
    obtain ⟨q, hq, hqs, rfl, hext⟩ := hrel
    have q0 : (0 : Int) ≤ (q : Int) := Int.natCast_nonneg _
    obtain ⟨w5, hwm⟩ : ∃ W, W = wr := ⟨_, rfl⟩
    subst hwm
    have X5 := Lib.hid (box4 X4.out L4.out hext)
    have Y5 := Lib.hid (box4 Y4.out M4.out hext)
    have L5 := Lib.hid (Nat.lt_of_lt_of_le L4.out hext.size)
    have M5 := Lib.hid (Nat.lt_of_lt_of_le M4.out hext.size)
    have E5 := Lib.hid (E4.out.trans hext)
    have R := Lib.hid hext
    have RH := Lib.hid (Ext.refl w5)
    try clear x0 x1 x2 x3 l y0 y1 y2 y3 m
    clear hext
    obtain ⟨x0, x1, x2, x3⟩ := X5.out
    obtain ⟨y0, y1, y2, y3⟩ := Y5.out
    have l := L5.out
    have m := M5.out
    by_cases hqj : q ≤ 40
    ·have q1 : (q : Int) ≤ 40 := by omega
     have HD1 := Lib.hid (fun (W : World) (e : Ext w3 W) => HRD.out W q hqj e)
     have HN1 := Lib.hid (fun (W : World) (e : Ext w3 W) => HRN.out W q hqj e)
     obtain ⟨LQ, hLQ⟩ : ∃ L, Lf q = L := ⟨_, rfl⟩
     rw [hLQ] at HD1 HN1
     obtain ⟨ML, hML⟩ : ∃ m, LQ.length = m := ⟨_, rfl⟩
     have HML := Lib.hid hML
     clear hLQ hML
     go_wp2_with fail
     refine (HD1.out _ E5.out).mono ?_
     rintro e6 w6 ⟨pa, ca, rfl, hla, hb⟩
     have q4 : Ext w5 w6 := hb
     have Y6 := Lib.hid (box4 Y5.out M5.out q4)
     have M6 := Lib.hid (Nat.lt_of_lt_of_le M5.out q4.size)
     have E6 := Lib.hid (E5.out.trans q4)
     have KA := Lib.hid hla
     have Q4 := Lib.hid q4
     clear hb hla q4 x0 x1 x2 x3 y0 y1 y2 y3 l m
     obtain ⟨y0, y1, y2, y3⟩ := Y6.out
     have m := M6.out
     rw [HML.out]
     go_wp2_with fail
     refine (HN1.out _ E6.out).mono ?_
     rintro e7 w7 ⟨pb, cb, rfl, hlb, hb⟩
     have q5 : Ext w6 w7 := hb
     have HLS := Lib.hid (DocL.LayIs.sameB (KA.out.ext q5) hlb)
     rw [HML.out] at HLS
     have Q5 := Lib.hid (Q4.out.trans q5)
     clear hb hlb q5 y0 y1 y2 y3 m
     rw [HML.out]
     go_wp2_with fail
     refine HLS.out.mono ?_
     rintro e8 w8 ⟨rfl, hb⟩
     have Q6 := Lib.hid (Q5.out.trans (show Ext w7 w8 from hb))
     clear hb
     have ed : decide (LQ = LQ) = true := by simp
     go_wp2_with fail
     go_roundw
     case rel => exact ⟨q + 3, by omega, by omega, by go_num, R.out.trans Q6.out⟩
     case measure => simp [intOf]; omega
    ·have q1 : ¬ ((q : Int) ≤ 40) := by omega
     have HTW := Lib.hid (show ∀ W : World, Ext w5 W → W.cell? ⟨w1.heap.size, 0, none⟩ = some (.int .i64 o) ∧ W.cell? ⟨w1.heap.size, 1, none⟩ = some (.int .i64 n) ∧ W.cell? ⟨w1.heap.size, 2, none⟩ = some (.string t) ∧ W.cell? ⟨w1.heap.size, 3, none⟩ = some (.slice a k.len c) ∧ W.cell? ⟨w2.heap.size, 0, none⟩ = some (.int .i64 o2) ∧ W.cell? ⟨w2.heap.size, 1, none⟩ = some (.int .i64 n2) ∧ W.cell? ⟨w2.heap.size, 2, none⟩ = some (.string t2) ∧ W.cell? ⟨w2.heap.size, 3, none⟩ = some (.slice a2 k2.len c2) from fun W e => ⟨(box4 X5.out L5.out e).1, (box4 X5.out L5.out e).2.1, (box4 X5.out L5.out e).2.2.1, (box4 X5.out L5.out e).2.2.2, (box4 Y5.out M5.out e).1, (box4 Y5.out M5.out e).2.1, (box4 Y5.out M5.out e).2.2.1, (box4 Y5.out M5.out e).2.2.2⟩)
     have HT0 := Lib.hid (HTW.out w5.drew (Ext.refl _).drew)
     obtain ⟨x0, x1, x2, x3, y0, y1, y2, y3⟩ := HTW.out w5 (Ext.refl _)
     go_wp2_with fail
     go_region_held3 (fun w' => w'.cell? ⟨w1.heap.size, 0, none⟩ = some (.int .i64 o) ∧ w'.cell? ⟨w1.heap.size, 1, none⟩ = some (.int .i64 n) ∧ w'.cell? ⟨w1.heap.size, 2, none⟩ = some (.string t) ∧ w'.cell? ⟨w1.heap.size, 3, none⟩ = some (.slice a k.len c) ∧ w'.cell? ⟨w2.heap.size, 0, none⟩ = some (.int .i64 o2) ∧ w'.cell? ⟨w2.heap.size, 1, none⟩ = some (.int .i64 n2) ∧ w'.cell? ⟨w2.heap.size, 2, none⟩ = some (.string t2) ∧ w'.cell? ⟨w2.heap.size, 3, none⟩ = some (.slice a2 k2.len c2))
      (first | (go_keep; done) | with_reducible exact HTW.out _ q1 | with_reducible exact HTW.out _ q0 | with_reducible exact HT0.out)
      (first
       | (go_at_call_of 17 (Value.agg #[.int .i64 o2, .int .i64 n2, .string t2, .slice a2 k2.len c2]); refine (HZN.out _ (by exact E5.out.trans ((Ext.refl w5).drew))).mono ?_; rintro e1 v0 ⟨rfl, hb0⟩; have q0 : Ext w5 v0 := ((Ext.refl w5).drew).trans hb0; clear hb0)
       | (go_at_call_of 17 (Value.agg #[.int .i64 o, .int .i64 n, .string t, .slice a k.len c]); refine (HZD.out _ (by exact E5.out.trans (q0))).mono ?_; rintro e1 v1 ⟨rfl, hb1⟩; have q1 : Ext w5 v1 := (q0).trans hb1; clear hb1))
     go_wp2_with fail
     go_ret
     exact ⟨by first | rfl | simp, E1.out.trans (E3.out.trans (E5.out.trans q1))⟩
set_option maxHeartbeats 400000 in
theorem walk_big (w : World) (a0 : Option Addr) (len0 cap0 : Nat) (hl0 : 1048576 < len0) :
  Calls Try.prog 4 #[.slice a0 len0 cap0] w fun e w' => e = .returned (.bool true) ∧ Ext w w' := by
 have h1 : (1048576 : Int) < (len0 : Int) := by omega
 go_enter Try.func4, Try.ntmps4
 go_wp2_with fail
 go_ret
 exact ⟨rfl, Ext.refl w⟩
theorem walk (w : World) (a0 : Option Addr) (len0 cap0 : Nat) (hb0 : Bytes w a0 len0) (hlc0 : len0 ≤ cap0) (hcm0 : cap0 ≤ maxLen) :
  Calls Try.prog 4 #[.slice a0 len0 cap0] w fun e w' => e = .returned (.bool true) ∧ Below w.heap.size w w' := by
 by_cases h : 1048576 < len0
 ·exact walk_big w a0 len0 cap0 h
 ·exact walk_good w a0 len0 cap0 hb0 hlc0 hcm0 (by omega)
theorem lifted (os : Os) (started : os.Started) (H : Type) (enc : TypeId × Value → H) :
  ReturnsInHanded {} Try.checked os 4 .any (Rows.fnDropGroupsSpec.pre6 enc Try.prog Try.f4 Rows.fnDropGroupsRow.domain false) (Rows.fnDropGroupsSpec.post enc Try.prog Try.f4 false true false false) := by
 refine returnsInHanded_of_change (C := Try.checked) Facts.own started (by kernel_rfl) Try.func4
  (ChangeSpec.witness6 (enc := enc) (C := Try.checked) false ⟨#[], #[.slice none 0 0], []⟩ 8 (by kernel_rfl) (by kernel_rfl) (by kernel_rfl) (by kernel_rfl)) ?_
 intro W base args ds gs before hval0 hW hcnd0 _
 clear hcnd0
 have hval : ∀ (j : Nat) t v, Try.f4.params[j]? = some t → args[j]? = some v → Value.okWide Try.prog W .any base t v := hval0
 have hW' := hW
 obtain ⟨p, q, hA0, hV, rfl, hfz, hnd⟩ := hW
 have hA : DataW.TrodAll enc Try.prog W 0 (fun _ => true) true Try.f4.params.toList args.toList ds p := hA0
 rw [Try.params4] at hA hval
 obtain ⟨v0, d0, rfl, rfl, h0⟩ := trodAll_one hA
 obtain ⟨rfl, rfl⟩ := trodVars_none hV
 obtain ⟨a0, len0, cap0, rfl⟩ := okWide_slice Try.underlying22 (hval 0 22 v0 rfl rfl)
 clear hA0 hval0
 simp only [List.append_nil] at hW'
 have hlt : ∀ x ∈ p, x.block < W.heap.size := fun x hx => by simpa using hW'.lt x hx
 obtain ⟨hb0, hlc0, hcm0⟩ := opened h0
 refine (walk W a0 len0 cap0 hb0 hlc0 hcm0).mono fun e W' ⟨he, hb⟩ => ?_
 subst he
 refine ⟨_, rfl, [_], [], p, [], p, [], hW', trodAll_mk1 (shut_bool Try.underlying4 _), ?_, rfl, hb.frame _, fun h => by cases h⟩
 exact trodAll_mk1 (Below.trod Facts.laidOut (by kernel_rfl) (of_decide_eq_true (by kernel_rfl)) h0 hb hlt)
theorem named : Try.prog.funcNamed Rows.fnDropGroupsRow.func = some 4 := by kernel_rfl
theorem closed : joinedFacts Try.prog 4 Try.f4 Rows.fnDropGroupsSpec Rows.fnDropGroupsRow = true :=
 Facts.closed_of rfl rfl rfl rfl (h28b := rfl) (by kernel_rfl) (by kernel_rfl) (by kernel_rfl) (by kernel_rfl) (by kernel_rfl) (by kernel_rfl) (by kernel_rfl) (by kernel_rfl) (by kernel_rfl) (by kernel_rfl) (by kernel_rfl) (by kernel_rfl) (by kernel_rfl) (by kernel_rfl) (by kernel_rfl) (by kernel_rfl) (by kernel_rfl) (by kernel_rfl) (by kernel_rfl) (by kernel_rfl) (by kernel_rfl) (by kernel_rfl) (by kernel_rfl) (by kernel_rfl)
theorem instanced : Try.f4.isInstance Try.prog Rows.fnDropGroupsRow.origin Rows.fnDropGroupsRow.targs := of_decide_eq_true (by kernel_rfl)
theorem wrapped : Try.f4.isWrapper Try.prog Rows.fnDropGroupsRow.wrapper Rows.fnDropGroupsRow.mainSum := by
 unfold Func.isWrapper
 rw [if_neg (of_decide_eq_false (by kernel_rfl))]
 exact ⟨rfl, rfl⟩
theorem holds : Rows.FnDropGroupsSaid :=
 OpenClaim.holds_of_wide 4 Try.f4 rfl rfl rfl rfl rfl rfl rfl ⟨rfl, rfl, rfl, rfl, rfl⟩ rfl rfl rfl rfl rfl named Try.func4 closed instanced wrapped
  (fun os started H enc _ => lifted os started H enc)
end Go.Proofs.Ytjcaiecapapceaa.lawDropGroups
