import Derived.Test.YtlpmocdbmnpjcaaDrM
import Derived.Test.YtlpmocdbmnpjcaaDocW
import Derived.Test.YtlpmocdbmnpjcaaDcK
import Derived.Test.YtlpmocdbmnpjcaaDrZ
import Derived.Test.YtlpmocdbmnpjcaaFacts
import Derived.Test.YtlpmocdbmnpjcaaRows
import Derived.Deep.RegionHeld3
import Derived.Deep.DeepCutAuto
import Derived.Deep.RegionWith
/-
  Leads are joined: the law FnLeadCat returns true for whatever draws, and its argument reads as it did. No condition of ours.
-/
set_option linter.unusedVariables false
set_option linter.unusedSimpArgs false
namespace Go.Proofs.Ytlpmocdbmnpjcaa.lawLeadCat
open Go.ChangeShapes Go.WideShapes Go.ChangeAt Go.RowKit P1 Draw6 LawC CntC DocK Wid OpenR LayN

set_option maxRecDepth 100000 in
set_option maxHeartbeats 6400000 in
theorem walk_good (w : World) (a0 : Option Addr) (len0 cap0 : Nat) (hb0 : Bytes w a0 len0) (hlc0 : len0 ≤ cap0) (hcm0 : cap0 ≤ maxLen) (hl0 : len0 ≤ 1048576) :
    Calls Try.prog 12 #[.slice a0 len0 cap0] w fun e w' => e = .returned (.bool true) ∧ Ext w w' := by
  have HD0 := Lib.hid (DrM.drawLeadWidth w a0 len0 cap0 hb0 hlc0 hcm0)
  clear hb0
  unfold maxLen at hcm0
  go_enter Try.func12, Try.ntmps12
  go_wp2_with fail
  refine HD0.out.mono ?_
  rintro e1 w1 ⟨o, n, t, k, a, cap, fs, rfl, hc, hsz, hsub, hfr, hb1⟩
  have D1 := Lib.hid (show DocK.Doc0 w1 n t k a cap fs from ⟨hsub, fun c hc => (hfr.2 c hc).2, hc, by omega⟩)
  have E1 := Lib.hid (show Ext w w1 from hb1)
  clear hsub hfr hb1
  obtain ⟨V, hV⟩ : ∃ V, validD o n t k = V := ⟨_, rfl⟩
  obtain ⟨N, hN⟩ : ∃ N : Int, orZ (validD o n t k) (nD o t k) = N := ⟨_, rfl⟩
  have HVI := Lib.hid (show ∀ W : World, Ext w1 W → Calls Try.prog 42 #[.agg #[.int .i64 o, .int .i64 n, .string t, .slice a k.len cap]] W fun e w' => e = .returned (.tuple #[.int .i64 N, .bool V]) ∧ Ext W w' from fun W e => by rw [← hN, ← hV]; exact DocW.implLeadWidth (D1.out.ext e) o)
  have HVS := Lib.hid (show ∀ W : World, Ext w1 W → Calls Try.prog 43 #[.agg #[.int .i64 o, .int .i64 n, .string t, .slice a k.len cap]] W fun e w' => e = .returned (.tuple #[.int .i64 N, .bool V]) ∧ Ext W w' from fun W e => by rw [← hN, ← hV]; exact DocW.specLeadWidth (D1.out.ext e) o)
  have hkl : k.len ≤ 100000 := D1.out.len
  have hNN : (N != N) = false := by simp
  have hNe : (N == N) = true := by simp
  have hNb : 0 ≤ N ∧ N ≤ 2000 := by
    have := nD_size o t k
    rw [← hN]; unfold orZ; split <;> omega
  obtain ⟨hNb0, hNb1⟩ := hNb
  have hszz := hsz
  clear hc hsz
  go_wp2_with fail
  refine (HVI.out _ ((Ext.refl _).alloc _)).mono ?_
  rintro e2 w2 ⟨rfl, hb2⟩
  have X2 := Lib.hid (box4 (box_new w1 _ _ _ _ _) (by simp) hb2)
  have E2 := Lib.hid (((Ext.refl w1).alloc _).trans hb2)
  have L2 := Lib.hid (show w1.heap.size < w2.heap.size from by have := hb2.size; simp at this; omega)
  clear hb2
  obtain ⟨x0, x1, x2, x3⟩ := X2.out
  have l2 := L2.out
  go_wp2_with fail
  refine (HVS.out _ E2.out).mono ?_
  rintro e3 w3 ⟨rfl, hb3⟩
  have X3 := Lib.hid (box4 X2.out L2.out hb3)
  have E3 := Lib.hid (E2.out.trans hb3)
  have L3 := Lib.hid (Nat.lt_of_lt_of_le L2.out hb3.size)
  clear hb3 x0 x1 x2 x3 l2 X2 E2 L2
  obtain ⟨x0, x1, x2, x3⟩ := X3.out
  have l3 := L3.out
  cases V with
  | false =>
    clear hV hN
    go_wp2_with fail
    go_ret
    exact ⟨by first | rfl | simp, E1.out.trans E3.out⟩
  | true =>
   cases hoo : (o == 7) with
   | false =>
    clear hV hN
    go_wp2_with fail
    go_ret
    exact ⟨by first | rfl | simp, E1.out.trans E3.out⟩
   | true =>
    have ho7 : o = 7 := by simpa using hoo
    clear hoo
    have hval := hV
    obtain ⟨o1, n1, t1, k1, o2, n2, t2, k2, rfl⟩ := two_kids (DocO.valid_two hval ho7)
    subst ho7
    obtain ⟨b1, f0, a1, c1, f1, rfl, hbl, hD1, z0, z1, z2, z3⟩ := D1.out.kid' (p := .nil) rfl
    obtain ⟨b2, f3, a2, c2, f2, hab, _, hD2, y0, y1, y2, y3⟩ := D1.out.kid' (p := .cons o1 n1 t1 k1 .nil) rfl
    cases hab
    have hv1 : validD o1 n1 t1 k1 = true := valid_kid (p := .nil) hval
    have hv2 : validD o2 n2 t2 k2 = true := valid_kid (p := .cons o1 n1 t1 k1 .nil) hval
    simp only [F.len, Nat.zero_mul, Nat.add_zero] at z0 z1 z2 z3
    simp only [F.len, Nat.zero_add, Nat.one_mul] at y0 y1 y2 y3
    have HZ := Lib.hid (fun (W : World) (e : Ext w1 W) => And.intro ((e.cell hbl).trans z0) (And.intro ((e.cell hbl).trans z1) (And.intro ((e.cell hbl).trans z2) ((e.cell hbl).trans z3))))
    have HY := Lib.hid (fun (W : World) (e : Ext w1 W) => And.intro ((e.cell hbl).trans y0) (And.intro ((e.cell hbl).trans y1) (And.intro ((e.cell hbl).trans y2) ((e.cell hbl).trans y3))))
    clear z0 z1 z2 z3 y0 y1 y2 y3
    obtain ⟨z0, z1, z2, z3⟩ := HZ.out _ E3.out
    obtain ⟨y0, y1, y2, y3⟩ := HY.out _ E3.out
    obtain ⟨A, hA⟩ : ∃ A : Nat, nD o1 t1 k1 = A := ⟨_, rfl⟩
    obtain ⟨Bv, hB⟩ : ∃ B : Nat, nD o2 t2 k2 = B := ⟨_, rfl⟩
    have hAb : A ≤ 2000 := by have := nD_size o1 t1 k1; simp only [F.size] at hszz; omega
    have hBb : Bv ≤ 2000 := by have := nD_size o2 t2 k2; simp only [F.size] at hszz; omega
    have hkl2 : (F.cons o1 n1 t1 k1 (.cons o2 n2 t2 k2 .nil)).len = 2 := rfl
    have HK1 := Lib.hid (show ∀ W : World, Ext w1 W → Calls Try.prog 42 #[.agg #[.int .i64 o1, .int .i64 n1, .string t1, .slice a1 k1.len c1]] W fun e w' => e = .returned (.tuple #[.int .i64 (A : Int), .bool true]) ∧ Ext W w' from fun W e => by have h := DocW.implLeadWidth (hD1.ext e) o1; rw [hv1, hA] at h; exact h)
    have HK2 := Lib.hid (show ∀ W : World, Ext w1 W → Calls Try.prog 42 #[.agg #[.int .i64 o2, .int .i64 n2, .string t2, .slice a2 k2.len c2]] W fun e w' => e = .returned (.tuple #[.int .i64 (Bv : Int), .bool true]) ∧ Ext W w' from fun W e => by have h := DocW.implLeadWidth (hD2.ext e) o2; rw [hv2, hB] at h; exact h)
    have HO1 := Lib.hid (show ∀ W : World, Ext w1 W → Calls Try.prog 29 #[.agg #[.int .i64 o1, .int .i64 n1, .string t1, .slice a1 k1.len c1]] W (DocO.Out W (openD o1 n1 t1 k1) true) from fun W e => by have h := (DocW.toO (hD1.ext e)).implOpen o1; rw [openRes_yes hv1] at h; exact h)
    obtain ⟨i1, s1, r1, e1, e2, e3⟩ := DocW.open_lead 40 o1 n1 t1 k1 (DocW.valid_ok hv1)
    obtain ⟨X1, hX1⟩ : ∃ X, openD o1 n1 t1 k1 = X := ⟨_, rfl⟩
    rw [hX1] at HO1 e1
    have HX1 := Lib.hid (And.intro e1 e3)
    have HNN := Lib.hid (show N = ((A + (if eD o1 k1 then 0 else Bv) : Nat) : Int) by
      have h7 : (t : ByteArray).size = 0 := DocW.cat_text hval
      rw [← hN, hV, ← hA, ← hB, ← DocW.nD_cat h7]; rfl)
    have X3 := Lib.hid (show w3.cell? ⟨w1.heap.size, 0, none⟩ = some (.int .i64 7) ∧ w3.cell? ⟨w1.heap.size, 1, none⟩ = some (.int .i64 n) ∧ w3.cell? ⟨w1.heap.size, 2, none⟩ = some (.string t) ∧ w3.cell? ⟨w1.heap.size, 3, none⟩ = some (.slice (some ⟨b1, f0, none⟩) 2 cap) from X3.out)
    clear x0 x1 x2 x3
    obtain ⟨x0, x1, x2, x3⟩ := X3.out
    clear hV hN hval hv1 hv2 e1 e2 e3 hX1 hA hB hD1 hD2 hbl hkl2
    cases hE : eD o1 k1 with
    | true =>
      have hN2 : N = (A : Int) := by rw [HNN.out, hE]; simp
      have hX1 : (1 : Int) < (X1.length : Int) := by rw [HX1.out.1]; have h := HX1.out.2; rw [hE] at h; cases r1 with | nil => exact absurd (h.2 rfl) (by simp) | cons q r1 => simp; omega
      have hNA : (N == (A : Int)) = true := by rw [hN2]; simp
      clear hN2 hE
      go_wp2_with fail
      refine (HK1.out _ E3.out).mono ?_
      rintro e4 w4 ⟨rfl, hb4⟩
      have X4 := Lib.hid (box4 X3.out L3.out hb4)
      have E4 := Lib.hid (E3.out.trans hb4)
      have L4 := Lib.hid (Nat.lt_of_lt_of_le L3.out hb4.size)
      clear hb4 x0 x1 x2 x3 l3 z0 z1 z2 z3 y0 y1 y2 y3
      obtain ⟨x0, x1, x2, x3⟩ := X4.out
      have l4 := L4.out
      obtain ⟨y0, y1, y2, y3⟩ := HY.out _ E4.out
      go_wp2_with fail
      refine (HK2.out _ E4.out).mono ?_
      rintro e5 w5 ⟨rfl, hb5⟩
      have X5 := Lib.hid (box4 X4.out L4.out hb5)
      have E5 := Lib.hid (E4.out.trans hb5)
      have L5 := Lib.hid (Nat.lt_of_lt_of_le L4.out hb5.size)
      clear hb5 x0 x1 x2 x3 l4 y0 y1 y2 y3
      obtain ⟨x0, x1, x2, x3⟩ := X5.out
      have l5 := L5.out
      obtain ⟨z0, z1, z2, z3⟩ := HZ.out _ E5.out
      go_wp2_with fail
      refine (HO1.out _ E5.out).mono ?_
      rintro e6 w6 ⟨pa, pc, rfl, hl6, hb6⟩
      have E6 := Lib.hid (E5.out.trans hb6)
      clear hb6 hl6 x0 x1 x2 x3 l5 z0 z1 z2 z3
      go_wp2_with fail
      go_ret
      exact ⟨by first | rfl | simp [hNA] | simpa using hNA, E1.out.trans E6.out⟩
    | false =>
      have hN2 : N = (A : Int) + (Bv : Int) := by rw [HNN.out, hE]; simp
      have hX1 : ¬ ((1 : Int) < (X1.length : Int)) := by rw [HX1.out.1]; have h := HX1.out.2; rw [hE] at h; rw [h.1 rfl]; simp
      have hNA : (N == (A : Int) + (Bv : Int)) = true := by rw [hN2]; simp
      clear hN2 hE
      go_wp2_with fail
      refine (HK1.out _ E3.out).mono ?_
      rintro e4 w4 ⟨rfl, hb4⟩
      have X4 := Lib.hid (box4 X3.out L3.out hb4)
      have E4 := Lib.hid (E3.out.trans hb4)
      have L4 := Lib.hid (Nat.lt_of_lt_of_le L3.out hb4.size)
      clear hb4 x0 x1 x2 x3 l3 z0 z1 z2 z3 y0 y1 y2 y3
      obtain ⟨x0, x1, x2, x3⟩ := X4.out
      have l4 := L4.out
      obtain ⟨y0, y1, y2, y3⟩ := HY.out _ E4.out
      go_wp2_with fail
      refine (HK2.out _ E4.out).mono ?_
      rintro e5 w5 ⟨rfl, hb5⟩
      have X5 := Lib.hid (box4 X4.out L4.out hb5)
      have E5 := Lib.hid (E4.out.trans hb5)
      have L5 := Lib.hid (Nat.lt_of_lt_of_le L4.out hb5.size)
      clear hb5 x0 x1 x2 x3 l4 y0 y1 y2 y3
      obtain ⟨x0, x1, x2, x3⟩ := X5.out
      have l5 := L5.out
      obtain ⟨z0, z1, z2, z3⟩ := HZ.out _ E5.out
      go_wp2_with fail
      refine (HO1.out _ E5.out).mono ?_
      rintro e6 w6 ⟨pa, pc, rfl, hl6, hb6⟩
      have E6 := Lib.hid (E5.out.trans hb6)
      clear hb6 hl6 x0 x1 x2 x3 l5 z0 z1 z2 z3
      go_wp2_with fail
      go_ret
      exact ⟨by first | rfl | simp [hNA] | simpa using hNA, E1.out.trans E6.out⟩

set_option maxHeartbeats 400000 in
theorem walk_big (w : World) (a0 : Option Addr) (len0 cap0 : Nat) (hl0 : 1048576 < len0) :
    Calls Try.prog 12 #[.slice a0 len0 cap0] w fun e w' => e = .returned (.bool true) ∧ Ext w w' := by
  have h1 : (1048576 : Int) < (len0 : Int) := by omega
  go_enter Try.func12, Try.ntmps12
  go_wp2_with fail
  go_ret
  exact ⟨rfl, Ext.refl w⟩

theorem walk (w : World) (a0 : Option Addr) (len0 cap0 : Nat) (hb0 : Bytes w a0 len0) (hlc0 : len0 ≤ cap0) (hcm0 : cap0 ≤ maxLen) :
    Calls Try.prog 12 #[.slice a0 len0 cap0] w fun e w' => e = .returned (.bool true) ∧ Below w.heap.size w w' := by
  by_cases h : 1048576 < len0
  · exact walk_big w a0 len0 cap0 h
  · exact walk_good w a0 len0 cap0 hb0 hlc0 hcm0 (by omega)

set_option maxRecDepth 100000 in
theorem lifted (os : Os) (started : os.Started) (H : Type) (enc : TypeId × Value → H) :
    ReturnsInHanded {} Try.checked os 12 .any (Rows.fnLeadCatSpec.pre6 enc Try.prog Try.f12 Rows.fnLeadCatRow.domain false) (Rows.fnLeadCatSpec.post enc Try.prog Try.f12 false true false false) := by
  refine returnsInHanded_of_change (C := Try.checked) Facts.own started (by kernel_rfl) Try.func12
    (ChangeSpec.witness6 (enc := enc) (C := Try.checked) false ⟨#[], #[.slice none 0 0], []⟩ 8 (by kernel_rfl) (by kernel_rfl) (by kernel_rfl) (by kernel_rfl)) ?_
  intro W base args ds gs before hval0 hW hcnd0 _
  clear hcnd0
  have hval : ∀ (j : Nat) t v, Try.f12.params[j]? = some t → args[j]? = some v → Value.okWide Try.prog W .any base t v := hval0
  have hW' := hW
  obtain ⟨p, q, hA0, hV, rfl, hfz, hnd⟩ := hW
  have hA : DataW.TrodAll enc Try.prog W 0 (fun _ => true) true Try.f12.params.toList args.toList ds p := hA0
  rw [Try.params12] at hA hval
  obtain ⟨v0, d0, rfl, rfl, h0⟩ := trodAll_one hA
  obtain ⟨rfl, rfl⟩ := trodVars_none hV
  obtain ⟨a0, len0, cap0, rfl⟩ := okWide_slice Try.underlying22 (hval 0 22 v0 rfl rfl)
  clear hA0 hval0
  simp only [List.append_nil] at hW'
  have hlt : ∀ x ∈ p, x.block < W.heap.size := fun x hx => by simpa using hW'.lt x hx
  obtain ⟨hb0, hlc0, hcm0⟩ := opened h0
  refine (walk W a0 len0 cap0 hb0 hlc0 hcm0).mono fun e W' ⟨he, hb⟩ => ?_
  subst he
  refine ⟨_, rfl, [_], [], p, [], p, [], hW', trodAll_mk1 (shut_bool Try.underlying4 _), ?_, rfl, hb.frame _, fun h => by cases h⟩
  exact trodAll_mk1 (Below.trod Facts.laidOut (by kernel_rfl) (of_decide_eq_true (by kernel_rfl)) h0 hb hlt)

theorem named : Try.prog.funcNamed Rows.fnLeadCatRow.func = some 12 := by kernel_rfl
theorem closed : joinedFacts Try.prog 12 Try.f12 Rows.fnLeadCatSpec Rows.fnLeadCatRow = true :=
  Facts.closed_of rfl rfl rfl rfl (h28b := rfl) (by kernel_rfl) (by kernel_rfl) (by kernel_rfl) (by kernel_rfl) (by kernel_rfl) (by kernel_rfl) (by kernel_rfl) (by kernel_rfl) (by kernel_rfl) (by kernel_rfl) (by kernel_rfl) (by kernel_rfl) (by kernel_rfl) (by kernel_rfl) (by kernel_rfl) (by kernel_rfl) (by kernel_rfl) (by kernel_rfl) (by kernel_rfl) (by kernel_rfl) (by kernel_rfl) (by kernel_rfl) (by kernel_rfl) (by kernel_rfl)
theorem instanced : Try.f12.isInstance Try.prog Rows.fnLeadCatRow.origin Rows.fnLeadCatRow.targs := of_decide_eq_true (by kernel_rfl)
theorem wrapped : Try.f12.isWrapper Try.prog Rows.fnLeadCatRow.wrapper Rows.fnLeadCatRow.mainSum := by
  unfold Func.isWrapper
  rw [if_neg (of_decide_eq_false (by kernel_rfl))]
  exact ⟨rfl, rfl⟩

theorem holds : Rows.FnLeadCatSaid :=
  OpenClaim.holds_of_wide 12 Try.f12 rfl rfl rfl rfl rfl rfl rfl ⟨rfl, rfl, rfl, rfl, rfl⟩ rfl rfl rfl rfl rfl named Try.func12 closed instanced wrapped
    (fun os started H enc _ => lifted os started H enc)

end Go.Proofs.Ytlpmocdbmnpjcaa.lawLeadCat

