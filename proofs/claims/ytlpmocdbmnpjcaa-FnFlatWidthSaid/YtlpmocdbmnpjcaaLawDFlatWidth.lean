import Derived.Test.YtlpmocdbmnpjcaaDrM
import Derived.Test.YtlpmocdbmnpjcaaDocW
import Derived.Test.YtlpmocdbmnpjcaaDcK
import Derived.Test.YtlpmocdbmnpjcaaDrZ
import Derived.Test.YtlpmocdbmnpjcaaFacts
import Derived.Test.YtlpmocdbmnpjcaaRows
import Derived.Deep.RegionHeld3
import Derived.Deep.DeepCutAuto
import Derived.Deep.RegionWith
/-
  Widths add up: the law FnFlatWidth returns true for whatever draws, and its argument reads as it did. No condition of ours.
-/
set_option linter.unusedVariables false
set_option linter.unusedSimpArgs false
namespace Go.Proofs.Ytlpmocdbmnpjcaa.lawFlatWidth
open Go.ChangeShapes Go.WideShapes Go.ChangeAt Go.RowKit P1 Draw6 LawC CntC DocK Wid OpenR LayN

set_option maxRecDepth 100000 in
set_option maxHeartbeats 6400000 in
theorem walk_good (w : World) (a0 : Option Addr) (len0 cap0 : Nat) (hb0 : Bytes w a0 len0) (hlc0 : len0 ≤ cap0) (hcm0 : cap0 ≤ maxLen) (hl0 : len0 ≤ 1048576) :
    Calls Try.prog 10 #[.slice a0 len0 cap0] w fun e w' => e = .returned (.bool true) ∧ Ext w w' := by
  have HD0 := Lib.hid (DrM.drawFlatWidth w a0 len0 cap0 hb0 hlc0 hcm0)
  clear hb0
  unfold maxLen at hcm0
  go_enter Try.func10, Try.ntmps10
  go_wp2_with fail
  refine HD0.out.mono ?_
  rintro e1 w1 ⟨o, n, t, k, a, cap, fs, rfl, hc, hsz, hsub, hfr, hb1⟩
  have D1 := Lib.hid (show DocK.Doc0 w1 n t k a cap fs from ⟨hsub, fun c hc => (hfr.2 c hc).2, hc, by omega⟩)
  have E1 := Lib.hid (show Ext w w1 from hb1)
  clear hsub hfr hb1
  obtain ⟨V, hV⟩ : ∃ V, canD o n t k = V := ⟨_, rfl⟩
  obtain ⟨N, hN⟩ : ∃ N : Int, orZ (canD o n t k) (Flat.flD o t k).size = N := ⟨_, rfl⟩
  have HVI := Lib.hid (show ∀ W : World, Ext w1 W → Calls Try.prog 39 #[.agg #[.int .i64 o, .int .i64 n, .string t, .slice a k.len cap]] W fun e w' => e = .returned (.tuple #[.int .i64 N, .bool V]) ∧ Ext W w' from fun W e => by rw [← hN, ← hV]; exact DocW.implFlatWidth (D1.out.ext e) o)
  have HVS := Lib.hid (show ∀ W : World, Ext w1 W → Calls Try.prog 40 #[.agg #[.int .i64 o, .int .i64 n, .string t, .slice a k.len cap]] W fun e w' => e = .returned (.tuple #[.int .i64 N, .bool V]) ∧ Ext W w' from fun W e => by rw [← hN, ← hV]; exact DocW.specFlatWidth (D1.out.ext e) o)
  have hkl : k.len ≤ 100000 := D1.out.len
  have HSZ := Lib.hid hsz
  have hts : t.size ≤ 1040 := by omega
  have hNN : (N != N) = false := by simp
  have hNe : (N == N) = true := by simp
  clear hc hsz
  go_wp2_with fail
  refine (HVI.out _ ((Ext.refl _).alloc _)).mono ?_
  rintro e2 w2 ⟨rfl, hb2⟩
  have X2 := Lib.hid (box4 (box_new w1 _ _ _ _ _) (by simp) hb2)
  have E2 := Lib.hid (((Ext.refl w1).alloc _).trans hb2)
  have L2 := Lib.hid (show w1.heap.size < w2.heap.size from by have := hb2.size; simp at this; omega)
  clear hb2
  obtain ⟨x0, x1, x2, x3⟩ := X2.out
  have l2 := L2.out
  go_wp2_with fail
  refine (HVS.out _ E2.out).mono ?_
  rintro e3 w3 ⟨rfl, hb3⟩
  have X3 := Lib.hid (box4 X2.out L2.out hb3)
  have E3 := Lib.hid (E2.out.trans hb3)
  have L3 := Lib.hid (Nat.lt_of_lt_of_le L2.out hb3.size)
  clear hb3 x0 x1 x2 x3 l2 X2 E2 L2
  obtain ⟨x0, x1, x2, x3⟩ := X3.out
  have l3 := L3.out
  cases V with
  | false =>
    have hN0 : N = 0 := by rw [← hN, hV]; rfl
    have hz0 : (N == 0) = true := by rw [hN0]; rfl
    have hbd : 0 ≤ N ∧ N ≤ 0 := by omega
    subst hN0
    clear hV hN hNN hNe hbd hz0
    go_wp2_with fail
    go_ret
    exact ⟨by first | rfl | simp, E1.out.trans E3.out⟩
  | true =>
   have hval : validD o n t k = true := by simp only [canD, Bool.and_eq_true] at hV; exact hV.1
   have hops : opsD 5 o k = 0 := by simp only [canD, Bool.and_eq_true, decide_eq_true_eq] at hV; exact hV.2
   have hNv : N = (((if o == 3 then 1 else t.size) + zf k : Nat) : Int) := by rw [← hN, hV, ← DocW.valid_zD hval]; rfl
   have HVV := Lib.hid (And.intro hval hops)
   clear hV hN hval hops
   cases hoo : (o == 3) with
   | true =>
    have HS := Lib.hid (show N = ((1 + zf k : Nat) : Int) by rw [hNv, hoo]; rfl)
    clear hNv
    go_wp2_with fail
    go_loopw [8, 9] (fun s i wr => ∃ (c : Nat) (p g : F), k = p.app g ∧ s = .int .i64 (c : Int) ∧ c = 1 + zf p ∧ i = .int .i64 (p.len : Int) ∧ Ext w3 wr) (fun _ i _ => k.len - (intOf i).toNat)
    case atStart => exact ⟨1, .nil, k, rfl, rfl, rfl, rfl, Ext.refl _⟩
    case round =>
      obtain ⟨c, p, g, hk, rfl, hcp, rfl, hext⟩ := hrel
      obtain ⟨J, hp⟩ : ∃ J, p.len = J := ⟨_, rfl⟩
      rw [hp]
      obtain ⟨x0, x1, x2, x3⟩ := box4 X3.out L3.out hext
      have lr : w1.heap.size < wr.heap.size := Nat.lt_of_lt_of_le L3.out hext.size
      have E1r := Lib.hid (E3.out.trans hext)
      have HXT := Lib.hid hext
      clear hext
      cases g with
      | nil =>
        have hkp : k = p := by rw [hk, F.app_nil]
        have hJ : J = k.len := by rw [hkp, hp]
        have hcN : (c : Int) = N := by rw [HS.out, hcp, hkp]
        subst hJ
        rw [hcN]
        clear hk hp hkp hcp hcN
        go_wp2_with fail
        go_ret
        exact ⟨by first | rfl | simp, E1.out.trans E1r.out⟩
      | cons o1 n1 t1 k1 r =>
        obtain ⟨b, off, a1, c1, f1, rfl, hbl, hD, z0, z1, z2, z3⟩ := D1.out.kid' hk
        rw [hp] at z0 z1 z2 z3
        rw [← E1r.out.cell hbl] at z0 z1 z2 z3
        have HD := Lib.hid hD
        have hjl : J < k.len := by rw [hk, F.len_app, hp]; simp only [F.len]; omega
        have hpl : (p.app (.cons o1 n1 t1 k1 .nil)).len = J + 1 := by rw [F.len_app, hp]; rfl
        have hka : k = (p.app (.cons o1 n1 t1 k1 .nil)).app r := by rw [hk, F.app_assoc]; rfl
        have HK := Lib.hid (And.intro hk (And.intro hp (And.intro hpl hka)))
        have hval := HVV.out.1
        have hops := HVV.out.2
        rw [hk] at hval hops
        have hkv := valid_kid hval
        have hcan : canD o1 n1 t1 k1 = true := by
          rw [canD_of hkv, decide_eq_true_eq]
          rw [opsD_app] at hops
          omega
        obtain ⟨z, hz⟩ : ∃ z : Nat, zD o1 t1 k1 = z := ⟨_, rfl⟩
        have hzs : c + z ≤ 2000 := by
          have e1 := zf_size p
          have e2 := zD_size o1 t1 k1
          have e3 := HSZ.out
          rw [hk, F.size_app] at e3; simp only [F.size] at e3
          rw [hcp, ← hz]; omega
        have HC1 := Lib.hid (fun (W : World) (e : Ext wr W) => DocW.implFlatWidth (HD.out.ext (E1r.out.trans e)) o1)
        have hfz : (Flat.flD o1 t1 k1).size = z := by rw [← hz]; exact (zD_fl hkv).symm
        simp only [hcan, hfz] at HC1
        have HST := Lib.hid (show c + z = 1 + zf (p.app (.cons o1 n1 t1 k1 .nil)) by rw [zf_app, zf_one, hz, hcp]; omega)
        clear hk hp hD hpl hka hcan hkv hval hops hz hcp hfz
        go_wp2_with fail
        refine (HC1.out _ (Ext.refl _)).mono ?_
        rintro e7 w7 ⟨rfl, hb7⟩
        have HB7 := Lib.hid hb7
        clear hb7 x0 x1 x2 x3 z0 z1 z2 z3
        have hor : orZ true z = (z : Int) := rfl
        rw [hor]
        clear hor
        go_wp2_with fail
        go_roundw
        case rel => exact ⟨c + z, p.app (.cons o1 n1 t1 k1 .nil), r, HK.out.2.2.2, by go_num, HST.out, by rw [HK.out.2.2.1]; go_num, HXT.out.trans HB7.out⟩
        case measure => simp [intOf]; omega
   | false =>
    have HS := Lib.hid (show N = ((t.size + zf k : Nat) : Int) by rw [hNv, hoo]; rfl)
    clear hNv
    go_wp2_with fail
    go_loopw [8, 9] (fun s i wr => ∃ (c : Nat) (p g : F), k = p.app g ∧ s = .int .i64 (c : Int) ∧ c = t.size + zf p ∧ i = .int .i64 (p.len : Int) ∧ Ext w3 wr) (fun _ i _ => k.len - (intOf i).toNat)
    case atStart => exact ⟨t.size, .nil, k, rfl, rfl, rfl, rfl, Ext.refl _⟩
    case round =>
      obtain ⟨c, p, g, hk, rfl, hcp, rfl, hext⟩ := hrel
      obtain ⟨J, hp⟩ : ∃ J, p.len = J := ⟨_, rfl⟩
      rw [hp]
      obtain ⟨x0, x1, x2, x3⟩ := box4 X3.out L3.out hext
      have lr : w1.heap.size < wr.heap.size := Nat.lt_of_lt_of_le L3.out hext.size
      have E1r := Lib.hid (E3.out.trans hext)
      have HXT := Lib.hid hext
      clear hext
      cases g with
      | nil =>
        have hkp : k = p := by rw [hk, F.app_nil]
        have hJ : J = k.len := by rw [hkp, hp]
        have hcN : (c : Int) = N := by rw [HS.out, hcp, hkp]
        subst hJ
        rw [hcN]
        clear hk hp hkp hcp hcN
        go_wp2_with fail
        go_ret
        exact ⟨by first | rfl | simp, E1.out.trans E1r.out⟩
      | cons o1 n1 t1 k1 r =>
        obtain ⟨b, off, a1, c1, f1, rfl, hbl, hD, z0, z1, z2, z3⟩ := D1.out.kid' hk
        rw [hp] at z0 z1 z2 z3
        rw [← E1r.out.cell hbl] at z0 z1 z2 z3
        have HD := Lib.hid hD
        have hjl : J < k.len := by rw [hk, F.len_app, hp]; simp only [F.len]; omega
        have hpl : (p.app (.cons o1 n1 t1 k1 .nil)).len = J + 1 := by rw [F.len_app, hp]; rfl
        have hka : k = (p.app (.cons o1 n1 t1 k1 .nil)).app r := by rw [hk, F.app_assoc]; rfl
        have HK := Lib.hid (And.intro hk (And.intro hp (And.intro hpl hka)))
        have hval := HVV.out.1
        have hops := HVV.out.2
        rw [hk] at hval hops
        have hkv := valid_kid hval
        have hcan : canD o1 n1 t1 k1 = true := by
          rw [canD_of hkv, decide_eq_true_eq]
          rw [opsD_app] at hops
          omega
        obtain ⟨z, hz⟩ : ∃ z : Nat, zD o1 t1 k1 = z := ⟨_, rfl⟩
        have hzs : c + z ≤ 2000 := by
          have e1 := zf_size p
          have e2 := zD_size o1 t1 k1
          have e3 := HSZ.out
          rw [hk, F.size_app] at e3; simp only [F.size] at e3
          rw [hcp, ← hz]; omega
        have HC1 := Lib.hid (fun (W : World) (e : Ext wr W) => DocW.implFlatWidth (HD.out.ext (E1r.out.trans e)) o1)
        have hfz : (Flat.flD o1 t1 k1).size = z := by rw [← hz]; exact (zD_fl hkv).symm
        simp only [hcan, hfz] at HC1
        have HST := Lib.hid (show c + z = t.size + zf (p.app (.cons o1 n1 t1 k1 .nil)) by rw [zf_app, zf_one, hz, hcp]; omega)
        clear hk hp hD hpl hka hcan hkv hval hops hz hcp hfz
        go_wp2_with fail
        refine (HC1.out _ (Ext.refl _)).mono ?_
        rintro e7 w7 ⟨rfl, hb7⟩
        have HB7 := Lib.hid hb7
        clear hb7 x0 x1 x2 x3 z0 z1 z2 z3
        have hor : orZ true z = (z : Int) := rfl
        rw [hor]
        clear hor
        go_wp2_with fail
        go_roundw
        case rel => exact ⟨c + z, p.app (.cons o1 n1 t1 k1 .nil), r, HK.out.2.2.2, by go_num, HST.out, by rw [HK.out.2.2.1]; go_num, HXT.out.trans HB7.out⟩
        case measure => simp [intOf]; omega

set_option maxHeartbeats 400000 in
theorem walk_big (w : World) (a0 : Option Addr) (len0 cap0 : Nat) (hl0 : 1048576 < len0) :
    Calls Try.prog 10 #[.slice a0 len0 cap0] w fun e w' => e = .returned (.bool true) ∧ Ext w w' := by
  have h1 : (1048576 : Int) < (len0 : Int) := by omega
  go_enter Try.func10, Try.ntmps10
  go_wp2_with fail
  go_ret
  exact ⟨rfl, Ext.refl w⟩

theorem walk (w : World) (a0 : Option Addr) (len0 cap0 : Nat) (hb0 : Bytes w a0 len0) (hlc0 : len0 ≤ cap0) (hcm0 : cap0 ≤ maxLen) :
    Calls Try.prog 10 #[.slice a0 len0 cap0] w fun e w' => e = .returned (.bool true) ∧ Below w.heap.size w w' := by
  by_cases h : 1048576 < len0
  · exact walk_big w a0 len0 cap0 h
  · exact walk_good w a0 len0 cap0 hb0 hlc0 hcm0 (by omega)

set_option maxRecDepth 100000 in
theorem lifted (os : Os) (started : os.Started) (H : Type) (enc : TypeId × Value → H) :
    ReturnsInHanded {} Try.checked os 10 .any (Rows.fnFlatWidthSpec.pre6 enc Try.prog Try.f10 Rows.fnFlatWidthRow.domain false) (Rows.fnFlatWidthSpec.post enc Try.prog Try.f10 false true false false) := by
  refine returnsInHanded_of_change (C := Try.checked) Facts.own started (by kernel_rfl) Try.func10
    (ChangeSpec.witness6 (enc := enc) (C := Try.checked) false ⟨#[], #[.slice none 0 0], []⟩ 8 (by kernel_rfl) (by kernel_rfl) (by kernel_rfl) (by kernel_rfl)) ?_
  intro W base args ds gs before hval0 hW hcnd0 _
  clear hcnd0
  have hval : ∀ (j : Nat) t v, Try.f10.params[j]? = some t → args[j]? = some v → Value.okWide Try.prog W .any base t v := hval0
  have hW' := hW
  obtain ⟨p, q, hA0, hV, rfl, hfz, hnd⟩ := hW
  have hA : DataW.TrodAll enc Try.prog W 0 (fun _ => true) true Try.f10.params.toList args.toList ds p := hA0
  rw [Try.params10] at hA hval
  obtain ⟨v0, d0, rfl, rfl, h0⟩ := trodAll_one hA
  obtain ⟨rfl, rfl⟩ := trodVars_none hV
  obtain ⟨a0, len0, cap0, rfl⟩ := okWide_slice Try.underlying22 (hval 0 22 v0 rfl rfl)
  clear hA0 hval0
  simp only [List.append_nil] at hW'
  have hlt : ∀ x ∈ p, x.block < W.heap.size := fun x hx => by simpa using hW'.lt x hx
  obtain ⟨hb0, hlc0, hcm0⟩ := opened h0
  refine (walk W a0 len0 cap0 hb0 hlc0 hcm0).mono fun e W' ⟨he, hb⟩ => ?_
  subst he
  refine ⟨_, rfl, [_], [], p, [], p, [], hW', trodAll_mk1 (shut_bool Try.underlying4 _), ?_, rfl, hb.frame _, fun h => by cases h⟩
  exact trodAll_mk1 (Below.trod Facts.laidOut (by kernel_rfl) (of_decide_eq_true (by kernel_rfl)) h0 hb hlt)

theorem named : Try.prog.funcNamed Rows.fnFlatWidthRow.func = some 10 := by kernel_rfl
theorem closed : joinedFacts Try.prog 10 Try.f10 Rows.fnFlatWidthSpec Rows.fnFlatWidthRow = true :=
  Facts.closed_of rfl rfl rfl rfl (h28b := rfl) (by kernel_rfl) (by kernel_rfl) (by kernel_rfl) (by kernel_rfl) (by kernel_rfl) (by kernel_rfl) (by kernel_rfl) (by kernel_rfl) (by kernel_rfl) (by kernel_rfl) (by kernel_rfl) (by kernel_rfl) (by kernel_rfl) (by kernel_rfl) (by kernel_rfl) (by kernel_rfl) (by kernel_rfl) (by kernel_rfl) (by kernel_rfl) (by kernel_rfl) (by kernel_rfl) (by kernel_rfl) (by kernel_rfl) (by kernel_rfl)
theorem instanced : Try.f10.isInstance Try.prog Rows.fnFlatWidthRow.origin Rows.fnFlatWidthRow.targs := of_decide_eq_true (by kernel_rfl)
theorem wrapped : Try.f10.isWrapper Try.prog Rows.fnFlatWidthRow.wrapper Rows.fnFlatWidthRow.mainSum := by
  unfold Func.isWrapper
  rw [if_neg (of_decide_eq_false (by kernel_rfl))]
  exact ⟨rfl, rfl⟩

theorem holds : Rows.FnFlatWidthSaid :=
  OpenClaim.holds_of_wide 10 Try.f10 rfl rfl rfl rfl rfl rfl rfl ⟨rfl, rfl, rfl, rfl, rfl⟩ rfl rfl rfl rfl rfl named Try.func10 closed instanced wrapped
    (fun os started H enc _ => lifted os started H enc)

end Go.Proofs.Ytlpmocdbmnpjcaa.lawFlatWidth

