import Derived.Test.YtlpmocdbmnpjcaaDrN
import Derived.Test.YtlpmocdbmnpjcaaDocC
import Derived.Test.YtlpmocdbmnpjcaaDrZ
import Derived.Test.YtlpmocdbmnpjcaaFacts
import Derived.Test.YtlpmocdbmnpjcaaRows
import Derived.Deep.RegionHeld3
import Derived.Deep.DeepCutAuto
import Derived.Deep.RegionWith
/-
  Choices are pairs: the law FnChoiceCat returns true for whatever draws, and its argument reads as it did. No condition of ours.
-/
set_option linter.unusedVariables false
set_option linter.unusedSimpArgs false
namespace Go.Proofs.Ytlpmocdbmnpjcaa.lawChoiceCat
open Go.ChangeShapes Go.WideShapes Go.ChangeAt Go.RowKit P1 Draw6 LawC CntC DocK OpenR LayN ChP

set_option maxRecDepth 100000 in
set_option maxHeartbeats 6400000 in
theorem walk_good (w : World) (a0 : Option Addr) (len0 cap0 : Nat) (hb0 : Bytes w a0 len0) (hlc0 : len0 ≤ cap0) (hcm0 : cap0 ≤ maxLen) (hl0 : len0 ≤ 1048576) :
    Calls Try.prog 6 #[.slice a0 len0 cap0] w fun e w' => e = .returned (.bool true) ∧ Ext w w' := by
  have HD0 := Lib.hid (DrN.drawChoiceOf w a0 len0 cap0 hb0 hlc0 hcm0)
  clear hb0
  unfold maxLen at hcm0
  go_enter Try.func6, Try.ntmps6
  go_wp2_with fail
  refine HD0.out.mono ?_
  rintro e1 w1 ⟨o, n, t, k, a, cap, fs, i, rfl, hi, hc, hsz, hsub, hfr, hb1⟩
  have D1 := Lib.hid (show DocK.Doc0 w1 n t k a cap fs from ⟨hsub, fun c hc => (hfr.2 c hc).2, hc, by omega⟩)
  have E1 := Lib.hid (show Ext w w1 from hb1)
  have hkl : k.len ≤ 100000 := D1.out.len
  clear hsub hfr hb1
  obtain ⟨⟨X, V⟩, hr⟩ : ∃ r, chR o n t k i = r := ⟨_, rfl⟩
  have HSZ := Lib.hid hsz
  have HR := Lib.hid hr
  have HXI := Lib.hid (show ∀ W : World, Ext w1 W → Calls Try.prog 28 #[.agg #[.int .i64 o, .int .i64 n, .string t, .slice a k.len cap], .int .i64 i] W (DocO.Out W X V) from fun W e => by have h := DocC.implChoice (D1.out.ext e) o i; rw [hr] at h; exact h)
  have HXS := Lib.hid (show ∀ W : World, Ext w1 W → Calls Try.prog 33 #[.agg #[.int .i64 o, .int .i64 n, .string t, .slice a k.len cap], .int .i64 i] W (DocO.Out W X V) from fun W e => by have h := DocC.specChoice (D1.out.ext e) o i; rw [hr] at h; exact h)
  clear hc hsz hr
  go_wp2_with fail
  refine (HXI.out _ ((Ext.refl w1).alloc _)).mono ?_
  rintro e2 w2 ⟨pa, ca, rfl, hlay, hb⟩
  have X2 := Lib.hid (box4 (box_new w1 _ _ _ _ _) (by simp) hb)
  have E2 := Lib.hid (((Ext.refl w1).alloc _).trans hb)
  have L2 := Lib.hid (show w1.heap.size < w2.heap.size from by have := hb.size; simp at this; omega)
  try clear x0 x1 x2 x3 l
  have Ka := Lib.hid hlay
  clear hlay
  clear hb
  obtain ⟨x0, x1, x2, x3⟩ := X2.out
  have l := L2.out
  go_wp2_with fail
  refine (HXS.out _ E2.out).mono ?_
  rintro e3 w3 ⟨pb, cb, rfl, hlay, hb⟩
  have X3 := Lib.hid (box4 X2.out L2.out hb)
  have E3 := Lib.hid (E2.out.trans hb)
  have L3 := Lib.hid (Nat.lt_of_lt_of_le L2.out hb.size)
  try clear x0 x1 x2 x3 l
  replace Ka := Lib.hid (Ka.out.ext hb)
  have Kb := Lib.hid hlay
  clear hlay
  clear hb
  obtain ⟨x0, x1, x2, x3⟩ := X3.out
  have l := L3.out
  cases V with
  | false =>
    go_wp2_with fail
    refine (DocO.LayIs.same Ka.out Kb.out).mono ?_
    rintro e4 w4 ⟨rfl, hb⟩
    have X4 := Lib.hid (box4 X3.out L3.out hb)
    have E4 := Lib.hid (E3.out.trans hb)
    have L4 := Lib.hid (Nat.lt_of_lt_of_le L3.out hb.size)
    try clear x0 x1 x2 x3 l
    replace Ka := Lib.hid (Ka.out.ext hb)
    replace Kb := Lib.hid (Kb.out.ext hb)
    clear hb
    obtain ⟨x0, x1, x2, x3⟩ := X4.out
    have l := L4.out
    go_wp2_with fail
    refine (DocO.LayIs.same Ka.out Kb.out).mono ?_
    rintro e5 w5 ⟨rfl, hb⟩
    have X5 := Lib.hid (box4 X4.out L4.out hb)
    have E5 := Lib.hid (E4.out.trans hb)
    have L5 := Lib.hid (Nat.lt_of_lt_of_le L4.out hb.size)
    try clear x0 x1 x2 x3 l
    replace Ka := Lib.hid (Ka.out.ext hb)
    replace Kb := Lib.hid (Kb.out.ext hb)
    clear hb
    obtain ⟨x0, x1, x2, x3⟩ := X5.out
    have l := L5.out
    go_wp2_with fail
    go_ret
    exact ⟨by first | rfl | simp, E1.out.trans E5.out⟩
  | true =>
    go_wp2_with fail
    refine (DocO.LayIs.same Ka.out Kb.out).mono ?_
    rintro e4 w4 ⟨rfl, hb⟩
    have X4 := Lib.hid (box4 X3.out L3.out hb)
    have E4 := Lib.hid (E3.out.trans hb)
    have L4 := Lib.hid (Nat.lt_of_lt_of_le L3.out hb.size)
    try clear x0 x1 x2 x3 l
    replace Ka := Lib.hid (Ka.out.ext hb)
    replace Kb := Lib.hid (Kb.out.ext hb)
    clear hb
    obtain ⟨x0, x1, x2, x3⟩ := X4.out
    have l := L4.out
    cases hoo : (o == 7) with
    | false =>
      go_wp2_with fail
      refine (DocO.LayIs.same Ka.out Kb.out).mono ?_
      rintro e5 w5 ⟨rfl, hb⟩
      have X5 := Lib.hid (box4 X4.out L4.out hb)
      have E5 := Lib.hid (E4.out.trans hb)
      have L5 := Lib.hid (Nat.lt_of_lt_of_le L4.out hb.size)
      try clear x0 x1 x2 x3 l
      replace Ka := Lib.hid (Ka.out.ext hb)
      replace Kb := Lib.hid (Kb.out.ext hb)
      clear hb
      obtain ⟨x0, x1, x2, x3⟩ := X5.out
      have l := L5.out
      go_wp2_with fail
      go_ret
      exact ⟨by first | rfl | simp, E1.out.trans E5.out⟩
    | true =>
      have ho7 : o = 7 := by simpa using hoo
      clear hoo
      obtain ⟨hm, hi0, hi1, hXe⟩ := DocC.chR_open HR.out
      obtain ⟨o1, n1, t1, k1, o2, n2, t2, k2, rfl⟩ := two_kids (DocO.valid_two (DocC.many_yes hm).1 ho7)
      subst ho7
      obtain ⟨j, hj⟩ : ∃ j : Nat, i.toNat = j := ⟨_, rfl⟩
      have hij : (j : Int) = i := by omega
      rw [hj] at hXe
      obtain ⟨q1, q2, q3⟩ := DocC.cat_choice hm (i := j) (by omega)
      obtain ⟨m1, m2⟩ := DocC.many_kids hm
      rw [← hXe] at q3
      obtain ⟨b1, f0, a1, c1, f1, rfl, hbl, hD1, z0, z1, z2, z3⟩ := D1.out.kid' (p := .nil) rfl
      obtain ⟨b2, f3, a2, c2, f2, hab, _, hD2, y0, y1, y2, y3⟩ := D1.out.kid' (p := .cons o1 n1 t1 k1 .nil) rfl
      cases hab
      simp only [F.len, Nat.zero_mul, Nat.add_zero] at z0 z1 z2 z3
      simp only [F.len, Nat.zero_add, Nat.one_mul] at y0 y1 y2 y3
      have HZ := Lib.hid (fun (W : World) (e : Ext w1 W) => And.intro ((e.cell hbl).trans z0) (And.intro ((e.cell hbl).trans z1) (And.intro ((e.cell hbl).trans z2) ((e.cell hbl).trans z3))))
      have HY := Lib.hid (fun (W : World) (e : Ext w1 W) => And.intro ((e.cell hbl).trans y0) (And.intro ((e.cell hbl).trans y1) (And.intro ((e.cell hbl).trans y2) ((e.cell hbl).trans y3))))
      clear z0 z1 z2 z3 y0 y1 y2 y3
      obtain ⟨K, hK⟩ : ∃ K : Nat, ctD o2 k2 = K := ⟨_, rfl⟩
      have hKp : 0 < K := by rw [← hK]; exact ctD_pos o2 k2
      have hK5 : K ≤ 100000 := by rw [← hK]; exact (DocC.many_yes m2).2
      have hj5 : i ≤ 100000 := by have := (DocC.many_yes hm).2; omega
      obtain ⟨c, hcK⟩ : ∃ c : Int, (K : Int) = c := ⟨_, rfl⟩
      have hc1 : 1 ≤ c := by omega
      have hc5 : c ≤ 100000 := by omega
      obtain ⟨X1, hX1⟩ : ∃ X1, pkD o1 n1 t1 k1 (j / K) = X1 := ⟨_, rfl⟩
      obtain ⟨Y1, hY1⟩ : ∃ Y1, pkD o2 n2 t2 k2 (j % K) = Y1 := ⟨_, rfl⟩
      rw [hK] at q1 q2 q3
      rw [hX1, hY1] at q3
      obtain ⟨qq, hqq⟩ : ∃ qq : Int, ((j / K : Nat) : Int) = qq := ⟨_, rfl⟩
      obtain ⟨rr, hrr⟩ : ∃ rr : Int, ((j % K : Nat) : Int) = rr := ⟨_, rfl⟩
      have hch1 : chR o1 n1 t1 k1 qq = (X1, true) := by rw [← hqq, chR_yes m1 (Int.natCast_nonneg _) (Int.ofNat_lt.2 q1), ← hX1]; rfl
      have hch2 : chR o2 n2 t2 k2 rr = (Y1, true) := by rw [← hrr, chR_yes m2 (Int.natCast_nonneg _) (by rw [hK]; exact Int.ofNat_lt.2 q2), ← hY1]; rfl
      have hcc : ChS.ccN o2 n2 t2 k2 = c := by rw [ChS.ccN, m2, hK, ← hcK]; rfl
      have HKC := Lib.hid (show ∀ W : World, Ext w1 W → Calls Try.prog 26 #[.agg #[.int .i64 o2, .int .i64 n2, .string t2, .slice a2 k2.len c2]] W (fun e w' => e = .returned (.tuple #[.int .i64 c, .bool true]) ∧ Ext W w') from fun W e => by have h := DocC.implCount (hD2.ext e) o2; rw [hcc, m2] at h; exact h)
      have HK1 := Lib.hid (show ∀ W : World, Ext w1 W → Calls Try.prog 28 #[.agg #[.int .i64 o1, .int .i64 n1, .string t1, .slice a1 k1.len c1], .int .i64 qq] W (DocO.Out W X1 true) from fun W e => by have h := DocC.implChoice (hD1.ext e) o1 qq; rw [hch1] at h; exact h)
      have HK2 := Lib.hid (show ∀ W : World, Ext w1 W → Calls Try.prog 28 #[.agg #[.int .i64 o2, .int .i64 n2, .string t2, .slice a2 k2.len c2], .int .i64 rr] W (DocO.Out W Y1 true) from fun W e => by have h := DocC.implChoice (hD2.ext e) o2 rr; rw [hch2] at h; exact h)
      have HCAT := Lib.hid (show ∀ (W : World) (a c a' c'), DocO.LayIs W X1 a c → DocO.LayIs W Y1 a' c' → Calls Try.prog 34 #[.slice a X1.length c, .slice a' Y1.length c'] W (DocO.Out W X true) from fun W a c a' c' h h' => by have g := h.cat h'; rw [q3] at g; exact g)
      have qe : i / c = qq := by rw [← hij, ← hcK, ← hqq]; rfl
      have re : i % c = rr := by rw [← hij, ← hcK, ← hrr]; rfl
      have qt : IntKind.i64.wrap (i.tdiv c) = qq := by
        rw [← qe, Int.tdiv_eq_ediv_of_nonneg hi0]
        exact IntWalk.i64_in _ ⟨by have := Int.ediv_nonneg hi0 (show 0 ≤ c by omega); omega, by have := Int.ediv_le_self c hi0; omega⟩
      have rt : i.tmod c = rr := by rw [← re, Int.tmod_eq_emod_of_nonneg hi0]
      have HQ := Lib.hid (And.intro qt (And.intro rt (And.intro qe re)))
      have hc0 : ¬ (c = 0) := by omega
      have hc0b : (c == 0) = false := beq_eq_false_iff_ne.2 hc0
      have hx2 : (F.cons o1 n1 t1 k1 (.cons o2 n2 t2 k2 .nil)).len = 2 := rfl
      have HBL := Lib.hid hbl
      clear hm hXe q1 q2 q3 m1 m2 hD1 hD2 hbl hK hX1 hY1 hqq hrr hch1 hch2 hcc qt rt qe re hj hij hcK hKp hK5
      clear x0 x1 x2 x3
      have X4 := Lib.hid (show w4.cell? ⟨w1.heap.size, 0, none⟩ = some (.int .i64 7) ∧ w4.cell? ⟨w1.heap.size, 1, none⟩ = some (.int .i64 n) ∧ w4.cell? ⟨w1.heap.size, 2, none⟩ = some (.string t) ∧ w4.cell? ⟨w1.heap.size, 3, none⟩ = some (.slice (some ⟨b1, f0, none⟩) 2 cap) from X4.out)
      obtain ⟨x0, x1, x2, x3⟩ := X4.out
      obtain ⟨y0, y1, y2, y3⟩ := HY.out _ E4.out
      go_wp2_with fail
      refine (HKC.out _ E4.out).mono ?_
      rintro e5 w5 ⟨rfl, hb⟩
      have X5 := Lib.hid (box4 X4.out L4.out hb)
      have E5 := Lib.hid (E4.out.trans hb)
      have L5 := Lib.hid (Nat.lt_of_lt_of_le L4.out hb.size)
      try clear x0 x1 x2 x3 l
      replace Ka := Lib.hid (Ka.out.ext hb)
      replace Kb := Lib.hid (Kb.out.ext hb)
      clear hb
      obtain ⟨x0, x1, x2, x3⟩ := X5.out
      have l := L5.out
      clear y0 y1 y2 y3
      obtain ⟨z0, z1, z2, z3⟩ := HZ.out _ E5.out
      have lb := Nat.lt_of_lt_of_le HBL.out E5.out.size
      go_wp2_with fail
      obtain ⟨qt, rt, qe, re⟩ := HQ.out
      go_region_held3 (fun w' => w'.cell? ⟨w1.heap.size, 3, none⟩ = some (.slice (some ⟨b1, f0, none⟩) 2 cap) ∧ w'.cell? ⟨b1, f0, none⟩ = some (.int .i64 o1) ∧ w'.cell? ⟨b1, f0 + 1, none⟩ = some (.int .i64 n1) ∧ w'.cell? ⟨b1, f0 + 2, none⟩ = some (.string t1) ∧ w'.cell? ⟨b1, f0 + 3, none⟩ = some (.slice a1 k1.len c1))
        (first | go_keep | (refine ⟨?_, ?_, ?_, ?_, ?_⟩ <;> (first | assumption | (rw [hb'.cell (by first | (simp; done) | (simp; omega) | omega)]; assumption))))
        (first | (go_at_call 28; refine (HK1.out _ (by first | exact E5.out | exact E5.out.drew)).mono ?_; rintro e6 w6 ⟨pf, cf, rfl, hlay, hb'⟩))
      all_goals
        have hb : Ext w5 w6 := (by first | exact hb' | exact ((Ext.refl w5).drew).trans hb')
        clear qt rt qe re z0 z1 z2 z3 lb
        have X6 := Lib.hid (box4 X5.out L5.out hb)
        have E6 := Lib.hid (E5.out.trans hb)
        have L6 := Lib.hid (Nat.lt_of_lt_of_le L5.out hb.size)
        try clear x0 x1 x2 x3 l
        replace Ka := Lib.hid (Ka.out.ext hb)
        replace Kb := Lib.hid (Kb.out.ext hb)
        have Kf := Lib.hid hlay
        clear hlay hb hb'
        obtain ⟨x0, x1, x2, x3⟩ := X6.out
        have l := L6.out
        obtain ⟨z0, z1, z2, z3⟩ := HY.out _ E6.out
        have lb := Nat.lt_of_lt_of_le HBL.out E6.out.size
        go_wp2_with fail
        obtain ⟨qt, rt, qe, re⟩ := HQ.out
        go_region_held3 (fun w' => w'.cell? ⟨w1.heap.size, 3, none⟩ = some (.slice (some ⟨b1, f0, none⟩) 2 cap) ∧ w'.cell? ⟨b1, f0 + 4, none⟩ = some (.int .i64 o2) ∧ w'.cell? ⟨b1, f0 + 4 + 1, none⟩ = some (.int .i64 n2) ∧ w'.cell? ⟨b1, f0 + 4 + 2, none⟩ = some (.string t2) ∧ w'.cell? ⟨b1, f0 + 4 + 3, none⟩ = some (.slice a2 k2.len c2))
          (first | go_keep | (refine ⟨?_, ?_, ?_, ?_, ?_⟩ <;> (first | assumption | (rw [hb'.cell (by first | (simp; done) | (simp; omega) | omega)]; assumption))))
          (first | (go_at_call 28; refine (HK2.out _ (by first | exact E6.out | exact E6.out.drew)).mono ?_; rintro e7 w7 ⟨ph, ch, rfl, hlay, hb'⟩))
        all_goals
          have hb : Ext w6 w7 := (by first | exact hb' | exact ((Ext.refl w6).drew).trans hb')
          clear qt rt qe re z0 z1 z2 z3 lb
          have X7 := Lib.hid (box4 X6.out L6.out hb)
          have E7 := Lib.hid (E6.out.trans hb)
          have L7 := Lib.hid (Nat.lt_of_lt_of_le L6.out hb.size)
          try clear x0 x1 x2 x3 l
          replace Ka := Lib.hid (Ka.out.ext hb)
          replace Kb := Lib.hid (Kb.out.ext hb)
          replace Kf := Lib.hid (Kf.out.ext hb)
          have Kh := Lib.hid hlay
          clear hlay hb hb'
          obtain ⟨x0, x1, x2, x3⟩ := X7.out
          have l := L7.out
          go_wp2_with fail
          refine (HCAT.out _ _ _ _ _ Kf.out Kh.out).mono ?_
          rintro e8 w8 ⟨pm, cm, rfl, hlay, hb⟩
          have X8 := Lib.hid (box4 X7.out L7.out hb)
          have E8 := Lib.hid (E7.out.trans hb)
          have L8 := Lib.hid (Nat.lt_of_lt_of_le L7.out hb.size)
          try clear x0 x1 x2 x3 l
          replace Ka := Lib.hid (Ka.out.ext hb)
          replace Kb := Lib.hid (Kb.out.ext hb)
          replace Kf := Lib.hid (Kf.out.ext hb)
          replace Kh := Lib.hid (Kh.out.ext hb)
          have Km := Lib.hid hlay
          clear hlay
          clear hb
          obtain ⟨x0, x1, x2, x3⟩ := X8.out
          have l := L8.out
          go_wp2_with fail
          refine (DocO.LayIs.same Km.out Ka.out).mono ?_
          rintro e9 w9 ⟨rfl, hb⟩
          have X9 := Lib.hid (box4 X8.out L8.out hb)
          have E9 := Lib.hid (E8.out.trans hb)
          have L9 := Lib.hid (Nat.lt_of_lt_of_le L8.out hb.size)
          try clear x0 x1 x2 x3 l
          replace Ka := Lib.hid (Ka.out.ext hb)
          replace Kb := Lib.hid (Kb.out.ext hb)
          replace Kf := Lib.hid (Kf.out.ext hb)
          replace Kh := Lib.hid (Kh.out.ext hb)
          replace Km := Lib.hid (Km.out.ext hb)
          clear hb
          go_wp2_with fail
          go_ret
          exact ⟨by first | rfl | simp, E1.out.trans E9.out⟩

set_option maxHeartbeats 400000 in
theorem walk_big (w : World) (a0 : Option Addr) (len0 cap0 : Nat) (hl0 : 1048576 < len0) :
    Calls Try.prog 6 #[.slice a0 len0 cap0] w fun e w' => e = .returned (.bool true) ∧ Ext w w' := by
  have h1 : (1048576 : Int) < (len0 : Int) := by omega
  go_enter Try.func6, Try.ntmps6
  go_wp2_with fail
  go_ret
  exact ⟨rfl, Ext.refl w⟩

theorem walk (w : World) (a0 : Option Addr) (len0 cap0 : Nat) (hb0 : Bytes w a0 len0) (hlc0 : len0 ≤ cap0) (hcm0 : cap0 ≤ maxLen) :
    Calls Try.prog 6 #[.slice a0 len0 cap0] w fun e w' => e = .returned (.bool true) ∧ Below w.heap.size w w' := by
  by_cases h : 1048576 < len0
  · exact walk_big w a0 len0 cap0 h
  · exact walk_good w a0 len0 cap0 hb0 hlc0 hcm0 (by omega)

set_option maxRecDepth 100000 in
theorem lifted (os : Os) (started : os.Started) (H : Type) (enc : TypeId × Value → H) :
    ReturnsInHanded {} Try.checked os 6 .any (Rows.fnChoiceCatSpec.pre6 enc Try.prog Try.f6 Rows.fnChoiceCatRow.domain false) (Rows.fnChoiceCatSpec.post enc Try.prog Try.f6 false true false false) := by
  refine returnsInHanded_of_change (C := Try.checked) Facts.own started (by kernel_rfl) Try.func6
    (ChangeSpec.witness6 (enc := enc) (C := Try.checked) false ⟨#[], #[.slice none 0 0], []⟩ 8 (by kernel_rfl) (by kernel_rfl) (by kernel_rfl) (by kernel_rfl)) ?_
  intro W base args ds gs before hval0 hW hcnd0 _
  clear hcnd0
  have hval : ∀ (j : Nat) t v, Try.f6.params[j]? = some t → args[j]? = some v → Value.okWide Try.prog W .any base t v := hval0
  have hW' := hW
  obtain ⟨p, q, hA0, hV, rfl, hfz, hnd⟩ := hW
  have hA : DataW.TrodAll enc Try.prog W 0 (fun _ => true) true Try.f6.params.toList args.toList ds p := hA0
  rw [Try.params6] at hA hval
  obtain ⟨v0, d0, rfl, rfl, h0⟩ := trodAll_one hA
  obtain ⟨rfl, rfl⟩ := trodVars_none hV
  obtain ⟨a0, len0, cap0, rfl⟩ := okWide_slice Try.underlying22 (hval 0 22 v0 rfl rfl)
  clear hA0 hval0
  simp only [List.append_nil] at hW'
  have hlt : ∀ x ∈ p, x.block < W.heap.size := fun x hx => by simpa using hW'.lt x hx
  obtain ⟨hb0, hlc0, hcm0⟩ := opened h0
  refine (walk W a0 len0 cap0 hb0 hlc0 hcm0).mono fun e W' ⟨he, hb⟩ => ?_
  subst he
  refine ⟨_, rfl, [_], [], p, [], p, [], hW', trodAll_mk1 (shut_bool Try.underlying4 _), ?_, rfl, hb.frame _, fun h => by cases h⟩
  exact trodAll_mk1 (Below.trod Facts.laidOut (by kernel_rfl) (of_decide_eq_true (by kernel_rfl)) h0 hb hlt)

theorem named : Try.prog.funcNamed Rows.fnChoiceCatRow.func = some 6 := by kernel_rfl
theorem closed : joinedFacts Try.prog 6 Try.f6 Rows.fnChoiceCatSpec Rows.fnChoiceCatRow = true :=
  Facts.closed_of rfl rfl rfl rfl (h28b := rfl) (by kernel_rfl) (by kernel_rfl) (by kernel_rfl) (by kernel_rfl) (by kernel_rfl) (by kernel_rfl) (by kernel_rfl) (by kernel_rfl) (by kernel_rfl) (by kernel_rfl) (by kernel_rfl) (by kernel_rfl) (by kernel_rfl) (by kernel_rfl) (by kernel_rfl) (by kernel_rfl) (by kernel_rfl) (by kernel_rfl) (by kernel_rfl) (by kernel_rfl) (by kernel_rfl) (by kernel_rfl) (by kernel_rfl) (by kernel_rfl)
theorem instanced : Try.f6.isInstance Try.prog Rows.fnChoiceCatRow.origin Rows.fnChoiceCatRow.targs := of_decide_eq_true (by kernel_rfl)
theorem wrapped : Try.f6.isWrapper Try.prog Rows.fnChoiceCatRow.wrapper Rows.fnChoiceCatRow.mainSum := by
  unfold Func.isWrapper
  rw [if_neg (of_decide_eq_false (by kernel_rfl))]
  exact ⟨rfl, rfl⟩

theorem holds : Rows.FnChoiceCatSaid :=
  OpenClaim.holds_of_wide 6 Try.f6 rfl rfl rfl rfl rfl rfl rfl ⟨rfl, rfl, rfl, rfl, rfl⟩ rfl rfl rfl rfl rfl named Try.func6 closed instanced wrapped
    (fun os started H enc _ => lifted os started H enc)

end Go.Proofs.Ytlpmocdbmnpjcaa.lawChoiceCat

