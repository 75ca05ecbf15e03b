import Derived.Test.YtpiaiandjnpdfaaDrV
import Derived.Test.YtpiaiandjnpdfaaDocL
import Derived.Test.YtpiaiandjnpdfaaDrZ
import Derived.Test.YtpiaiandjnpdfaaFacts
import Derived.Test.YtpiaiandjnpdfaaRows
import Derived.Deep.RegionHeld3
import Derived.Deep.DeepCutAuto
import Derived.Deep.RegionWith
/-
  Extremes are extreme: the law FnNarrowest returns true for whatever draws, and its argument reads as it did. No condition of ours.
-/
set_option linter.unusedVariables false
set_option linter.unusedSimpArgs false
namespace Go.Proofs.Ytpiaiandjnpdfaa.lawNarrowest
open Go.ChangeShapes Go.WideShapes Go.ChangeAt Go.RowKit P1 Draw6 LawC CntC DocK OpenR LayN ChP 

set_option maxRecDepth 100000 in
set_option maxHeartbeats 6400000 in
theorem walk_good (w : World) (a0 : Option Addr) (len0 cap0 : Nat) (hb0 : Bytes w a0 len0) (hlc0 : len0 ≤ cap0) (hcm0 : cap0 ≤ maxLen) (hl0 : len0 ≤ 1048576) :
    Calls Try.prog 6 #[.slice a0 len0 cap0] w fun e w' => e = .returned (.bool true) ∧ Ext w w' := by
  have HD0 := Lib.hid (DrN.drawNarrowest w a0 len0 cap0 hb0 hlc0 hcm0)
  clear hb0
  unfold maxLen at hcm0
  go_enter Try.func6, Try.ntmps6
  go_wp2_with fail
  refine HD0.out.mono ?_
  rintro e1 w1 ⟨o, n, t, k, a, cap, fs, rfl, hc, hsz, hsub, hfr, hb1⟩
  have D1 := Lib.hid (show DocK.Doc0 w1 n t k a cap fs from ⟨hsub, fun c hc => (hfr.2 c hc).2, hc, by omega⟩)
  have E1 := Lib.hid (show Ext w w1 from hb1)
  have hkl : k.len ≤ 100000 := D1.out.len
  clear hsub hfr hb1
  obtain ⟨A, hA⟩ : ∃ A, (It.bestR false o n t k).1 = A := ⟨_, rfl⟩
  obtain ⟨B, hB⟩ : ∃ B, (It.bestR true o n t k).1 = B := ⟨_, rfl⟩
  obtain ⟨V, hV⟩ : ∃ V, It.toldD o n t k = V := ⟨_, rfl⟩
  have HSZ := Lib.hid hsz
  have HXV := Lib.hid (And.intro hA (And.intro hB hV))
  have HNI := Lib.hid (show ∀ W : World, Ext w1 W → Calls Try.prog 29 #[.agg #[.int .i64 o, .int .i64 n, .string t, .slice a k.len cap]] W (DocO.Out W A V) from fun W e => by have h := DocL.implNar (D1.out.ext e) o; rw [show (It.bestR false o n t k).2 = V from hV, hA] at h; exact h)
  have HNS := Lib.hid (show ∀ W : World, Ext w1 W → Calls Try.prog 30 #[.agg #[.int .i64 o, .int .i64 n, .string t, .slice a k.len cap]] W (DocO.Out W A V) from fun W e => by have h := DocL.specNar (D1.out.ext e) o; rw [show (It.bestR false o n t k).2 = V from hV, hA] at h; exact h)
  have HSI := Lib.hid (show ∀ W : World, Ext w1 W → Calls Try.prog 31 #[.agg #[.int .i64 o, .int .i64 n, .string t, .slice a k.len cap]] W (DocO.Out W B V) from fun W e => by have h := DocL.implSho (D1.out.ext e) o; rw [show (It.bestR true o n t k).2 = V from hV, hB] at h; exact h)
  have HSS := Lib.hid (show ∀ W : World, Ext w1 W → Calls Try.prog 32 #[.agg #[.int .i64 o, .int .i64 n, .string t, .slice a k.len cap]] W (DocO.Out W B V) from fun W e => by have h := DocL.specSho (D1.out.ext e) o; rw [show (It.bestR true o n t k).2 = V from hV, hB] at h; exact h)
  clear hc hsz hA hB hV
  go_wp2_with fail
  refine (HNI.out _ ((Ext.refl w1).alloc _)).mono ?_
  rintro e2 w2 ⟨pa, ca, rfl, hlay, hb⟩
  have X2 := Lib.hid (box4 (box_new w1 _ _ _ _ _) (by simp) hb)
  have E2 := Lib.hid (((Ext.refl w1).alloc _).trans hb)
  have L2 := Lib.hid (show w1.heap.size < w2.heap.size from by have := hb.size; simp at this; omega)
  try clear x0 x1 x2 x3 l
  have Ka := Lib.hid hlay
  clear hlay
  clear hb
  obtain ⟨x0, x1, x2, x3⟩ := X2.out
  have l := L2.out
  go_wp2_with fail
  refine (HNS.out _ E2.out).mono ?_
  rintro e3 w3 ⟨pb, cb, rfl, hlay, hb⟩
  have X3 := Lib.hid (box4 X2.out L2.out hb)
  have E3 := Lib.hid (E2.out.trans hb)
  have L3 := Lib.hid (Nat.lt_of_lt_of_le L2.out hb.size)
  try clear x0 x1 x2 x3 l
  replace Ka := Lib.hid (Ka.out.ext hb)
  have Kb := Lib.hid hlay
  clear hlay
  clear hb
  obtain ⟨x0, x1, x2, x3⟩ := X3.out
  have l := L3.out
  go_wp2_with fail
  refine (HSI.out _ E3.out).mono ?_
  rintro e4 w4 ⟨pc, cc, rfl, hlay, hb⟩
  have X4 := Lib.hid (box4 X3.out L3.out hb)
  have E4 := Lib.hid (E3.out.trans hb)
  have L4 := Lib.hid (Nat.lt_of_lt_of_le L3.out hb.size)
  try clear x0 x1 x2 x3 l
  replace Ka := Lib.hid (Ka.out.ext hb)
  replace Kb := Lib.hid (Kb.out.ext hb)
  have Kc := Lib.hid hlay
  clear hlay
  clear hb
  obtain ⟨x0, x1, x2, x3⟩ := X4.out
  have l := L4.out
  go_wp2_with fail
  refine (HSS.out _ E4.out).mono ?_
  rintro e5 w5 ⟨pd, cd, rfl, hlay, hb⟩
  have X5 := Lib.hid (box4 X4.out L4.out hb)
  have E5 := Lib.hid (E4.out.trans hb)
  have L5 := Lib.hid (Nat.lt_of_lt_of_le L4.out hb.size)
  try clear x0 x1 x2 x3 l
  replace Ka := Lib.hid (Ka.out.ext hb)
  replace Kb := Lib.hid (Kb.out.ext hb)
  replace Kc := Lib.hid (Kc.out.ext hb)
  have Kd := Lib.hid hlay
  clear hlay
  clear hb
  obtain ⟨x0, x1, x2, x3⟩ := X5.out
  have l := L5.out
  go_wp2_with fail
  refine (DocO.LayIs.same Ka.out Kb.out).mono ?_
  rintro e6 w6 ⟨rfl, hb⟩
  have X6 := Lib.hid (box4 X5.out L5.out hb)
  have E6 := Lib.hid (E5.out.trans hb)
  have L6 := Lib.hid (Nat.lt_of_lt_of_le L5.out hb.size)
  try clear x0 x1 x2 x3 l
  replace Ka := Lib.hid (Ka.out.ext hb)
  replace Kb := Lib.hid (Kb.out.ext hb)
  replace Kc := Lib.hid (Kc.out.ext hb)
  replace Kd := Lib.hid (Kd.out.ext hb)
  clear hb
  obtain ⟨x0, x1, x2, x3⟩ := X6.out
  have l := L6.out
  go_wp2_with fail
  refine (DocO.LayIs.same Kc.out Kd.out).mono ?_
  rintro e7 w7 ⟨rfl, hb⟩
  have X7 := Lib.hid (box4 X6.out L6.out hb)
  have E7 := Lib.hid (E6.out.trans hb)
  have L7 := Lib.hid (Nat.lt_of_lt_of_le L6.out hb.size)
  try clear x0 x1 x2 x3 l
  replace Ka := Lib.hid (Ka.out.ext hb)
  replace Kb := Lib.hid (Kb.out.ext hb)
  replace Kc := Lib.hid (Kc.out.ext hb)
  replace Kd := Lib.hid (Kd.out.ext hb)
  clear hb
  obtain ⟨x0, x1, x2, x3⟩ := X7.out
  have l := L7.out
  cases V with
  | false =>
    go_wp2_with fail
    refine (DocO.LayIs.same Ka.out Kb.out).mono ?_
    rintro e8 w8 ⟨rfl, hb⟩
    have X8 := Lib.hid (box4 X7.out L7.out hb)
    have E8 := Lib.hid (E7.out.trans hb)
    have L8 := Lib.hid (Nat.lt_of_lt_of_le L7.out hb.size)
    try clear x0 x1 x2 x3 l
    replace Ka := Lib.hid (Ka.out.ext hb)
    replace Kb := Lib.hid (Kb.out.ext hb)
    replace Kc := Lib.hid (Kc.out.ext hb)
    replace Kd := Lib.hid (Kd.out.ext hb)
    clear hb
    obtain ⟨x0, x1, x2, x3⟩ := X8.out
    have l := L8.out
    go_wp2_with fail
    refine (DocO.LayIs.same Kc.out Kd.out).mono ?_
    rintro e9 w9 ⟨rfl, hb⟩
    have X9 := Lib.hid (box4 X8.out L8.out hb)
    have E9 := Lib.hid (E8.out.trans hb)
    have L9 := Lib.hid (Nat.lt_of_lt_of_le L8.out hb.size)
    try clear x0 x1 x2 x3 l
    replace Ka := Lib.hid (Ka.out.ext hb)
    replace Kb := Lib.hid (Kb.out.ext hb)
    replace Kc := Lib.hid (Kc.out.ext hb)
    replace Kd := Lib.hid (Kd.out.ext hb)
    clear hb
    obtain ⟨x0, x1, x2, x3⟩ := X9.out
    have l := L9.out
    go_wp2_with fail
    go_ret
    exact ⟨by first | rfl | simp, E1.out.trans E9.out⟩
  | true =>
    obtain ⟨hA, hB, hV⟩ := HXV.out
    obtain ⟨X, hX⟩ : ∃ A, It.laysD o n t k = A := ⟨_, rfl⟩
    have hAm : Ls.inL X A = true := Ls.inL_iff.2 (by rw [← hA, ← hX]; exact It.best_mem hV)
    have hBm : Ls.inL X B = true := Ls.inL_iff.2 (by rw [← hB, ← hX]; exact It.best_mem hV)
    have hAl : ∀ x ∈ X, ¬ (lw x < lw A) := fun x hx => by
      have := It.best_le (lines := false) (o := o) (n := n) (t := t) (k := k) x (by rw [hX]; exact hx)
      rw [hA] at this
      have h2 : lw A ≤ lw x := this
      omega
    have hBl : ∀ x ∈ X, ¬ ((x.length : Int) < (B.length : Int)) := fun x hx => by
      have := It.best_le (lines := true) (o := o) (n := n) (t := t) (k := k) x (by rw [hX]; exact hx)
      rw [hB] at this
      have h2 : (B.length : Int) ≤ (x.length : Int) := this
      omega
    obtain ⟨M, hM⟩ : ∃ M : Nat, X.length = M := ⟨_, rfl⟩
    have HM := Lib.hid hM
    have HAL := Lib.hid (And.intro hAl hBl)
    have HIN := Lib.hid (And.intro hAm hBm)
    have HL := Lib.hid (show ∀ W : World, Ext w1 W → Calls Try.prog 15 #[.agg #[.int .i64 o, .int .i64 n, .string t, .slice a k.len cap]] W (DocL.LOut W X true) from fun W e => by have h := DocL.implLays (D1.out.ext e) o; rw [hX, hV] at h; exact h)
    have HHA := Lib.hid (show ∀ (W : World), Ext w1 W → ∀ (x : Ls.Lay) (al : Option Addr) (cl : Nat), DocO.LayIs W x al cl → Calls Try.prog 25 #[.agg #[.int .i64 o, .int .i64 n, .string t, .slice a k.len cap], .slice al x.length cl] W (fun e w' => e = .returned (.bool (Ls.inL X x)) ∧ Ext W w') from fun W e x al cl hx => by
      have h := DocL.implHas (D1.out.ext e) o hx
      rw [hX] at h; exact h)
    clear hA hB hV hX hAm hBm hAl hBl
    go_wp2_with fail
    refine (HL.out _ E7.out).mono ?_
    rintro e8 w8 ⟨pe, ce, rfl, hlay, hb⟩
    have X8 := Lib.hid (box4 X7.out L7.out hb)
    have E8 := Lib.hid (E7.out.trans hb)
    have L8 := Lib.hid (Nat.lt_of_lt_of_le L7.out hb.size)
    try clear x0 x1 x2 x3 l
    replace Ka := Lib.hid (Ka.out.ext hb)
    replace Kb := Lib.hid (Kb.out.ext hb)
    replace Kc := Lib.hid (Kc.out.ext hb)
    replace Kd := Lib.hid (Kd.out.ext hb)
    have Ke := Lib.hid hlay
    clear hlay
    clear hb
    obtain ⟨x0, x1, x2, x3⟩ := X8.out
    have l := L8.out
    try rw [hM]
    have hM3 : M ≤ 300 := by rw [← hM]; exact Ke.out.few
    clear hM
    go_wp2_with fail
    go_loopw [14] (fun i wr => ∃ j : Nat, j ≤ M ∧ i = .int .i64 (j : Int) ∧ Ext w8 wr) (fun i _ => M - (intOf i).toNat)
    case atStart => exact ⟨0, by omega, rfl, Ext.refl _⟩
    case round =>
      obtain ⟨j, hj, rfl, hext⟩ := hrel
      obtain ⟨w20, hwm⟩ : ∃ W, W = wr := ⟨_, rfl⟩
      subst hwm
      have X20 := Lib.hid (box4 X8.out L8.out hext)
      have E20 := Lib.hid (E8.out.trans hext)
      have L20 := Lib.hid (Nat.lt_of_lt_of_le L8.out hext.size)
      have R := Lib.hid hext
      have RH := Lib.hid (Ext.refl w20)
      try clear x0 x1 x2 x3 l
      replace Ka := Lib.hid (Ka.out.ext hext)
      replace Kb := Lib.hid (Kb.out.ext hext)
      replace Kc := Lib.hid (Kc.out.ext hext)
      replace Kd := Lib.hid (Kd.out.ext hext)
      replace Ke := Lib.hid (Ke.out.ext hext)
      clear hext
      obtain ⟨x0, x1, x2, x3⟩ := X20.out
      have l := L20.out
      by_cases hjM : j < M
      · have hjl : j < X.length := by rw [HM.out]; exact hjM
        have i0 : (0 : Int) ≤ (j : Int) := Int.natCast_nonneg _
        have i1 : (j : Int) < (M : Int) := by omega
        obtain ⟨bx, ofx, ax, cx, rfl, hbl, hcell, hel⟩ := Ke.out.get hjl
        have hy1 := HAL.out.1 _ (List.getElem_mem hjl)
        have hy2 := HAL.out.2 _ (List.getElem_mem hjl)
        obtain ⟨Y, hY⟩ : ∃ Y, X[j] = Y := ⟨_, rfl⟩
        rw [hY] at hcell hel hy1 hy2
        have HCE := Lib.hid (fun (W : World) (e : Ext w20 W) => (e.cell hbl).trans hcell)
        have Kx := Lib.hid hel
        have HLB := Lib.hid hbl
        clear hel hY
        go_wp2_with fail
        refine (DocL.LayIs.width Kx.out).mono ?_
        rintro e21 w21 ⟨rfl, hb⟩
        have X21 := Lib.hid (box4 X20.out L20.out hb)
        have E21 := Lib.hid (E20.out.trans hb)
        have L21 := Lib.hid (Nat.lt_of_lt_of_le L20.out hb.size)
        try clear x0 x1 x2 x3 l
        replace Ka := Lib.hid (Ka.out.ext hb)
        replace Kb := Lib.hid (Kb.out.ext hb)
        replace Kc := Lib.hid (Kc.out.ext hb)
        replace Kd := Lib.hid (Kd.out.ext hb)
        replace Ke := Lib.hid (Ke.out.ext hb)
        replace Kx := Lib.hid (Kx.out.ext hb)
        replace R := Lib.hid (R.out.trans hb)
        replace RH := Lib.hid (RH.out.trans hb)
        clear hb
        clear hcell hbl
        go_wp2_with fail
        refine (DocL.LayIs.width Ka.out).mono ?_
        rintro e22 w22 ⟨rfl, hb⟩
        have X22 := Lib.hid (box4 X21.out L21.out hb)
        have E22 := Lib.hid (E21.out.trans hb)
        have L22 := Lib.hid (Nat.lt_of_lt_of_le L21.out hb.size)
        try clear x0 x1 x2 x3 l
        replace Ka := Lib.hid (Ka.out.ext hb)
        replace Kb := Lib.hid (Kb.out.ext hb)
        replace Kc := Lib.hid (Kc.out.ext hb)
        replace Kd := Lib.hid (Kd.out.ext hb)
        replace Ke := Lib.hid (Ke.out.ext hb)
        replace Kx := Lib.hid (Kx.out.ext hb)
        replace R := Lib.hid (R.out.trans hb)
        replace RH := Lib.hid (RH.out.trans hb)
        clear hb
        have hcell := HCE.out _ RH.out
        have hbl := Nat.lt_of_lt_of_le HLB.out RH.out.size
        go_wp2_with fail
        go_roundw
        case rel => exact ⟨j + 1, by omega, by go_num, R.out⟩
        case measure => simp [intOf]; omega
      · obtain rfl : j = M := by omega
        obtain ⟨hAm, hBm⟩ := HIN.out
        have HAm := Lib.hid hAm
        have HBm := Lib.hid hBm
        clear hAm hBm
        have HQA := Lib.hid (HHA.out _ E20.out _ _ _ Ka.out)
        rw [HAm.out] at HQA
        go_wp2_with fail
        refine (HQA.out).mono ?_
        rintro e21 w21 ⟨rfl, hb⟩
        have X21 := Lib.hid (box4 X20.out L20.out hb)
        have E21 := Lib.hid (E20.out.trans hb)
        have L21 := Lib.hid (Nat.lt_of_lt_of_le L20.out hb.size)
        try clear x0 x1 x2 x3 l
        replace Ka := Lib.hid (Ka.out.ext hb)
        replace Kb := Lib.hid (Kb.out.ext hb)
        replace Kc := Lib.hid (Kc.out.ext hb)
        replace Kd := Lib.hid (Kd.out.ext hb)
        replace Ke := Lib.hid (Ke.out.ext hb)
        replace R := Lib.hid (R.out.trans hb)
        replace RH := Lib.hid (RH.out.trans hb)
        clear hb
        obtain ⟨x0, x1, x2, x3⟩ := X21.out
        have l := L21.out
        have HQB := Lib.hid (HHA.out _ E21.out _ _ _ Kc.out)
        rw [HBm.out] at HQB
        go_wp2_with fail
        refine (HQB.out).mono ?_
        rintro e22 w22 ⟨rfl, hb⟩
        have X22 := Lib.hid (box4 X21.out L21.out hb)
        have E22 := Lib.hid (E21.out.trans hb)
        have L22 := Lib.hid (Nat.lt_of_lt_of_le L21.out hb.size)
        try clear x0 x1 x2 x3 l
        replace Ka := Lib.hid (Ka.out.ext hb)
        replace Kb := Lib.hid (Kb.out.ext hb)
        replace Kc := Lib.hid (Kc.out.ext hb)
        replace Kd := Lib.hid (Kd.out.ext hb)
        replace Ke := Lib.hid (Ke.out.ext hb)
        replace R := Lib.hid (R.out.trans hb)
        replace RH := Lib.hid (RH.out.trans hb)
        clear hb
        obtain ⟨x0, x1, x2, x3⟩ := X22.out
        have l := L22.out
        go_wp2_with fail
        go_ret
        exact ⟨by first | rfl | simp, E1.out.trans E22.out⟩

set_option maxHeartbeats 400000 in
theorem walk_big (w : World) (a0 : Option Addr) (len0 cap0 : Nat) (hl0 : 1048576 < len0) :
    Calls Try.prog 6 #[.slice a0 len0 cap0] w fun e w' => e = .returned (.bool true) ∧ Ext w w' := by
  have h1 : (1048576 : Int) < (len0 : Int) := by omega
  go_enter Try.func6, Try.ntmps6
  go_wp2_with fail
  go_ret
  exact ⟨rfl, Ext.refl w⟩

theorem walk (w : World) (a0 : Option Addr) (len0 cap0 : Nat) (hb0 : Bytes w a0 len0) (hlc0 : len0 ≤ cap0) (hcm0 : cap0 ≤ maxLen) :
    Calls Try.prog 6 #[.slice a0 len0 cap0] w fun e w' => e = .returned (.bool true) ∧ Below w.heap.size w w' := by
  by_cases h : 1048576 < len0
  · exact walk_big w a0 len0 cap0 h
  · exact walk_good w a0 len0 cap0 hb0 hlc0 hcm0 (by omega)

set_option maxRecDepth 100000 in
theorem lifted (os : Os) (started : os.Started) (H : Type) (enc : TypeId × Value → H) :
    ReturnsInHanded {} Try.checked os 6 .any (Rows.fnNarrowestSpec.pre6 enc Try.prog Try.f6 Rows.fnNarrowestRow.domain false) (Rows.fnNarrowestSpec.post enc Try.prog Try.f6 false true false false) := by
  refine returnsInHanded_of_change (C := Try.checked) Facts.own started (by kernel_rfl) Try.func6
    (ChangeSpec.witness6 (enc := enc) (C := Try.checked) false ⟨#[], #[.slice none 0 0], []⟩ 8 (by kernel_rfl) (by kernel_rfl) (by kernel_rfl) (by kernel_rfl)) ?_
  intro W base args ds gs before hval0 hW hcnd0 _
  clear hcnd0
  have hval : ∀ (j : Nat) t v, Try.f6.params[j]? = some t → args[j]? = some v → Value.okWide Try.prog W .any base t v := hval0
  have hW' := hW
  obtain ⟨p, q, hA0, hV, rfl, hfz, hnd⟩ := hW
  have hA : DataW.TrodAll enc Try.prog W 0 (fun _ => true) true Try.f6.params.toList args.toList ds p := hA0
  rw [Try.params6] at hA hval
  obtain ⟨v0, d0, rfl, rfl, h0⟩ := trodAll_one hA
  obtain ⟨rfl, rfl⟩ := trodVars_none hV
  obtain ⟨a0, len0, cap0, rfl⟩ := okWide_slice Try.underlying22 (hval 0 22 v0 rfl rfl)
  clear hA0 hval0
  simp only [List.append_nil] at hW'
  have hlt : ∀ x ∈ p, x.block < W.heap.size := fun x hx => by simpa using hW'.lt x hx
  obtain ⟨hb0, hlc0, hcm0⟩ := opened h0
  refine (walk W a0 len0 cap0 hb0 hlc0 hcm0).mono fun e W' ⟨he, hb⟩ => ?_
  subst he
  refine ⟨_, rfl, [_], [], p, [], p, [], hW', trodAll_mk1 (shut_bool Try.underlying4 _), ?_, rfl, hb.frame _, fun h => by cases h⟩
  exact trodAll_mk1 (Below.trod Facts.laidOut (by kernel_rfl) (of_decide_eq_true (by kernel_rfl)) h0 hb hlt)

theorem named : Try.prog.funcNamed Rows.fnNarrowestRow.func = some 6 := by kernel_rfl
theorem closed : joinedFacts Try.prog 6 Try.f6 Rows.fnNarrowestSpec Rows.fnNarrowestRow = true :=
  Facts.closed_of rfl rfl rfl rfl (h28b := rfl) (by kernel_rfl) (by kernel_rfl) (by kernel_rfl) (by kernel_rfl) (by kernel_rfl) (by kernel_rfl) (by kernel_rfl) (by kernel_rfl) (by kernel_rfl) (by kernel_rfl) (by kernel_rfl) (by kernel_rfl) (by kernel_rfl) (by kernel_rfl) (by kernel_rfl) (by kernel_rfl) (by kernel_rfl) (by kernel_rfl) (by kernel_rfl) (by kernel_rfl) (by kernel_rfl) (by kernel_rfl) (by kernel_rfl) (by kernel_rfl)
theorem instanced : Try.f6.isInstance Try.prog Rows.fnNarrowestRow.origin Rows.fnNarrowestRow.targs := of_decide_eq_true (by kernel_rfl)
theorem wrapped : Try.f6.isWrapper Try.prog Rows.fnNarrowestRow.wrapper Rows.fnNarrowestRow.mainSum := by
  unfold Func.isWrapper
  rw [if_neg (of_decide_eq_false (by kernel_rfl))]
  exact ⟨rfl, rfl⟩

theorem holds : Rows.FnNarrowestSaid :=
  OpenClaim.holds_of_wide 6 Try.f6 rfl rfl rfl rfl rfl rfl rfl ⟨rfl, rfl, rfl, rfl, rfl⟩ rfl rfl rfl rfl rfl named Try.func6 closed instanced wrapped
    (fun os started H enc _ => lifted os started H enc)

end Go.Proofs.Ytpiaiandjnpdfaa.lawNarrowest

