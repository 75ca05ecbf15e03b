import Derived.Test.YtpiaiandjnpdfaaDrW
import Derived.Test.YtpiaiandjnpdfaaDrZ
import Derived.Test.YtpiaiandjnpdfaaFacts
import Derived.Test.YtpiaiandjnpdfaaRows
import Derived.Deep.RegionHeld3
import Derived.Deep.DeepCutAuto
import Derived.Deep.RegionWith
/-
  Layouts are of choices: the law FnHasLayout returns true for whatever draws, and its argument reads as it did. No condition of ours.
-/
set_option linter.unusedVariables false
set_option linter.unusedSimpArgs false
namespace Go.Proofs.Ytpiaiandjnpdfaa.lawHasLayout
open Go.ChangeShapes Go.WideShapes Go.ChangeAt Go.RowKit P1 Draw6 LawC CntC DocK OpenR LayN ChP 

set_option maxRecDepth 100000 in
set_option maxHeartbeats 6400000 in
theorem walk_good (w : World) (a0 : Option Addr) (len0 cap0 : Nat) (hb0 : Bytes w a0 len0) (hlc0 : len0 ≤ cap0) (hcm0 : cap0 ≤ maxLen) (hl0 : len0 ≤ 1048576) :
    Calls Try.prog 5 #[.slice a0 len0 cap0] w fun e w' => e = .returned (.bool true) ∧ Ext w w' := by
  have HD0 := Lib.hid (DrW.drawHas w a0 len0 cap0 hb0 hlc0 hcm0)
  clear hb0
  unfold maxLen at hcm0
  go_enter Try.func5, Try.ntmps5
  go_wp2_with fail
  refine HD0.out.mono ?_
  rintro e1 w1 ⟨o, n, t, k, a, cap, fs, ly, al, cl, fl, rfl, hc, hsz, hsub, hfr, hcl, hl200, hlsub, hb1⟩
  have D1 := Lib.hid (show DocK.Doc0 w1 n t k a cap fs from ⟨hsub, fun c hc => (hfr.2 c hc).2, hc, by omega⟩)
  have E1 := Lib.hid (show Ext w w1 from hb1)
  have hkl : k.len ≤ 100000 := D1.out.len
  clear hsub hfr hb1
  have hlm : ly.length ≤ maxLen := by unfold maxLen; omega
  obtain ⟨X, hX⟩ : ∃ X, It.laysD o n t k = X := ⟨_, rfl⟩
  obtain ⟨V, hV⟩ : ∃ V, It.toldD o n t k = V := ⟨_, rfl⟩
  obtain ⟨I, hI⟩ : ∃ I, Ls.inL X ly = I := ⟨_, rfl⟩
  have hno : V = false → I = false := fun h => by
    rw [← hI, ← hX, It.lays_no (hV.trans h)]; rfl
  have HNO := Lib.hid (And.intro hno hI)
  have HIS := Lib.hid (show ∀ W : World, Ext w1 W → Calls Try.prog 25 #[.agg #[.int .i64 o, .int .i64 n, .string t, .slice a k.len cap], .slice al ly.length cl] W (fun e w' => e = .returned (.bool I) ∧ Ext W w') from fun W e => by
    have h := D1.out.ext e
    have := It.implHasLayout W o n t k a cap fs h.sub h.ok h.cap_le (by have := h.size; omega) h.fits h.tfit ly al cl fl (hlsub.below hlsub.lt e) hcl hlm
    rw [hX, hI] at this; exact this)
  have HSS := Lib.hid (show ∀ W : World, Ext w1 W → Calls Try.prog 27 #[.agg #[.int .i64 o, .int .i64 n, .string t, .slice a k.len cap], .slice al ly.length cl] W (fun e w' => e = .returned (.bool I) ∧ Ext W w') from fun W e => by
    have h := D1.out.ext e
    have := It.specHasLayout W o n t k a cap fs h.sub h.lt h.cap_le (by have := h.size; omega) h.fits h.tfit ly al cl fl (hlsub.below hlsub.lt e) hcl hlm
    rw [hX, hI] at this; exact this)
  have HSA := Lib.hid (show ∀ W : World, Ext w1 W → ∀ (Y : Ls.Lay) (ay : Option Addr) (cy : Nat), DocO.LayIs W Y ay cy → Calls Try.prog 20 #[.slice ay Y.length cy, .slice al ly.length cl] W (fun e w' => e = .returned (.bool (decide (Y = ly))) ∧ Ext W w') from fun W e Y ay cy hy => by
    obtain ⟨fy, hs⟩ := hy.sub
    exact LaySm.implLayoutSame Y ly W ay cy fy hs al cl fl (hlsub.below hlsub.lt e) hy.cap_le hcl hy.fits.2 hlm)
  have HL := Lib.hid (show ∀ W : World, Ext w1 W → Calls Try.prog 15 #[.agg #[.int .i64 o, .int .i64 n, .string t, .slice a k.len cap]] W (DocL.LOut W X V) from fun W e => by have h := DocL.implLays (D1.out.ext e) o; rw [hX, hV] at h; exact h)
  have hII : (I != I) = false := by simp
  have hIe : (I == I) = true := by simp
  clear hc hsz hX hV hno hI hcl hl200 hlsub hlm
  go_wp2_with fail
  refine (HIS.out _ ((Ext.refl w1).alloc _)).mono ?_
  rintro e2 w2 ⟨rfl, hb⟩
  have X2 := Lib.hid (box4 (box_new w1 _ _ _ _ _) (by simp) hb)
  have E2 := Lib.hid (((Ext.refl w1).alloc _).trans hb)
  have L2 := Lib.hid (show w1.heap.size < w2.heap.size from by have := hb.size; simp at this; omega)
  try clear x0 x1 x2 x3 l
  clear hb
  obtain ⟨x0, x1, x2, x3⟩ := X2.out
  have l := L2.out
  go_wp2_with fail
  refine (HL.out _ E2.out).mono ?_
  rintro e3 w3 ⟨pa, ca, rfl, hlay, hb⟩
  have X3 := Lib.hid (box4 X2.out L2.out hb)
  have E3 := Lib.hid (E2.out.trans hb)
  have L3 := Lib.hid (Nat.lt_of_lt_of_le L2.out hb.size)
  try clear x0 x1 x2 x3 l
  have Ka := Lib.hid hlay
  clear hlay
  clear hb
  obtain ⟨x0, x1, x2, x3⟩ := X3.out
  have l := L3.out
  go_wp2_with fail
  refine (HSS.out _ E3.out).mono ?_
  rintro e4 w4 ⟨rfl, hb⟩
  have X4 := Lib.hid (box4 X3.out L3.out hb)
  have E4 := Lib.hid (E3.out.trans hb)
  have L4 := Lib.hid (Nat.lt_of_lt_of_le L3.out hb.size)
  try clear x0 x1 x2 x3 l
  replace Ka := Lib.hid (Ka.out.ext hb)
  clear hb
  obtain ⟨x0, x1, x2, x3⟩ := X4.out
  have l := L4.out
  cases V with
  | false =>
    obtain rfl : I = false := by first | exact HNO.out.1 rfl | exact HNO.out.1 trivial
    clear hII hIe
    go_wp2_with fail
    refine (HSS.out _ E4.out).mono ?_
    rintro e5 w5 ⟨rfl, hb⟩
    have X5 := Lib.hid (box4 X4.out L4.out hb)
    have E5 := Lib.hid (E4.out.trans hb)
    have L5 := Lib.hid (Nat.lt_of_lt_of_le L4.out hb.size)
    try clear x0 x1 x2 x3 l
    replace Ka := Lib.hid (Ka.out.ext hb)
    clear hb
    obtain ⟨x0, x1, x2, x3⟩ := X5.out
    have l := L5.out
    go_wp2_with fail
    go_ret
    exact ⟨by first | rfl | simp, E1.out.trans E5.out⟩
  | true =>
    obtain ⟨M, hM⟩ : ∃ M : Nat, X.length = M := ⟨_, rfl⟩
    have HM := Lib.hid hM
    have hM3 : M ≤ 300 := by rw [← hM]; exact Ka.out.few
    try rw [hM]
    clear hM
    go_wp2_with fail
    go_loopw [9, 8] (fun i s wr => ∃ (j : Nat) (S : Bool), Hid (S = Ls.inL (X.take j) ly) ∧ j ≤ M ∧ i = .int .i64 (j : Int) ∧ s = .bool S ∧ Ext w4 wr) (fun i _ _ => M - (intOf i).toNat)
    case atStart => exact ⟨0, false, Lib.hid rfl, by omega, rfl, rfl, Ext.refl _⟩
    case round =>
      obtain ⟨j, S, HS, hj, rfl, rfl, hext⟩ := hrel
      obtain ⟨w20, hwm⟩ : ∃ W, W = wr := ⟨_, rfl⟩
      subst hwm
      have X20 := Lib.hid (box4 X4.out L4.out hext)
      have E20 := Lib.hid (E4.out.trans hext)
      have L20 := Lib.hid (Nat.lt_of_lt_of_le L4.out hext.size)
      have R := Lib.hid hext
      have RH := Lib.hid (Ext.refl w20)
      try clear x0 x1 x2 x3 l
      replace Ka := Lib.hid (Ka.out.ext hext)
      clear hext
      obtain ⟨x0, x1, x2, x3⟩ := X20.out
      have l := L20.out
      by_cases hjM : j < M
      · have hjl : j < X.length := by rw [HM.out]; exact hjM
        have hnext : Ls.inL (X.take (j + 1)) ly = (S || decide (X[j] = ly)) := by
          rw [List.take_succ_eq_append_getElem hjl, HS.out]; unfold Ls.inL; rw [List.any_append, List.any_cons, List.any_nil, Bool.or_false]
        have HN := Lib.hid hnext
        clear hnext
        have i0 : (0 : Int) ≤ (j : Int) := Int.natCast_nonneg _
        have i1 : (j : Int) < (M : Int) := by omega
        cases S with
        | true =>
          go_wp2_with fail
          go_roundw
          case rel => exact ⟨j + 1, true, Lib.hid (by rw [HN.out]; rfl), by omega, by go_num, rfl, R.out⟩
          case measure => simp [intOf]; omega
        | false =>
          obtain ⟨be, ofe, ae, ce, hae, hbl, hcell, hel⟩ := Ka.out.get hjl
          obtain ⟨Ye, hY⟩ : ∃ Y, X[j] = Y := ⟨_, rfl⟩
          have HYe := Lib.hid hY
          rw [hY] at hcell hel
          have HCE := Lib.hid (fun (W : World) (e : Ext w20 W) => (e.cell hbl).trans hcell)
          have Ke := Lib.hid hel
          clear hbl hcell hel hY
          subst hae
          have hcell := HCE.out _ RH.out
          have lbe : be < w20.heap.size := World.block_lt_of_cell? w20 _ hcell
          obtain ⟨Z, hZ⟩ : ∃ Z, decide (Ye = ly) = Z := ⟨_, rfl⟩
          have HSJ := Lib.hid (HSA.out _ E20.out _ _ _ Ke.out)
          rw [hZ] at HSJ
          have HZ := Lib.hid (show Ls.inL (X.take (j + 1)) ly = Z by rw [HN.out, HYe.out, hZ]; rfl)
          clear hZ
          go_wp2_with fail
          refine (HSJ.out).mono ?_
          rintro e21 w21 ⟨rfl, hb⟩
          have X21 := Lib.hid (box4 X20.out L20.out hb)
          have E21 := Lib.hid (E20.out.trans hb)
          have L21 := Lib.hid (Nat.lt_of_lt_of_le L20.out hb.size)
          try clear x0 x1 x2 x3 l
          replace Ka := Lib.hid (Ka.out.ext hb)
          replace Ke := Lib.hid (Ke.out.ext hb)
          replace R := Lib.hid (R.out.trans hb)
          replace RH := Lib.hid (RH.out.trans hb)
          clear hb
          go_wp2_with fail
          go_roundw
          case rel => exact ⟨j + 1, Z, Lib.hid HZ.out.symm, by omega, by go_num, rfl, R.out⟩
          case measure => simp [intOf]; omega
      · obtain rfl : j = M := by omega
        have hS := HS.out
        rw [List.take_of_length_le (by have := HM.out; omega), HNO.out.2] at hS
        subst hS
        go_wp2_with fail
        go_ret
        exact ⟨by first | rfl | simp, E1.out.trans E20.out⟩

set_option maxHeartbeats 400000 in
theorem walk_big (w : World) (a0 : Option Addr) (len0 cap0 : Nat) (hl0 : 1048576 < len0) :
    Calls Try.prog 5 #[.slice a0 len0 cap0] w fun e w' => e = .returned (.bool true) ∧ Ext w w' := by
  have h1 : (1048576 : Int) < (len0 : Int) := by omega
  go_enter Try.func5, Try.ntmps5
  go_wp2_with fail
  go_ret
  exact ⟨rfl, Ext.refl w⟩

theorem walk (w : World) (a0 : Option Addr) (len0 cap0 : Nat) (hb0 : Bytes w a0 len0) (hlc0 : len0 ≤ cap0) (hcm0 : cap0 ≤ maxLen) :
    Calls Try.prog 5 #[.slice a0 len0 cap0] w fun e w' => e = .returned (.bool true) ∧ Below w.heap.size w w' := by
  by_cases h : 1048576 < len0
  · exact walk_big w a0 len0 cap0 h
  · exact walk_good w a0 len0 cap0 hb0 hlc0 hcm0 (by omega)

set_option maxRecDepth 100000 in
theorem lifted (os : Os) (started : os.Started) (H : Type) (enc : TypeId × Value → H) :
    ReturnsInHanded {} Try.checked os 5 .any (Rows.fnHasLayoutSpec.pre6 enc Try.prog Try.f5 Rows.fnHasLayoutRow.domain false) (Rows.fnHasLayoutSpec.post enc Try.prog Try.f5 false true false false) := by
  refine returnsInHanded_of_change (C := Try.checked) Facts.own started (by kernel_rfl) Try.func5
    (ChangeSpec.witness6 (enc := enc) (C := Try.checked) false ⟨#[], #[.slice none 0 0], []⟩ 8 (by kernel_rfl) (by kernel_rfl) (by kernel_rfl) (by kernel_rfl)) ?_
  intro W base args ds gs before hval0 hW hcnd0 _
  clear hcnd0
  have hval : ∀ (j : Nat) t v, Try.f5.params[j]? = some t → args[j]? = some v → Value.okWide Try.prog W .any base t v := hval0
  have hW' := hW
  obtain ⟨p, q, hA0, hV, rfl, hfz, hnd⟩ := hW
  have hA : DataW.TrodAll enc Try.prog W 0 (fun _ => true) true Try.f5.params.toList args.toList ds p := hA0
  rw [Try.params5] at hA hval
  obtain ⟨v0, d0, rfl, rfl, h0⟩ := trodAll_one hA
  obtain ⟨rfl, rfl⟩ := trodVars_none hV
  obtain ⟨a0, len0, cap0, rfl⟩ := okWide_slice Try.underlying22 (hval 0 22 v0 rfl rfl)
  clear hA0 hval0
  simp only [List.append_nil] at hW'
  have hlt : ∀ x ∈ p, x.block < W.heap.size := fun x hx => by simpa using hW'.lt x hx
  obtain ⟨hb0, hlc0, hcm0⟩ := opened h0
  refine (walk W a0 len0 cap0 hb0 hlc0 hcm0).mono fun e W' ⟨he, hb⟩ => ?_
  subst he
  refine ⟨_, rfl, [_], [], p, [], p, [], hW', trodAll_mk1 (shut_bool Try.underlying4 _), ?_, rfl, hb.frame _, fun h => by cases h⟩
  exact trodAll_mk1 (Below.trod Facts.laidOut (by kernel_rfl) (of_decide_eq_true (by kernel_rfl)) h0 hb hlt)

theorem named : Try.prog.funcNamed Rows.fnHasLayoutRow.func = some 5 := by kernel_rfl
theorem closed : joinedFacts Try.prog 5 Try.f5 Rows.fnHasLayoutSpec Rows.fnHasLayoutRow = true :=
  Facts.closed_of rfl rfl rfl rfl (h28b := rfl) (by kernel_rfl) (by kernel_rfl) (by kernel_rfl) (by kernel_rfl) (by kernel_rfl) (by kernel_rfl) (by kernel_rfl) (by kernel_rfl) (by kernel_rfl) (by kernel_rfl) (by kernel_rfl) (by kernel_rfl) (by kernel_rfl) (by kernel_rfl) (by kernel_rfl) (by kernel_rfl) (by kernel_rfl) (by kernel_rfl) (by kernel_rfl) (by kernel_rfl) (by kernel_rfl) (by kernel_rfl) (by kernel_rfl) (by kernel_rfl)
theorem instanced : Try.f5.isInstance Try.prog Rows.fnHasLayoutRow.origin Rows.fnHasLayoutRow.targs := of_decide_eq_true (by kernel_rfl)
theorem wrapped : Try.f5.isWrapper Try.prog Rows.fnHasLayoutRow.wrapper Rows.fnHasLayoutRow.mainSum := by
  unfold Func.isWrapper
  rw [if_neg (of_decide_eq_false (by kernel_rfl))]
  exact ⟨rfl, rfl⟩

theorem holds : Rows.FnHasLayoutSaid :=
  OpenClaim.holds_of_wide 5 Try.f5 rfl rfl rfl rfl rfl rfl rfl ⟨rfl, rfl, rfl, rfl, rfl⟩ rfl rfl rfl rfl rfl named Try.func5 closed instanced wrapped
    (fun os started H enc _ => lifted os started H enc)

end Go.Proofs.Ytpiaiandjnpdfaa.lawHasLayout

