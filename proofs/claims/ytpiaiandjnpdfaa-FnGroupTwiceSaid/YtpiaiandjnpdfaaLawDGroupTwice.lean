import Derived.Test.YtpiaiandjnpdfaaDrV
import Derived.Test.YtpiaiandjnpdfaaGrp
import Derived.Test.YtpiaiandjnpdfaaDrZ
import Derived.Test.YtpiaiandjnpdfaaFacts
import Derived.Test.YtpiaiandjnpdfaaRows
import Derived.Deep.RegionHeld3
import Derived.Deep.DeepCutAuto
import Derived.Deep.RegionWith
/-
  Groups of groups are groups: the law FnGroupTwice returns true for whatever draws, and its argument reads as it did. No condition of ours.
-/
set_option linter.unusedVariables false
set_option linter.unusedSimpArgs false
namespace Go.Proofs.Ytpiaiandjnpdfaa.lawGroupTwice
open Go.ChangeShapes Go.WideShapes Go.ChangeAt Go.RowKit P1 Draw6 LawC CntC DocK OpenR LayN ChP 

set_option maxRecDepth 100000 in
set_option maxHeartbeats 6400000 in
theorem walk_good (w : World) (a0 : Option Addr) (len0 cap0 : Nat) (hb0 : Bytes w a0 len0) (hlc0 : len0 ≤ cap0) (hcm0 : cap0 ≤ maxLen) (hl0 : len0 ≤ 1048576) :
    Calls Try.prog 7 #[.slice a0 len0 cap0] w fun e w' => e = .returned (.bool true) ∧ Ext w w' := by
  have HD0 := Lib.hid (DrN.drawDistinctLayouts w a0 len0 cap0 hb0 hlc0 hcm0)
  clear hb0
  unfold maxLen at hcm0
  go_enter Try.func7, Try.ntmps7
  go_wp2_with fail
  refine HD0.out.mono ?_
  rintro e1 w1 ⟨o, n, t, k, a, cap, fs, rfl, hc, hsz, hsub, hfr, hb1⟩
  have D1 := Lib.hid (show DocK.Doc0 w1 n t k a cap fs from ⟨hsub, fun c hc => (hfr.2 c hc).2, hc, by omega⟩)
  have E1 := Lib.hid (show Ext w w1 from hb1)
  have hkl : k.len ≤ 100000 := D1.out.len
  clear hsub hfr hb1
  obtain ⟨X, hX⟩ : ∃ X, Ls.dist (It.laysD o n t k) = X := ⟨_, rfl⟩
  obtain ⟨V, hV⟩ : ∃ V, It.toldD o n t k = V := ⟨_, rfl⟩
  have HSZ := Lib.hid hsz
  have HXV := Lib.hid (And.intro hX hV)
  have HXI := Lib.hid (show ∀ W : World, Ext w1 W → Calls Try.prog 23 #[.agg #[.int .i64 o, .int .i64 n, .string t, .slice a k.len cap]] W (DocL.LOut W X V) from fun W e => by have h := DocL.implDist (D1.out.ext e) o; rw [hX, hV] at h; exact h)
  have HXS := Lib.hid (show ∀ W : World, Ext w1 W → Calls Try.prog 24 #[.agg #[.int .i64 o, .int .i64 n, .string t, .slice a k.len cap]] W (DocL.LOut W X V) from fun W e => by have h := DocL.specDist (D1.out.ext e) o; rw [hX, hV] at h; exact h)
  clear hc hsz hX hV
  go_wp2_with fail
  refine (HXI.out _ ((Ext.refl w1).alloc _)).mono ?_
  rintro e2 w2 ⟨pa, ca, rfl, hlay, hb⟩
  have X2 := Lib.hid (box4 (box_new w1 _ _ _ _ _) (by simp) hb)
  have E2 := Lib.hid (((Ext.refl w1).alloc _).trans hb)
  have L2 := Lib.hid (show w1.heap.size < w2.heap.size from by have := hb.size; simp at this; omega)
  try clear x0 x1 x2 x3 l
  have Ka := Lib.hid hlay
  clear hlay
  clear hb
  obtain ⟨x0, x1, x2, x3⟩ := X2.out
  have l := L2.out
  go_wp2_with fail
  refine (HXS.out _ E2.out).mono ?_
  rintro e3 w3 ⟨pb, cb, rfl, hlay, hb⟩
  have X3 := Lib.hid (box4 X2.out L2.out hb)
  have E3 := Lib.hid (E2.out.trans hb)
  have L3 := Lib.hid (Nat.lt_of_lt_of_le L2.out hb.size)
  try clear x0 x1 x2 x3 l
  replace Ka := Lib.hid (Ka.out.ext hb)
  have Kb := Lib.hid hlay
  clear hlay
  clear hb
  obtain ⟨x0, x1, x2, x3⟩ := X3.out
  have l := L3.out
  obtain ⟨Y, hY⟩ : ∃ Y, Ls.dist (It.laysD 8 0 ⟨#[]⟩ (DocL.gD o n t k)) = Y := ⟨_, rfl⟩
  obtain ⟨P, hP⟩ : ∃ P, It.toldD 8 0 ⟨#[]⟩ (DocL.gD o n t k) = P := ⟨_, rfl⟩
  obtain ⟨Z, hZ⟩ : ∃ Z, Ls.dist (It.laysD 8 0 ⟨#[]⟩ (DocL.gD 8 0 ⟨#[]⟩ (DocL.gD o n t k))) = Z := ⟨_, rfl⟩
  obtain ⟨Q, hQ⟩ : ∃ Q, It.toldD 8 0 ⟨#[]⟩ (DocL.gD 8 0 ⟨#[]⟩ (DocL.gD o n t k)) = Q := ⟨_, rfl⟩
  obtain ⟨G, hG⟩ : ∃ G, It.laysD 8 0 ⟨#[]⟩ (DocL.gD o n t k) = G := ⟨_, rfl⟩
  have HPQ := Lib.hid (show V = true → P = true → Q = true → Y = Z ∧ ∀ x ∈ X, Ls.inL G x = true from fun h1 h2 h3 => by
    obtain ⟨hX, hV⟩ := HXV.out
    have h := DocL.lays_twice (hV.trans h1) (hP.trans h2) (hQ.trans h3)
    rw [hY, hZ, hX, hG] at h
    exact h)
  have HG := Lib.hid (show ∀ (W : World), Ext w1 W → ∀ (T : TypeId) (W' : World), Ext (W.alloc (.cells #[.int .i64 o, .int .i64 n, .string t, .slice a k.len cap] T)) W' → Calls Try.prog 23 #[.agg #[.int .i64 8, .int .i64 0, .string ⟨#[]⟩, .slice (some ⟨W.heap.size, 0, none⟩) 1 1]] W' (DocL.LOut W' Y P) from fun W e T W' e' => by
    have h := DocL.implDist (DocC.around (D1.out.ext e) (by have := HSZ.out; omega) o 0 T W' e') 8
    rw [hY, hP] at h; exact h)
  have HGH := Lib.hid (show ∀ (W : World), Ext w1 W → ∀ (T : TypeId) (W' : World), Ext (W.alloc (.cells #[.int .i64 o, .int .i64 n, .string t, .slice a k.len cap] T)) W' → ∀ (x : Ls.Lay) (al : Option Addr) (cl : Nat), DocO.LayIs W' x al cl → Calls Try.prog 25 #[.agg #[.int .i64 8, .int .i64 0, .string ⟨#[]⟩, .slice (some ⟨W.heap.size, 0, none⟩) 1 1], .slice al x.length cl] W' (fun e w' => e = .returned (.bool (Ls.inL G x)) ∧ Ext W' w') from fun W e T W' e' x al cl hx => by
    have h := DocL.implHas (DocC.around (D1.out.ext e) (by have := HSZ.out; omega) o 0 T W' e') 8 hx
    rw [hG] at h; exact h)
  have HH := Lib.hid (show ∀ (W : World), Ext w1 W → ∀ (T T1 T2 : TypeId) (W' : World), Ext (((W.alloc (.cells #[.int .i64 o, .int .i64 n, .string t, .slice a k.len cap] T)).alloc (.cells #[.int .i64 8, .int .i64 0, .string ⟨#[]⟩, .slice (some ⟨W.heap.size, 0, none⟩) 1 1] T1)).alloc (.cells #[.int .i64 8, .int .i64 0, .string ⟨#[]⟩, .slice (some ⟨W.heap.size, 0, none⟩) 1 1] T2)) W' → Calls Try.prog 23 #[.agg #[.int .i64 8, .int .i64 0, .string ⟨#[]⟩, .slice (some ⟨W.heap.size + 1 + 1, 0, none⟩) 1 1]] W' (DocL.LOut W' Z Q) from fun W e T T1 T2 W' e' => by
    obtain ⟨fs', hd⟩ := DocL.around2 (D1.out.ext e) (by have := HSZ.out; omega) T T1 T2 e'
    have h := DocL.implDist hd 8
    rw [hZ, hQ] at h; exact h)
  clear hY hP hZ hQ hG
  go_wp2_with fail
  refine (HG.out w3 E3.out _ _ ((((Ext.refl _).alloc _).alloc _).alloc _)).mono ?_
  rintro e4 w4 ⟨pd, cd, rfl, hlay, hb⟩
  obtain ⟨hg, hh, hlt, h3, hga, hha⟩ := DocL.two_groups hb
  have X4 := Lib.hid (box4 X3.out L3.out h3)
  have E4 := Lib.hid (E3.out.trans h3)
  have L4 := Lib.hid (Nat.lt_of_lt_of_le L3.out h3.size)
  replace Ka := Lib.hid (Ka.out.ext h3)
  replace Kb := Lib.hid (Kb.out.ext h3)
  have Kd := Lib.hid hlay
  have GB := Lib.hid (fun (W : World) (e : Ext w4 W) => And.intro (box4 hg (by omega) e) (And.intro (box4 hh hlt e) (Nat.lt_of_lt_of_le hlt e.size)))
  have GE := Lib.hid (fun (W : World) (e : Ext w4 W) => And.intro (hga.trans e) (hha.trans e))
  clear hlay hb hg hh hlt h3 hga hha x0 x1 x2 x3 l
  obtain ⟨⟨g0, g1, g2, g3⟩, ⟨h0, h1, h2, h3⟩, hlt⟩ := GB.out _ (Ext.refl _)
  go_wp2_with fail
  refine (HH.out w3 E3.out _ _ _ _ (GE.out _ (Ext.refl _)).2).mono ?_
  rintro e5 w5 ⟨pe, ce, rfl, hlay, hb⟩
  clear g0 g1 g2 g3 h0 h1 h2 h3 hlt
  have X5 := Lib.hid (box4 X4.out L4.out hb)
  have E5 := Lib.hid (E4.out.trans hb)
  have L5 := Lib.hid (Nat.lt_of_lt_of_le L4.out hb.size)
  replace Ka := Lib.hid (Ka.out.ext hb)
  replace Kb := Lib.hid (Kb.out.ext hb)
  replace Kd := Lib.hid (Kd.out.ext hb)
  have Ke := Lib.hid hlay
  have B := Lib.hid hb
  clear hlay hb
  go_wp2_with fail
  refine (DocL.daSame Ka.out Kb.out).mono ?_
  rintro e6 w6 ⟨rfl, hb⟩
  have X6 := Lib.hid (box4 X5.out L5.out hb)
  have E6 := Lib.hid (E5.out.trans hb)
  have L6 := Lib.hid (Nat.lt_of_lt_of_le L5.out hb.size)
  try clear x0 x1 x2 x3 l
  replace Ka := Lib.hid (Ka.out.ext hb)
  replace Kb := Lib.hid (Kb.out.ext hb)
  replace Kd := Lib.hid (Kd.out.ext hb)
  replace Ke := Lib.hid (Ke.out.ext hb)
  replace B := Lib.hid (B.out.trans hb)
  clear hb
  cases V with
  | false =>
    go_wp2_with fail
    refine (DocL.daSame Ka.out Kb.out).mono ?_
    rintro e7 w7 ⟨rfl, hb⟩
    have X7 := Lib.hid (box4 X6.out L6.out hb)
    have E7 := Lib.hid (E6.out.trans hb)
    have L7 := Lib.hid (Nat.lt_of_lt_of_le L6.out hb.size)
    try clear x0 x1 x2 x3 l
    replace Ka := Lib.hid (Ka.out.ext hb)
    replace Kb := Lib.hid (Kb.out.ext hb)
    replace Kd := Lib.hid (Kd.out.ext hb)
    replace Ke := Lib.hid (Ke.out.ext hb)
    replace B := Lib.hid (B.out.trans hb)
    clear hb
    go_wp2_with fail
    go_ret
    exact ⟨by first | rfl | simp, E1.out.trans E7.out⟩
  | true =>
    cases P with
    | false =>
      go_wp2_with fail
      refine (DocL.daSame Ka.out Kb.out).mono ?_
      rintro e7 w7 ⟨rfl, hb⟩
      have X7 := Lib.hid (box4 X6.out L6.out hb)
      have E7 := Lib.hid (E6.out.trans hb)
      have L7 := Lib.hid (Nat.lt_of_lt_of_le L6.out hb.size)
      try clear x0 x1 x2 x3 l
      replace Ka := Lib.hid (Ka.out.ext hb)
      replace Kb := Lib.hid (Kb.out.ext hb)
      replace Kd := Lib.hid (Kd.out.ext hb)
      replace Ke := Lib.hid (Ke.out.ext hb)
      replace B := Lib.hid (B.out.trans hb)
      clear hb
      go_wp2_with fail
      go_ret
      exact ⟨by first | rfl | simp, E1.out.trans E7.out⟩
    | true =>
      cases Q with
      | false =>
        go_wp2_with fail
        refine (DocL.daSame Ka.out Kb.out).mono ?_
        rintro e7 w7 ⟨rfl, hb⟩
        have X7 := Lib.hid (box4 X6.out L6.out hb)
        have E7 := Lib.hid (E6.out.trans hb)
        have L7 := Lib.hid (Nat.lt_of_lt_of_le L6.out hb.size)
        try clear x0 x1 x2 x3 l
        replace Ka := Lib.hid (Ka.out.ext hb)
        replace Kb := Lib.hid (Kb.out.ext hb)
        replace Kd := Lib.hid (Kd.out.ext hb)
        replace Ke := Lib.hid (Ke.out.ext hb)
        replace B := Lib.hid (B.out.trans hb)
        clear hb
        go_wp2_with fail
        go_ret
        exact ⟨by first | rfl | simp, E1.out.trans E7.out⟩
      | true =>
        obtain ⟨rfl, hin⟩ := HPQ.out rfl rfl rfl
        have HIN := Lib.hid hin
        clear hin
        obtain ⟨M, hM⟩ : ∃ M : Nat, X.length = M := ⟨_, rfl⟩
        have HM := Lib.hid hM
        have hM3 : M ≤ 300 := by rw [← hM]; exact Ka.out.few
        try rw [hM]
        clear hM
        go_wp2_with fail
        go_loopw [14] (fun i wr => ∃ j : Nat, j ≤ M ∧ i = .int .i64 (j : Int) ∧ Ext w6 wr) (fun i _ => M - (intOf i).toNat)
        case atStart => exact ⟨0, by omega, rfl, Ext.refl _⟩
        case round =>
          obtain ⟨j, hj, rfl, hext⟩ := hrel
          obtain ⟨w20, hwm⟩ : ∃ W, W = wr := ⟨_, rfl⟩
          subst hwm
          have X20 := Lib.hid (box4 X6.out L6.out hext)
          have E20 := Lib.hid (E6.out.trans hext)
          have L20 := Lib.hid (Nat.lt_of_lt_of_le L6.out hext.size)
          have R := Lib.hid hext
          have RH := Lib.hid (Ext.refl w20)
          try clear x0 x1 x2 x3 l
          replace Ka := Lib.hid (Ka.out.ext hext)
          replace Kb := Lib.hid (Kb.out.ext hext)
          replace Kd := Lib.hid (Kd.out.ext hext)
          replace Ke := Lib.hid (Ke.out.ext hext)
          replace B := Lib.hid (B.out.trans hext)
          clear hext
          obtain ⟨x0, x1, x2, x3⟩ := X20.out
          have l := L20.out
          clear x0 x1 x2 x3 l
          by_cases hjM : j < M
          · have hjl : j < X.length := by rw [HM.out]; exact hjM
            have i0 : (0 : Int) ≤ (j : Int) := Int.natCast_nonneg _
            have i1 : (j : Int) < (M : Int) := by omega
            have hyi := HIN.out _ (List.getElem_mem hjl)
            obtain ⟨bx, ofx, ax, cx, hax, hbl, hcell, hel⟩ := Ka.out.get hjl
            obtain ⟨Yx, hY⟩ : ∃ Y, X[j] = Y := ⟨_, rfl⟩
            have HYx := Lib.hid hY
            rw [hY] at hcell hel
            have HCE := Lib.hid (fun (W : World) (e : Ext w20 W) => (e.cell hbl).trans hcell)
            have Kx := Lib.hid hel
            clear hbl hcell hel hY
            subst hax
            rw [HYx.out] at hyi
            have HHI := Lib.hid hyi
            have hcell := HCE.out _ RH.out
            have lbe : bx < w20.heap.size := World.block_lt_of_cell? w20 _ hcell
            obtain ⟨⟨g0, g1, g2, g3⟩, _, hlt⟩ := GB.out _ B.out
            have hlt2 : w3.heap.size + 1 < w20.heap.size := by omega
            clear hlt hyi
            go_wp2_with fail
            go_still_tail 5, (by kernel_rfl)
            go_wp2_with (go_at_call 25; refine (HGH.out w3 E3.out _ _ (by first | exact (GE.out _ B.out).1 | exact ((GE.out _ B.out).1).drew) _ _ _ (Kx.out.ext (by first | exact Ext.refl _ | exact (Ext.refl _).drew))).mono ?_; rw [HHI.out]; rintro e21 w21 ⟨rfl, hb⟩)
            go_roundw
            case rel => exact ⟨j + 1, by omega, by go_num, R.out.trans ((Ext.refl _).drew.trans hb)⟩
            case measure => simp [intOf]; omega
          · obtain rfl : j = M := by omega
            go_wp2_with fail
            refine (DocL.daSame Kd.out Ke.out).mono ?_
            rintro e21 w21 ⟨rfl, hb⟩
            have X21 := Lib.hid (box4 X20.out L20.out hb)
            have E21 := Lib.hid (E20.out.trans hb)
            have L21 := Lib.hid (Nat.lt_of_lt_of_le L20.out hb.size)
            try clear x0 x1 x2 x3 l
            replace Ka := Lib.hid (Ka.out.ext hb)
            replace Kb := Lib.hid (Kb.out.ext hb)
            replace Kd := Lib.hid (Kd.out.ext hb)
            replace Ke := Lib.hid (Ke.out.ext hb)
            replace B := Lib.hid (B.out.trans hb)
            replace R := Lib.hid (R.out.trans hb)
            replace RH := Lib.hid (RH.out.trans hb)
            clear hb
            go_wp2_with fail
            go_ret
            exact ⟨by first | rfl | simp, E1.out.trans E21.out⟩

set_option maxHeartbeats 400000 in
theorem walk_big (w : World) (a0 : Option Addr) (len0 cap0 : Nat) (hl0 : 1048576 < len0) :
    Calls Try.prog 7 #[.slice a0 len0 cap0] w fun e w' => e = .returned (.bool true) ∧ Ext w w' := by
  have h1 : (1048576 : Int) < (len0 : Int) := by omega
  go_enter Try.func7, Try.ntmps7
  go_wp2_with fail
  go_ret
  exact ⟨rfl, Ext.refl w⟩

theorem walk (w : World) (a0 : Option Addr) (len0 cap0 : Nat) (hb0 : Bytes w a0 len0) (hlc0 : len0 ≤ cap0) (hcm0 : cap0 ≤ maxLen) :
    Calls Try.prog 7 #[.slice a0 len0 cap0] w fun e w' => e = .returned (.bool true) ∧ Below w.heap.size w w' := by
  by_cases h : 1048576 < len0
  · exact walk_big w a0 len0 cap0 h
  · exact walk_good w a0 len0 cap0 hb0 hlc0 hcm0 (by omega)

set_option maxRecDepth 100000 in
theorem lifted (os : Os) (started : os.Started) (H : Type) (enc : TypeId × Value → H) :
    ReturnsInHanded {} Try.checked os 7 .any (Rows.fnGroupTwiceSpec.pre6 enc Try.prog Try.f7 Rows.fnGroupTwiceRow.domain false) (Rows.fnGroupTwiceSpec.post enc Try.prog Try.f7 false true false false) := by
  refine returnsInHanded_of_change (C := Try.checked) Facts.own started (by kernel_rfl) Try.func7
    (ChangeSpec.witness6 (enc := enc) (C := Try.checked) false ⟨#[], #[.slice none 0 0], []⟩ 8 (by kernel_rfl) (by kernel_rfl) (by kernel_rfl) (by kernel_rfl)) ?_
  intro W base args ds gs before hval0 hW hcnd0 _
  clear hcnd0
  have hval : ∀ (j : Nat) t v, Try.f7.params[j]? = some t → args[j]? = some v → Value.okWide Try.prog W .any base t v := hval0
  have hW' := hW
  obtain ⟨p, q, hA0, hV, rfl, hfz, hnd⟩ := hW
  have hA : DataW.TrodAll enc Try.prog W 0 (fun _ => true) true Try.f7.params.toList args.toList ds p := hA0
  rw [Try.params7] at hA hval
  obtain ⟨v0, d0, rfl, rfl, h0⟩ := trodAll_one hA
  obtain ⟨rfl, rfl⟩ := trodVars_none hV
  obtain ⟨a0, len0, cap0, rfl⟩ := okWide_slice Try.underlying22 (hval 0 22 v0 rfl rfl)
  clear hA0 hval0
  simp only [List.append_nil] at hW'
  have hlt : ∀ x ∈ p, x.block < W.heap.size := fun x hx => by simpa using hW'.lt x hx
  obtain ⟨hb0, hlc0, hcm0⟩ := opened h0
  refine (walk W a0 len0 cap0 hb0 hlc0 hcm0).mono fun e W' ⟨he, hb⟩ => ?_
  subst he
  refine ⟨_, rfl, [_], [], p, [], p, [], hW', trodAll_mk1 (shut_bool Try.underlying4 _), ?_, rfl, hb.frame _, fun h => by cases h⟩
  exact trodAll_mk1 (Below.trod Facts.laidOut (by kernel_rfl) (of_decide_eq_true (by kernel_rfl)) h0 hb hlt)

theorem named : Try.prog.funcNamed Rows.fnGroupTwiceRow.func = some 7 := by kernel_rfl
theorem closed : joinedFacts Try.prog 7 Try.f7 Rows.fnGroupTwiceSpec Rows.fnGroupTwiceRow = true :=
  Facts.closed_of rfl rfl rfl rfl (h28b := rfl) (by kernel_rfl) (by kernel_rfl) (by kernel_rfl) (by kernel_rfl) (by kernel_rfl) (by kernel_rfl) (by kernel_rfl) (by kernel_rfl) (by kernel_rfl) (by kernel_rfl) (by kernel_rfl) (by kernel_rfl) (by kernel_rfl) (by kernel_rfl) (by kernel_rfl) (by kernel_rfl) (by kernel_rfl) (by kernel_rfl) (by kernel_rfl) (by kernel_rfl) (by kernel_rfl) (by kernel_rfl) (by kernel_rfl) (by kernel_rfl)
theorem instanced : Try.f7.isInstance Try.prog Rows.fnGroupTwiceRow.origin Rows.fnGroupTwiceRow.targs := of_decide_eq_true (by kernel_rfl)
theorem wrapped : Try.f7.isWrapper Try.prog Rows.fnGroupTwiceRow.wrapper Rows.fnGroupTwiceRow.mainSum := by
  unfold Func.isWrapper
  rw [if_neg (of_decide_eq_false (by kernel_rfl))]
  exact ⟨rfl, rfl⟩

theorem holds : Rows.FnGroupTwiceSaid :=
  OpenClaim.holds_of_wide 7 Try.f7 rfl rfl rfl rfl rfl rfl rfl ⟨rfl, rfl, rfl, rfl, rfl⟩ rfl rfl rfl rfl rfl named Try.func7 closed instanced wrapped
    (fun os started H enc _ => lifted os started H enc)

end Go.Proofs.Ytpiaiandjnpdfaa.lawGroupTwice

