import Derived.Test.YtabmiikacaaplaaGreatDr7
import Derived.Test.YtabmiikacaaplaaGreatNfM
import Derived.Test.YtabmiikacaaplaaGreatNfN
import Derived.Test.YtabmiikacaaplaaGreatNfDs
import Derived.Test.YtabmiikacaaplaaGreatLdX
import Derived.Test.YtabmiikacaaplaaGreatFacts
import Derived.Deep.DeepCutAuto
/-
  Normal forms have the same layouts: the law FnNormalLayouts returns true for whatever draws, and its argument reads as it did. No condition of ours.
-/
set_option linter.unusedVariables false
set_option linter.unusedSimpArgs false
set_option maxRecDepth 100000
set_option maxHeartbeats 6400000
namespace Go.Proofs.YtabmiikacaaplaaGreat.lawNormalLayouts
open Go.ChangeShapes Go.WideShapes Go.ChangeAt Go.RowKit P1 Draw6 LawC CntC DocK CatD

theorem no_lays {o n : Int} {t : ByteArray} {k : F} (h : (Nf.noRes o n t k).1 = true) (ht : It.toldD o n t k = true) :
    It.toldD (Nf.noRes o n t k).2.1 (Nf.noRes o n t k).2.2.1 (Nf.noRes o n t k).2.2.2.1 (Nf.noRes o n t k).2.2.2.2 = true ∧ Ls.dist (It.laysD (Nf.noRes o n t k).2.1 (Nf.noRes o n t k).2.2.1 (Nf.noRes o n t k).2.2.2.1 (Nf.noRes o n t k).2.2.2.2) = Ls.dist (It.laysD o n t k) := by
  obtain ⟨h1, h2, h3⟩ := Nf.ch_ok (show (Nf.chR (o, n, t, k) (Nf.noD (o, n, t, k))).1 = true from h)
  have e : Nf.noRes o n t k = (true, Nf.noD (o, n, t, k)) := h3
  have hds := Nf.no_ds (d := (o, n, t, k)) h1
  rw [e]
  obtain ⟨d, hd⟩ : ∃ d, Nf.noD (o, n, t, k) = d := ⟨_, rfl⟩
  have h2' : validD d.1 d.2.1 d.2.2.1 d.2.2.2 = true := by rw [← hd]; exact h2
  rw [hd] at hds ⊢
  have ht2 : It.toldD d.1 d.2.1 d.2.2.1 d.2.2.2 = true := by
    unfold It.toldD ChP.manyD at ht ⊢
    simp only [Bool.and_eq_true, decide_eq_true_eq] at ht ⊢
    have hct : ChP.ctD d.1 d.2.2.2 ≤ ChP.ctD o k := hds.ct
    exact ⟨⟨h2', by omega⟩, by omega⟩
  refine ⟨ht2, ?_⟩
  have e1 := Nf.lays_yes (d := d) ht2
  have e2 : It.laysD o n t k = Nf.lys (o, n, t, k) := Nf.lays_yes (d := (o, n, t, k)) ht
  show Ls.dist (It.laysD d.1 d.2.1 d.2.2.1 d.2.2.2) = Ls.dist (It.laysD o n t k)
  rw [e1, e2]
  exact hds.ls

theorem walk_good (w : World) (a0 : Option Addr) (len0 cap0 : Nat) (hb0 : Bytes w a0 len0) (hlc0 : len0 ≤ cap0) (hcm0 : cap0 ≤ maxLen) (hl0 : len0 ≤ 1048576) :
    Calls Tryz.prog 3 #[.slice a0 len0 cap0] w fun e w' => e = .returned (.bool true) ∧ Ext w w' := by
  have HD0 := Lib.hid (Dr7.drawNormalDoc w a0 len0 cap0 hb0 hlc0 hcm0)
  clear hb0
  unfold maxLen at hcm0
  go_enter Tryz.func3, Tryz.ntmps3
  go_wp2_with fail
  refine HD0.out.mono ?_
  rintro e1 w1 ⟨o, n, t, k, a, c, fs, rfl, hc, hsz, hsub, hfr, hb1⟩
  have D1 := Lib.hid (show DocK.Doc0 w1 n t k a c fs from ⟨hsub, fun c hc => (hfr.2 c hc).2, hc, by omega⟩)
  have E1 := Lib.hid (show Ext w w1 from hb1)
  clear hsub hfr hb1 hc
  have hall := fun (h : (Nf.noRes o n t k).1 = true) (ht : It.toldD o n t k = true) => no_lays h ht
  obtain ⟨⟨ok, o2, n2, t2, k2⟩, hR⟩ : ∃ R, Nf.noRes o n t k = R := ⟨_, rfl⟩
  have hsz3 : t2.size + k2.size ≤ 100000 := Nf.ch_tiny hR
  have HIM := Lib.hid (show ∀ W : World, Ext w1 W → Calls Tryz.prog 5 #[.agg #[.int .i64 o, .int .i64 n, .string t, .slice a k.len c]] W (DocRes W (ok, o2, n2, t2, k2)) from fun W e => by
    have := Nf.implNormalDoc W o n t k a c fs (D1.out.ext e).sub (D1.out.ext e).ok D1.out.cap_le (by omega)
    rw [hR] at this
    exact this)
  have HSP := Lib.hid (show ∀ W : World, Ext w1 W → Calls Tryz.prog 6 #[.agg #[.int .i64 o, .int .i64 n, .string t, .slice a k.len c]] W (DocRes W (ok, o2, n2, t2, k2)) from fun W e => by
    have := Nf.specNormalDoc W o n t k a c fs (D1.out.ext e).sub (D1.out.ext e).ok D1.out.cap_le (by omega)
    rw [hR] at this
    exact this)
  rw [hR] at hall
  simp only at hall
  obtain ⟨XL, hXL⟩ : ∃ X, Ls.dist (It.laysD o n t k) = X := ⟨_, rfl⟩
  obtain ⟨VL, hVL⟩ : ∃ V, It.toldD o n t k = V := ⟨_, rfl⟩
  obtain ⟨YL, hYL⟩ : ∃ X, Ls.dist (It.laysD o2 n2 t2 k2) = X := ⟨_, rfl⟩
  obtain ⟨WL, hWL⟩ : ∃ V, It.toldD o2 n2 t2 k2 = V := ⟨_, rfl⟩
  rw [hXL, hVL, hYL, hWL] at hall
  have HALL := Lib.hid hall
  clear hsz hall hR
  go_wp2_with fail
  refine (HIM.out _ ((Ext.refl w1).alloc _)).mono ?_
  rintro e2 w2 ⟨a2, c2, f2, rfl, hc2, hs2, hfr2, hb⟩
  have e2 : Ext w1 w2 := ((Ext.refl w1).alloc _).trans hb
  have X2 := Lib.hid (box4 (box_new w1 _ _ _ _ _) (by simp) hb)
  have L2 := Lib.hid (show w1.heap.size < w2.heap.size from by have := hb.size; simp at this; omega)
  have D2 := Lib.hid (D1.out.ext e2)
  have N2 := Lib.hid (show DocK.Doc0 w2 n2 t2 k2 a2 c2 f2 from ⟨hs2, fun c hc => (hfr2.2 c hc).2, hc2, hsz3⟩)
  have E2 := Lib.hid e2
  clear hb hc2 hs2 hfr2 e2
  obtain ⟨x0, x1, x2, x3⟩ := X2.out
  have l := L2.out
  go_wp2_with fail
  refine (HSP.out _ (E2.out.trans ((Ext.refl w2).alloc _))).mono ?_
  rintro e3 w3 ⟨a3, c3, f3, rfl, hc3, hs3, hfr3, hb⟩
  have e3 : Ext w2 w3 := ((Ext.refl w2).alloc _).trans hb
  have X3 := Lib.hid (box4 X2.out L2.out e3)
  have Y3 := Lib.hid (box4 (box_new w2 _ _ _ _ _) (by simp) hb)
  have L3 := Lib.hid (Nat.lt_of_lt_of_le L2.out e3.size)
  have M3 := Lib.hid (show w2.heap.size < w3.heap.size from by have := hb.size; simp at this; omega)
  have D3 := Lib.hid (D2.out.ext e3)
  have N3 := Lib.hid (N2.out.ext e3)
  have W3 := Lib.hid (show DocK.Doc0 w3 n2 t2 k2 a3 c3 f3 from ⟨hs3, fun c hc => (hfr3.2 c hc).2, hc3, hsz3⟩)
  have E3 := Lib.hid (E2.out.trans e3)
  have HSAME := Lib.hid (show ∀ W : World, Ext w3 W → Calls Tryz.prog 8 #[.agg #[.int .i64 o2, .int .i64 n2, .string t2, .slice a2 k2.len c2], .agg #[.int .i64 o2, .int .i64 n2, .string t2, .slice a3 k2.len c3]] W fun e w' => e = .returned (.bool true) ∧ Ext W w' from fun W e => by
    have := NfM.same (N3.out.ext e) (W3.out.ext e) o2 o2
    rw [show sameD o2 n2 t2 k2 o2 n2 t2 k2 = true by rw [sameD_yes, F.same_self]] at this
    exact this)
  have HLD := Lib.hid (show ∀ W : World, Ext w3 W → Calls Tryz.prog 7 #[.agg #[.int .i64 o, .int .i64 n, .string t, .slice a k.len c]] W (DocL.LOut W XL VL) from fun W e => by have h := DocL.implDist (D3.out.ext e) o; rw [hXL, hVL] at h; exact h)
  have HLN := Lib.hid (show ∀ W : World, Ext w3 W → Calls Tryz.prog 7 #[.agg #[.int .i64 o2, .int .i64 n2, .string t2, .slice a2 k2.len c2]] W (DocL.LOut W YL WL) from fun W e => by have h := DocL.implDist (N3.out.ext e) o2; rw [hYL, hWL] at h; exact h)
  have HHN := Lib.hid (show ∀ (W : World) (x : Ls.Lay) (al : Option Addr) (cl : Nat), Ext w3 W → DocO.LayIs W x al cl → x ∈ YL → Calls Tryz.prog 9 #[.agg #[.int .i64 o2, .int .i64 n2, .string t2, .slice a2 k2.len c2], .slice al x.length cl] W fun e w' => e = .returned (.bool true) ∧ Ext W w' from fun W x al cl e hl hx => by
    have h := DocL.implHas (N3.out.ext e) o2 hl
    rw [show Ls.inL (It.laysD o2 n2 t2 k2) x = true from Ls.inL_iff.2 ((Ls.dist_mem _ _).1 (by rw [hYL]; exact hx))] at h
    exact h)
  have hvv : (ok != ok) = false := by simp
  have hvw : (ok == ok) = true := by simp
  clear hb hc3 hs3 hfr3 e3 x0 x1 x2 x3 l hsz3 hXL hVL hYL hWL
  obtain ⟨x0, x1, x2, x3⟩ := X3.out
  have l := L3.out
  go_wp2_with fail
  refine (HLD.out _ ((Ext.refl w3).alloc _)).mono ?_
  rintro e4 w4 ⟨pa, ca, rfl, hla, hb⟩
  have e4 : Ext w3 w4 := ((Ext.refl w3).alloc _).trans hb
  have Y4 := Lib.hid (box4 Y3.out M3.out e4)
  have M4 := Lib.hid (Nat.lt_of_lt_of_le M3.out e4.size)
  have Z4 := Lib.hid (box4 (box_new w3 _ _ _ _ _) (by simp) hb)
  have P4 := Lib.hid (show w3.heap.size < w4.heap.size from by have := hb.size; simp at this; omega)
  have E4 := Lib.hid e4
  have K4 := Lib.hid hla
  clear hb hla e4 x0 x1 x2 x3 l
  obtain ⟨y0, y1, y2, y3⟩ := Y4.out
  obtain ⟨z0, z1, z2, z3⟩ := Z4.out
  have m := M4.out
  have p := P4.out
  go_wp2_with fail
  refine (HSAME.out _ E4.out).mono ?_
  rintro e5 w5 ⟨rfl, hb⟩
  have Y5 := Lib.hid (box4 Y4.out M4.out hb)
  have M5 := Lib.hid (Nat.lt_of_lt_of_le M4.out hb.size)
  have Z5 := Lib.hid (box4 Z4.out P4.out hb)
  have P5 := Lib.hid (Nat.lt_of_lt_of_le P4.out hb.size)
  have E5 := Lib.hid (E4.out.trans hb)
  have K5 := Lib.hid (K4.out.ext hb)
  clear hb y0 y1 y2 y3 z0 z1 z2 z3 m p
  cases ok with
  | false =>
    obtain ⟨y0, y1, y2, y3⟩ := Y5.out
    obtain ⟨z0, z1, z2, z3⟩ := Z5.out
    have m := M5.out
    have p := P5.out
    go_wp2_with fail
    refine (HSAME.out _ E5.out).mono ?_
    rintro e6 w6 ⟨rfl, hb⟩
    have E6 := Lib.hid (E5.out.trans hb)
    clear hb y0 y1 y2 y3 z0 z1 z2 z3 m p
    go_wp2_with fail
    go_ret
    exact ⟨by first | rfl | simp, E1.out.trans (E3.out.trans E6.out)⟩
  | true =>
    cases VL with
    | false =>
      obtain ⟨y0, y1, y2, y3⟩ := Y5.out
      obtain ⟨z0, z1, z2, z3⟩ := Z5.out
      have m := M5.out
      have p := P5.out
      go_wp2_with fail
      refine (HSAME.out _ E5.out).mono ?_
      rintro e6 w6 ⟨rfl, hb⟩
      have E6 := Lib.hid (E5.out.trans hb)
      clear hb y0 y1 y2 y3 z0 z1 z2 z3 m p
      go_wp2_with fail
      go_ret
      exact ⟨by first | rfl | simp, E1.out.trans (E3.out.trans E6.out)⟩
    | true =>
      obtain ⟨hwl, hyl⟩ := HALL.out rfl rfl
      subst hwl
      subst hyl
      obtain ⟨M, hM⟩ : ∃ m, YL.length = m := ⟨_, rfl⟩
      have HM := Lib.hid hM
      have hM3 : M ≤ 300 := by rw [← hM]; exact K5.out.few
      rw [hM]
      clear hM
      obtain ⟨y0, y1, y2, y3⟩ := Y5.out
      have m := M5.out
      go_wp2_with fail
      refine (HLN.out _ E5.out).mono ?_
      rintro e6 w6 ⟨pb, cb, rfl, hlb, hb⟩
      rw [HM.out]
      have Y6 := Lib.hid (box4 Y5.out M5.out hb)
      have M6 := Lib.hid (Nat.lt_of_lt_of_le M5.out hb.size)
      have E6 := Lib.hid (E5.out.trans hb)
      have K6 := Lib.hid (K5.out.ext hb)
      clear hb hlb y0 y1 y2 y3 m
      go_wp2_with fail
      go_loopw [12] (fun i wr => ∃ j : Nat, j ≤ M ∧ i = .int .i64 (j : Int) ∧ Ext w6 wr) (fun i _ => M - (intOf i).toNat)
      case atStart => exact ⟨0, by omega, rfl, Ext.refl _⟩
      case round =>
        obtain ⟨j, hj, rfl, hext⟩ := hrel
        have Y7 := Lib.hid (box4 Y6.out M6.out hext)
        have M7 := Lib.hid (Nat.lt_of_lt_of_le M6.out hext.size)
        have R := Lib.hid hext
        have K7 := Lib.hid (K6.out.ext hext)
        clear hext
        by_cases hjM : j < M
        · have HJM := Lib.hid hjM
          have hjl : j < YL.length := by rw [HM.out]; exact hjM
          have i0 : (0 : Int) ≤ (j : Int) := Int.natCast_nonneg _
          have i1 : (j : Int) < (M : Int) := by omega
          obtain ⟨be, ofe, ae, ce, hae, hbl, hcell, hel⟩ := K7.out.get hjl
          obtain ⟨Ye, hY⟩ : ∃ Y, YL[j] = Y := ⟨_, rfl⟩
          have hmem : Ye ∈ YL := by rw [← hY]; exact List.getElem_mem hjl
          rw [hY] at hcell hel
          have HCL := Lib.hid (fun (W : World) (e : Ext wr W) => HHN.out W Ye ae ce ((E6.out.trans R.out).trans e) (hel.ext e) hmem)
          obtain ⟨LY, hLY⟩ : ∃ m, Ye.length = m := ⟨_, rfl⟩
          rw [hLY] at HCL hcell
          clear hel hY hmem hjl hLY
          subst hae
          obtain ⟨y0, y1, y2, y3⟩ := Y7.out
          have m := M7.out
          go_wp2_with fail
          go_region_law (first | (go_simp; go_at_call 9; refine (HCL.out _ (by first | exact Ext.refl wr | exact (Ext.refl wr).drew)).mono ?_; rintro e8 w8 ⟨rfl, hb⟩; have R8 := Lib.hid (R.out.trans (show Ext wr w8 from by first | exact hb | exact (Ext.refl wr).drew.trans hb)); clear hb))
          all_goals
            go_wp2_with fail
            go_roundw
            case rel => exact ⟨j + 1, by have := HJM.out; omega, by go_num, R8.out⟩
            case measure => have := HJM.out; simp [intOf]; omega
        · obtain rfl : M = j := by omega
          have i1 : ¬ ((M : Int) < (M : Int)) := by omega
          go_wp2_with fail
          go_ret
          exact ⟨by first | rfl | simp, E1.out.trans (E3.out.trans (E6.out.trans R.out))⟩

set_option maxHeartbeats 400000 in
theorem walk_big (w : World) (a0 : Option Addr) (len0 cap0 : Nat) (hl0 : 1048576 < len0) :
    Calls Tryz.prog 3 #[.slice a0 len0 cap0] w fun e w' => e = .returned (.bool true) ∧ Ext w w' := by
  have h1 : (1048576 : Int) < (len0 : Int) := by omega
  go_enter Tryz.func3, Tryz.ntmps3
  go_wp2_with fail
  go_ret
  exact ⟨rfl, Ext.refl w⟩

theorem walk (w : World) (a0 : Option Addr) (len0 cap0 : Nat) (hb0 : Bytes w a0 len0) (hlc0 : len0 ≤ cap0) (hcm0 : cap0 ≤ maxLen) :
    Calls Tryz.prog 3 #[.slice a0 len0 cap0] w fun e w' => e = .returned (.bool true) ∧ Below w.heap.size w w' := by
  by_cases h : 1048576 < len0
  · exact walk_big w a0 len0 cap0 h
  · exact walk_good w a0 len0 cap0 hb0 hlc0 hcm0 (by omega)

theorem lifted (os : Os) (started : os.Started) (H : Type) (enc : TypeId × Value → H) :
    ReturnsInHanded {} Tryz.checked os 3 .any (Rows.fnNormalLayoutsSpec.pre6 enc Tryz.prog Tryz.f3 Rows.fnNormalLayoutsRow.domain false) (Rows.fnNormalLayoutsSpec.post enc Tryz.prog Tryz.f3 false true false false) := by
  refine returnsInHanded_of_change (C := Tryz.checked) Facts.own started (by kernel_rfl) Tryz.func3
    (ChangeSpec.witness6 (enc := enc) (C := Tryz.checked) false ⟨#[], #[.slice none 0 0], []⟩ 8 (by kernel_rfl) (by kernel_rfl) (by kernel_rfl) (by kernel_rfl)) ?_
  intro W base args ds gs before hval0 hW hcnd0 _
  clear hcnd0
  have hval : ∀ (j : Nat) t v, Tryz.f3.params[j]? = some t → args[j]? = some v → Value.okWide Tryz.prog W .any base t v := hval0
  have hW' := hW
  obtain ⟨p, q, hA0, hV, rfl, hfz, hnd⟩ := hW
  have hA : DataW.TrodAll enc Tryz.prog W 0 (fun _ => true) true Tryz.f3.params.toList args.toList ds p := hA0
  rw [Tryz.params3] at hA hval
  obtain ⟨v0, d0, rfl, rfl, h0⟩ := trodAll_one hA
  obtain ⟨rfl, rfl⟩ := trodVars_none hV
  obtain ⟨a0, len0, cap0, rfl⟩ := okWide_slice Tryz.underlying22 (hval 0 22 v0 rfl rfl)
  clear hA0 hval0
  simp only [List.append_nil] at hW'
  have hlt : ∀ x ∈ p, x.block < W.heap.size := fun x hx => by simpa using hW'.lt x hx
  obtain ⟨hb0, hlc0, hcm0⟩ := opened h0
  refine (walk W a0 len0 cap0 hb0 hlc0 hcm0).mono fun e W' ⟨he, hb⟩ => ?_
  subst he
  refine ⟨_, rfl, [_], [], p, [], p, [], hW', trodAll_mk1 (shut_bool Tryz.underlying4 _), ?_, rfl, hb.frame _, fun h => by cases h⟩
  exact trodAll_mk1 (Below.trod Facts.laidOut (by kernel_rfl) (of_decide_eq_true (by kernel_rfl)) h0 hb hlt)

theorem named : Tryz.prog.funcNamed Rows.fnNormalLayoutsRow.func = some 3 := by kernel_rfl
theorem closed : joinedFacts Tryz.prog 3 Tryz.f3 Rows.fnNormalLayoutsSpec Rows.fnNormalLayoutsRow = true :=
  Facts.closed_of rfl rfl rfl rfl (h28b := rfl) (by kernel_rfl) (by kernel_rfl) (by kernel_rfl) (by kernel_rfl) (by kernel_rfl) (by kernel_rfl) (by kernel_rfl) (by kernel_rfl) (by kernel_rfl) (by kernel_rfl) (by kernel_rfl) (by kernel_rfl) (by kernel_rfl) (by kernel_rfl) (by kernel_rfl) (by kernel_rfl) (by kernel_rfl) (by kernel_rfl) (by kernel_rfl) (by kernel_rfl) (by kernel_rfl) (by kernel_rfl) (by kernel_rfl) (by kernel_rfl)
theorem instanced : Tryz.f3.isInstance Tryz.prog Rows.fnNormalLayoutsRow.origin Rows.fnNormalLayoutsRow.targs := of_decide_eq_true (by kernel_rfl)
theorem wrapped : Tryz.f3.isWrapper Tryz.prog Rows.fnNormalLayoutsRow.wrapper Rows.fnNormalLayoutsRow.mainSum := by
  unfold Func.isWrapper
  rw [if_neg (of_decide_eq_false (by kernel_rfl))]
  exact ⟨rfl, rfl⟩

theorem holds : Rows.FnNormalLayoutsSaid :=
  OpenClaim.holds_of_wide 3 Tryz.f3 rfl rfl rfl rfl rfl rfl rfl ⟨rfl, rfl, rfl, rfl, rfl⟩ rfl rfl rfl rfl rfl named Tryz.func3 closed instanced wrapped
    (fun os started H enc _ => lifted os started H enc)

end Go.Proofs.YtabmiikacaaplaaGreat.lawNormalLayouts

