import Derived.Test.YtmkibpimjaofgaaDrM
import Derived.Test.YtmkibpimjaofgaaDoX
import Derived.Test.YtmkibpimjaofgaaLdS
import Derived.Test.YtmkibpimjaofgaaWoL
import Derived.Test.YtmkibpimjaofgaaSmX
import Derived.Test.YtmkibpimjaofgaaFacts
/-
  A layout's document is rendered as the layout: the law FnLayoutBack returns true for whatever draws, and its argument reads as it did. No condition of ours.
-/
set_option linter.unusedVariables false
set_option linter.unusedSimpArgs false
set_option maxRecDepth 100000
set_option maxHeartbeats 6400000
namespace Go.Proofs.Ytmkibpimjaofgaa.lawLayoutBackD
open Go.ChangeShapes Go.WideShapes Go.ChangeAt Go.RowKit P1 Draw6 LawC CntC DocK CatD

theorem ld_tiny {l : List (Int × ByteArray)} {ok : Bool} {o n : Int} {t : ByteArray} {k : F} (h : Nf.ldR l = (ok, o, n, t, k)) : t.size + k.size ≤ 100000 := by
  by_cases hh : (Nf.ldR l).1 = true
  · have h1 := Nf.valid_nice (Nf.ld_all hh).2.1
    rw [h] at h1
    have h2 := Nf.nice_size k (Nf.nice_kids h1.1).2
    have h3 := Nf.nice_text (Bool.and_eq_true_iff.1 h1.1).1
    simp only at h1 h3
    omega
  · have h4 : Nf.ldR l = (false, zeroD) := by
      unfold Nf.ldR at hh ⊢
      split
      · rename_i h5; rw [if_pos h5] at hh; exact absurd rfl hh
      · rfl
    rw [h] at h4
    injection h4 with _ h4
    injection h4 with _ h4
    injection h4 with _ h4
    injection h4 with h5 h6
    subst h5 h6
    decide


theorem back_ok {l : List (Int × ByteArray)} {o n : Int} {t : ByteArray} {k : F} (h : Nf.ldR l = (true, o, n, t, k)) : Rn.rnR 0 o n t k = (l, true) := by
  obtain ⟨_, hv, _, hop, h8⟩ := Nf.ld_all (l := l) (by rw [h])
  rw [h] at hv hop h8
  simp only at hv hop h8
  have hr : Rn.rightD 0 o n t k = true := by simp [Rn.rightD, hv]
  obtain ⟨f1, f2⟩ := Rn.rn_opened 0 hv
  have h8' : opsD 8 o k = 0 := h8
  rw [h8'] at f1
  rw [RnR.rnR_yes hr, f2 (fun b hb => by rw [List.length_eq_zero_iff.1 (Nat.le_zero.1 f1)] at hb; simp at hb), hop]

theorem walk_good (w : World) (a0 : Option Addr) (len0 cap0 : Nat) (hb0 : Bytes w a0 len0) (hlc0 : len0 ≤ cap0) (hcm0 : cap0 ≤ maxLen) (hl0 : len0 ≤ 1048576) :
    Calls Try.prog 15 #[.slice a0 len0 cap0] w fun e w' => e = .returned (.bool true) ∧ Ext w w' := by
  have HD0 := Lib.hid (DrR.drawRenderDoc w a0 len0 cap0 hb0 hlc0 hcm0)
  clear hb0
  unfold maxLen at hcm0
  go_enter Try.func15, Try.ntmps15
  go_wp2_with fail
  refine HD0.out.mono ?_
  rintro e1 w1 ⟨o, n, t, k, a, cap, fs, i, rfl, hi, hc, hsz, hsub, hfr, hb1⟩
  have D1 := Lib.hid (show DocK.Doc0 w1 n t k a cap fs from ⟨hsub, fun c hc => (hfr.2 c hc).2, hc, by omega⟩)
  have E1 := Lib.hid (show Ext w w1 from hb1)
  have hkl : k.len ≤ 100000 := D1.out.len
  clear hsub hfr hb1
  obtain ⟨⟨X, V⟩, hr⟩ : ∃ r, Rn.rnR i o n t k = r := ⟨_, rfl⟩
  have HXI := Lib.hid (show ∀ W : World, Ext w1 W → Calls Try.prog 57 #[.agg #[.int .i64 o, .int .i64 n, .string t, .slice a k.len cap], .int .i64 i] W (DocO.Out W X V) from fun W e => by have h := DocR.implRender (D1.out.ext e) o i; rw [hr] at h; exact h)
  have HXS := Lib.hid (show ∀ W : World, Ext w1 W → Calls Try.prog 58 #[.agg #[.int .i64 o, .int .i64 n, .string t, .slice a k.len cap], .int .i64 i] W (DocO.Out W X V) from fun W e => by have h := DocR.specRender (D1.out.ext e) o i; rw [hr] at h; exact h)
  obtain ⟨⟨ok, o2, n2, t2, k2⟩, hR⟩ : ∃ R, Nf.ldR X = R := ⟨_, rfl⟩
  have hsz3 : t2.size + k2.size ≤ 100000 := ld_tiny hR
  have hback := fun (h : ok = true) => back_ok (l := X) (o := o2) (n := n2) (t := t2) (k := k2) (by rw [hR, h])
  obtain ⟨ML, hML⟩ : ∃ m, X.length = m := ⟨_, rfl⟩
  have HML := Lib.hid hML
  have HR := Lib.hid hR
  have HBK := Lib.hid hback
  have evv : (V != V) = false := by simp
  clear hc hsz hr hML hback hR
  go_wp2_with fail
  refine (HXI.out _ ((Ext.refl w1).alloc _)).mono ?_
  rintro e2 w2 ⟨pa, ca, rfl, hlay, hb⟩
  rw [HML.out]
  have X2 := Lib.hid (box4 (box_new w1 _ _ _ _ _) (by simp) hb)
  have E2 := Lib.hid (((Ext.refl w1).alloc _).trans hb)
  have L2 := Lib.hid (show w1.heap.size < w2.heap.size from by have := hb.size; simp at this; omega)
  have Ka := Lib.hid hlay
  clear hlay hb
  obtain ⟨x0, x1, x2, x3⟩ := X2.out
  have l := L2.out
  go_wp2_with fail
  refine (HXS.out _ E2.out).mono ?_
  rintro e3 w3 ⟨pb, cb, rfl, hlay, hb⟩
  rw [HML.out]
  have E3 := Lib.hid (E2.out.trans hb)
  have Kb := Lib.hid (Ka.out.ext hb)
  clear hlay hb x0 x1 x2 x3 l Ka
  have HIM := Lib.hid (show ∀ W : World, Ext w3 W → Calls Try.prog 39 #[.slice pa ML ca] W (DocRes W (ok, o2, n2, t2, k2)) from fun W e => by
    obtain ⟨fl, hs⟩ := (Kb.out.ext e).sub
    have := Nf.implLayoutDoc W X pa ca fl hs Kb.out.cap_le Kb.out.fits.2 Kb.out.fits.1
    rw [HR.out, HML.out] at this
    exact this)
  have HSP := Lib.hid (show ∀ W : World, Ext w3 W → Calls Try.prog 37 #[.slice pa ML ca] W (DocRes W (ok, o2, n2, t2, k2)) from fun W e => by
    obtain ⟨fl, hs⟩ := (Kb.out.ext e).sub
    have := Nf.specLayoutDoc W X pa ca fl hs Kb.out.cap_le Kb.out.fits.2 Kb.out.fits.1
    rw [HR.out, HML.out] at this
    exact this)
  have HLS := Lib.hid (show ∀ (W : World) (pc : Option Addr) (cc : Nat), Ext w3 W → DocO.LayIs W X pc cc → Calls Try.prog 52 #[.slice pc ML cc, .slice pa ML ca] W fun e w' => e = .returned (.bool true) ∧ Ext W w' from fun W pc cc e h => by
    have := DocO.LayIs.same h (Kb.out.ext e)
    rw [HML.out] at this
    exact this)
  go_wp2_with fail
  refine (HIM.out _ (Ext.refl w3)).mono ?_
  rintro e4 w4 ⟨a2, c2, f2, rfl, hc2, hs2, hfr2, hb⟩
  simp only at hc2 hs2 ⊢
  have N4 := Lib.hid (show DocK.Doc0 w4 n2 t2 k2 a2 c2 f2 from ⟨hs2, fun c hc => (hfr2.2 c hc).2, hc2, hsz3⟩)
  have E4 := Lib.hid (show Ext w3 w4 from hb)
  clear hb hc2 hs2 hfr2
  go_wp2_with fail
  refine (HSP.out _ (E4.out.trans ((Ext.refl w4).alloc _))).mono ?_
  rintro e5 w5 ⟨a3, c3, f3, rfl, hc3, hs3, hfr3, hb⟩
  simp only at hc3 hs3 ⊢
  have e5 : Ext w4 w5 := ((Ext.refl w4).alloc _).trans hb
  have Y5 := Lib.hid (box4 (box_new w4 _ _ _ _ _) (by simp) hb)
  have M5 := Lib.hid (show w4.heap.size < w5.heap.size from by have := hb.size; simp at this; omega)
  have N5 := Lib.hid (N4.out.ext e5)
  have W5 := Lib.hid (show DocK.Doc0 w5 n2 t2 k2 a3 c3 f3 from ⟨hs3, fun c hc => (hfr3.2 c hc).2, hc3, hsz3⟩)
  have E5 := Lib.hid (E4.out.trans e5)
  have HSAME := Lib.hid (show ∀ W : World, Ext w5 W → Calls Try.prog 41 #[.agg #[.int .i64 o2, .int .i64 n2, .string t2, .slice a2 k2.len c2], .agg #[.int .i64 o2, .int .i64 n2, .string t2, .slice a3 k2.len c3]] W fun e w' => e = .returned (.bool true) ∧ Ext W w' from fun W e => by
    have := NfM.same (N5.out.ext e) (W5.out.ext e) o2 o2
    rw [show sameD o2 n2 t2 k2 o2 n2 t2 k2 = true by rw [sameD_yes, F.same_self]] at this
    exact this)
  have hvv : (ok != ok) = false := by simp
  have hvw : (ok == ok) = true := by simp
  clear hb hc3 hs3 hfr3 e5 hsz3
  obtain ⟨y0, y1, y2, y3⟩ := Y5.out
  have m := M5.out
  have hend : (V = true ∧ ok = true) ∨ (V && ok) = false := by cases V <;> cases ok <;> simp
  rcases hend with ⟨rfl, rfl⟩ | hno
  · have hbk := HBK.out rfl
    have HRN := Lib.hid (show ∀ W : World, Ext w5 W → Calls Try.prog 57 #[.agg #[.int .i64 o2, .int .i64 n2, .string t2, .slice a2 k2.len c2], .int .i64 0] W (DocO.Out W X true) from fun W e => by have h := DocR.implRender (N5.out.ext e) o2 0; rw [hbk] at h; exact h)
    clear hbk
    go_wp2_with fail
    refine (HSAME.out _ ((Ext.refl w5).alloc _)).mono ?_
    rintro e6 w6 ⟨rfl, hb⟩
    have e6 : Ext w5 w6 := ((Ext.refl w5).alloc _).trans hb
    have Y6 := Lib.hid (box4 Y5.out M5.out e6)
    have E6 := Lib.hid e6
    have M6 := Lib.hid (Nat.lt_of_lt_of_le M5.out e6.size)
    clear hb e6 y0 y1 y2 y3 m
    obtain ⟨y0, y1, y2, y3⟩ := Y6.out
    have m := M6.out
    go_wp2_with fail
    refine (HRN.out _ E6.out).mono ?_
    rintro e7 w7 ⟨pc, cc, rfl, hlc, hb⟩
    rw [HML.out]
    have E7 := Lib.hid (E6.out.trans hb)
    have HL7 := Lib.hid (HLS.out w7 pc cc (E5.out.trans (E6.out.trans hb)) hlc)
    clear hb hlc y0 y1 y2 y3 m
    go_wp2_with fail
    refine HL7.out.mono ?_
    rintro e8 w8 ⟨rfl, hb⟩
    have E8 := Lib.hid (E7.out.trans hb)
    clear hb
    go_wp2_with fail
    go_ret
    exact ⟨by first | rfl | simp, E1.out.trans (E3.out.trans (E5.out.trans E8.out))⟩
  · cases V <;> cases ok <;> first | (exact absurd hno (by decide)) | skip
    all_goals
      clear hno
      go_wp2_with fail
      refine (HSAME.out _ ((Ext.refl w5).alloc _)).mono ?_
      rintro e6 w6 ⟨rfl, hb⟩
      have e6 : Ext w5 w6 := ((Ext.refl w5).alloc _).trans hb
      have Z6 := Lib.hid (box4 (box_new w5 _ _ _ _ _) (by simp) hb)
      have Y6 := Lib.hid (box4 Y5.out M5.out e6)
      have E6 := Lib.hid e6
      have M6 := Lib.hid (Nat.lt_of_lt_of_le M5.out e6.size)
      have P6 := Lib.hid (show w5.heap.size < w6.heap.size from by have := hb.size; simp at this; omega)
      clear hb e6 y0 y1 y2 y3 m
      obtain ⟨y0, y1, y2, y3⟩ := Y6.out
      obtain ⟨z0, z1, z2, z3⟩ := Z6.out
      have m := M6.out
      have p := P6.out
      go_wp2_with fail
      refine (HSAME.out _ E6.out).mono ?_
      rintro e7 w7 ⟨rfl, hb⟩
      have E7 := Lib.hid (E6.out.trans hb)
      clear hb y0 y1 y2 y3 z0 z1 z2 z3 m p
      go_wp2_with fail
      go_ret
      exact ⟨by first | rfl | simp, E1.out.trans (E3.out.trans (E5.out.trans E7.out))⟩

set_option maxHeartbeats 400000 in
theorem walk_big (w : World) (a0 : Option Addr) (len0 cap0 : Nat) (hl0 : 1048576 < len0) :
    Calls Try.prog 15 #[.slice a0 len0 cap0] w fun e w' => e = .returned (.bool true) ∧ Ext w w' := by
  have h1 : (1048576 : Int) < (len0 : Int) := by omega
  go_enter Try.func15, Try.ntmps15
  go_wp2_with fail
  go_ret
  exact ⟨rfl, Ext.refl w⟩

theorem walk (w : World) (a0 : Option Addr) (len0 cap0 : Nat) (hb0 : Bytes w a0 len0) (hlc0 : len0 ≤ cap0) (hcm0 : cap0 ≤ maxLen) :
    Calls Try.prog 15 #[.slice a0 len0 cap0] w fun e w' => e = .returned (.bool true) ∧ Below w.heap.size w w' := by
  by_cases h : 1048576 < len0
  · exact walk_big w a0 len0 cap0 h
  · exact walk_good w a0 len0 cap0 hb0 hlc0 hcm0 (by omega)

theorem lifted (os : Os) (started : os.Started) (H : Type) (enc : TypeId × Value → H) :
    ReturnsInHanded {} Try.checked os 15 .any (Rows.fnLayoutBackSpec.pre6 enc Try.prog Try.f15 Rows.fnLayoutBackRow.domain false) (Rows.fnLayoutBackSpec.post enc Try.prog Try.f15 false true false false) := by
  refine returnsInHanded_of_change (C := Try.checked) Facts.own started (by kernel_rfl) Try.func15
    (ChangeSpec.witness6 (enc := enc) (C := Try.checked) false ⟨#[], #[.slice none 0 0], []⟩ 8 (by kernel_rfl) (by kernel_rfl) (by kernel_rfl) (by kernel_rfl)) ?_
  intro W base args ds gs before hval0 hW hcnd0 _
  clear hcnd0
  have hval : ∀ (j : Nat) t v, Try.f15.params[j]? = some t → args[j]? = some v → Value.okWide Try.prog W .any base t v := hval0
  have hW' := hW
  obtain ⟨p, q, hA0, hV, rfl, hfz, hnd⟩ := hW
  have hA : DataW.TrodAll enc Try.prog W 0 (fun _ => true) true Try.f15.params.toList args.toList ds p := hA0
  rw [Try.params15] at hA hval
  obtain ⟨v0, d0, rfl, rfl, h0⟩ := trodAll_one hA
  obtain ⟨rfl, rfl⟩ := trodVars_none hV
  obtain ⟨a0, len0, cap0, rfl⟩ := okWide_slice Try.underlying48 (hval 0 48 v0 rfl rfl)
  clear hA0 hval0
  simp only [List.append_nil] at hW'
  have hlt : ∀ x ∈ p, x.block < W.heap.size := fun x hx => by simpa using hW'.lt x hx
  obtain ⟨hb0, hlc0, hcm0⟩ := opened h0
  refine (walk W a0 len0 cap0 hb0 hlc0 hcm0).mono fun e W' ⟨he, hb⟩ => ?_
  subst he
  refine ⟨_, rfl, [_], [], p, [], p, [], hW', trodAll_mk1 (shut_bool Try.underlying4 _), ?_, rfl, hb.frame _, fun h => by cases h⟩
  exact trodAll_mk1 (Below.trod Facts.laidOut (by kernel_rfl) (of_decide_eq_true (by kernel_rfl)) h0 hb hlt)

theorem named : Try.prog.funcNamed Rows.fnLayoutBackRow.func = some 15 := by kernel_rfl
theorem closed : joinedFacts Try.prog 15 Try.f15 Rows.fnLayoutBackSpec Rows.fnLayoutBackRow = true :=
  Facts.closed_of rfl rfl rfl rfl (h28b := rfl) (by kernel_rfl) (by kernel_rfl) (by kernel_rfl) (by kernel_rfl) (by kernel_rfl) (by kernel_rfl) (by kernel_rfl) (by kernel_rfl) (by kernel_rfl) (by kernel_rfl) (by kernel_rfl) (by kernel_rfl) (by kernel_rfl) (by kernel_rfl) (by kernel_rfl) (by kernel_rfl) (by kernel_rfl) (by kernel_rfl) (by kernel_rfl) (by kernel_rfl) (by kernel_rfl) (by kernel_rfl) (by kernel_rfl) (by kernel_rfl)
theorem instanced : Try.f15.isInstance Try.prog Rows.fnLayoutBackRow.origin Rows.fnLayoutBackRow.targs := of_decide_eq_true (by kernel_rfl)
theorem wrapped : Try.f15.isWrapper Try.prog Rows.fnLayoutBackRow.wrapper Rows.fnLayoutBackRow.mainSum := by
  unfold Func.isWrapper
  rw [if_neg (of_decide_eq_false (by kernel_rfl))]
  exact ⟨rfl, rfl⟩

theorem holds : Rows.FnLayoutBackSaid :=
  OpenClaim.holds_of_wide 15 Try.f15 rfl rfl rfl rfl rfl rfl rfl ⟨rfl, rfl, rfl, rfl, rfl⟩ rfl rfl rfl rfl rfl named Try.func15 closed instanced wrapped
    (fun os started H enc _ => lifted os started H enc)

end Go.Proofs.Ytmkibpimjaofgaa.lawLayoutBackD

