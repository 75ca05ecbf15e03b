import Derived.Test.YtmkibpimjaofgaaDrLd
import Derived.Test.YtmkibpimjaofgaaLdS
import Derived.Test.YtmkibpimjaofgaaWoL
import Derived.Test.YtmkibpimjaofgaaDocC
import Derived.Test.YtmkibpimjaofgaaSmX
import Derived.Test.YtmkibpimjaofgaaDrZ
import Derived.Test.YtmkibpimjaofgaaFacts
/-
  The document of a layout has that layout only: the law FnLayoutDoc returns true for whatever draws, and its argument reads as it did. No condition of ours.
-/
set_option linter.unusedVariables false
set_option linter.unusedSimpArgs false
set_option maxRecDepth 100000
set_option maxHeartbeats 6400000
namespace Go.Proofs.Ytmkibpimjaofgaa.lawLayoutDocD
open Go.ChangeShapes Go.WideShapes Go.ChangeAt Go.RowKit P1 Draw6 LawC CntC DocK CatD

theorem ld_tiny {l : List (Int × ByteArray)} {ok : Bool} {o n : Int} {t : ByteArray} {k : F} (h : Nf.ldR l = (ok, o, n, t, k)) : t.size + k.size ≤ 100000 := by
  by_cases hh : (Nf.ldR l).1 = true
  · have h1 := Nf.valid_nice (Nf.ld_all hh).2.1
    rw [h] at h1
    have h2 := Nf.nice_size k (Nf.nice_kids h1.1).2
    have h3 := Nf.nice_text (Bool.and_eq_true_iff.1 h1.1).1
    simp only at h1 h3
    omega
  · have h4 : Nf.ldR l = (false, zeroD) := by
      unfold Nf.ldR at hh ⊢
      split
      · rename_i h5; rw [if_pos h5] at hh; exact absurd rfl hh
      · rfl
    rw [h] at h4
    injection h4 with _ h4
    injection h4 with _ h4
    injection h4 with _ h4
    injection h4 with h5 h6
    subst h5 h6
    decide

theorem walk_good (w : World) (a0 : Option Addr) (len0 cap0 : Nat) (hb0 : Bytes w a0 len0) (hlc0 : len0 ≤ cap0) (hcm0 : cap0 ≤ maxLen) (hl0 : len0 ≤ 1048576) :
    Calls Try.prog 13 #[.slice a0 len0 cap0] w fun e w' => e = .returned (.bool true) ∧ Ext w w' := by
  have HD0 := Lib.hid (DrLd.drawLd w a0 len0 cap0 hb0 hlc0 hcm0)
  clear hb0
  unfold maxLen at hcm0
  go_enter Try.func13, Try.ntmps13
  go_wp2_with fail
  refine HD0.out.mono ?_
  rintro e1 w1 ⟨l, pl, cl, fl, rfl, hcl, hsm, hsub, hb1⟩
  have E1 := Lib.hid (show Ext w w1 from hb1)
  have hpush := fun (h : (Nf.ldR l).1 = true) => Nf.ld_all h
  obtain ⟨⟨ok, o2, n2, t2, k2⟩, hR⟩ : ∃ R, Nf.ldR l = R := ⟨_, rfl⟩
  have hsz3 : t2.size + k2.size ≤ 100000 := ld_tiny hR
  have HIM := Lib.hid (show ∀ W : World, Ext w1 W → Calls Try.prog 39 #[.slice pl l.length cl] W (DocRes W (ok, o2, n2, t2, k2)) from fun W e => by
    have := Nf.implLayoutDoc W l pl cl fl (hsub.below hsub.lt e) hcl hsm.fits.2 hsm.fits.1
    rw [hR] at this
    exact this)
  have HSP := Lib.hid (show ∀ W : World, Ext w1 W → Calls Try.prog 37 #[.slice pl l.length cl] W (DocRes W (ok, o2, n2, t2, k2)) from fun W e => by
    have := Nf.specLayoutDoc W l pl cl fl (hsub.below hsub.lt e) hcl hsm.fits.2 hsm.fits.1
    rw [hR] at this
    exact this)
  have HLS := Lib.hid (show ∀ (W : World) (pa : Option Addr) (ca : Nat), Ext w1 W → DocO.LayIs W l pa ca → Calls Try.prog 52 #[.slice pa l.length ca, .slice pl l.length cl] W fun e w' => e = .returned (.bool true) ∧ Ext W w' from fun W pa ca e h => by
    obtain ⟨fa, hsa⟩ := h.sub
    have := LaySm.implLayoutSame l l W pa ca fa hsa pl cl fl (hsub.below hsub.lt e) h.cap_le hcl hsm.fits.2 hsm.fits.2
    rw [decide_eq_true rfl] at this
    exact this)
  obtain ⟨ML, hML⟩ : ∃ m, l.length = m := ⟨_, rfl⟩
  have HML := Lib.hid hML
  rw [hML] at HIM HSP HLS ⊢
  clear hsub hb1 hcl hsm hML
  go_wp2_with fail
  refine (HIM.out _ (Ext.refl w1)).mono ?_
  rintro e2 w2 ⟨a2, c2, f2, rfl, hc2, hs2, hfr2, hb⟩
  simp only at hc2 hs2 ⊢
  have N2 := Lib.hid (show DocK.Doc0 w2 n2 t2 k2 a2 c2 f2 from ⟨hs2, fun c hc => (hfr2.2 c hc).2, hc2, hsz3⟩)
  have E2 := Lib.hid (show Ext w1 w2 from hb)
  clear hb hc2 hs2 hfr2
  go_wp2_with fail
  refine (HSP.out _ (E2.out.trans ((Ext.refl w2).alloc _))).mono ?_
  rintro e3 w3 ⟨a3, c3, f3, rfl, hc3, hs3, hfr3, hb⟩
  simp only at hc3 hs3 ⊢
  have e3 : Ext w2 w3 := ((Ext.refl w2).alloc _).trans hb
  have Y3 := Lib.hid (box4 (box_new w2 _ _ _ _ _) (by simp) hb)
  have M3 := Lib.hid (show w2.heap.size < w3.heap.size from by have := hb.size; simp at this; omega)
  have N3 := Lib.hid (N2.out.ext e3)
  have W3 := Lib.hid (show DocK.Doc0 w3 n2 t2 k2 a3 c3 f3 from ⟨hs3, fun c hc => (hfr3.2 c hc).2, hc3, hsz3⟩)
  have E3 := Lib.hid (E2.out.trans e3)
  have HSAME := Lib.hid (show ∀ W : World, Ext w3 W → Calls Try.prog 41 #[.agg #[.int .i64 o2, .int .i64 n2, .string t2, .slice a2 k2.len c2], .agg #[.int .i64 o2, .int .i64 n2, .string t2, .slice a3 k2.len c3]] W fun e w' => e = .returned (.bool true) ∧ Ext W w' from fun W e => by
    have := NfM.same (N3.out.ext e) (W3.out.ext e) o2 o2
    rw [show sameD o2 n2 t2 k2 o2 n2 t2 k2 = true by rw [sameD_yes, F.same_self]] at this
    exact this)
  have hvv : (ok != ok) = false := by simp
  have hvw : (ok == ok) = true := by simp
  clear hb hc3 hs3 hfr3 e3 hsz3
  obtain ⟨y0, y1, y2, y3⟩ := Y3.out
  have m := M3.out
  cases ok with
  | false =>
    go_wp2_with fail
    refine (HSAME.out _ ((Ext.refl w3).alloc _)).mono ?_
    rintro e4 w4 ⟨rfl, hb⟩
    have e4 : Ext w3 w4 := ((Ext.refl w3).alloc _).trans hb
    have Z4 := Lib.hid (box4 (box_new w3 _ _ _ _ _) (by simp) hb)
    have Y4 := Lib.hid (box4 Y3.out M3.out e4)
    have E4 := Lib.hid e4
    have M4 := Lib.hid (Nat.lt_of_lt_of_le M3.out e4.size)
    have P4 := Lib.hid (show w3.heap.size < w4.heap.size from by have := hb.size; simp at this; omega)
    clear hb e4 y0 y1 y2 y3 m
    obtain ⟨y0, y1, y2, y3⟩ := Y4.out
    obtain ⟨z0, z1, z2, z3⟩ := Z4.out
    have m := M4.out
    have p := P4.out
    go_wp2_with fail
    refine (HSAME.out _ E4.out).mono ?_
    rintro e5 w5 ⟨rfl, hb⟩
    have E5 := Lib.hid (E4.out.trans hb)
    clear hb y0 y1 y2 y3 z0 z1 z2 z3 m p
    go_wp2_with fail
    go_ret
    exact ⟨by first | rfl | simp, E1.out.trans (E3.out.trans E5.out)⟩
  | true =>
    obtain ⟨hlv, hvn, hct, hop, hg8⟩ := hpush (by rw [hR])
    rw [hR] at hvn hct hop
    simp only at hvn hct hop
    have hcn : ChS.ccN o2 n2 t2 k2 = 1 ∧ ChP.manyD o2 n2 t2 k2 = true := by
      have hm : ChP.manyD o2 n2 t2 k2 = true := by unfold ChP.manyD; rw [hvn, hct]; rfl
      exact ⟨by unfold ChS.ccN; rw [if_pos hm, hct]; rfl, hm⟩
    have hopR : OpenR.openRes o2 n2 t2 k2 = (l, true) := by rw [OpenR.openRes_yes hvn, hop]
    have HCC := Lib.hid (show ∀ W : World, Ext w3 W → Calls Try.prog 42 #[.agg #[.int .i64 o2, .int .i64 n2, .string t2, .slice a2 k2.len c2]] W fun e w' => e = .returned (.tuple #[.int .i64 1, .bool true]) ∧ Ext W w' from fun W e => by have h := DocC.implCount (N3.out.ext e) o2; rw [hcn.1, hcn.2] at h; exact h)
    have HOP := Lib.hid (show ∀ W : World, Ext w3 W → Calls Try.prog 43 #[.agg #[.int .i64 o2, .int .i64 n2, .string t2, .slice a2 k2.len c2]] W (DocO.Out W l true) from fun W e => by have h := (DocW.toO (N3.out.ext e)).implOpen o2; rw [hopR] at h; exact h)
    have HVN := Lib.hid (show ∀ W : World, Ext w3 W → Calls Try.prog 44 #[.agg #[.int .i64 o2, .int .i64 n2, .string t2, .slice a2 k2.len c2]] W fun e w' => e = .returned (.bool true) ∧ Ext W w' from fun W e => by have h := (N3.out.ext e).implDocValid o2; rw [hvn] at h; exact h)
    clear hpush hlv hvn hct hop hg8 hcn hopR hR
    go_wp2_with fail
    refine (HSAME.out _ ((Ext.refl w3).alloc _)).mono ?_
    rintro e4 w4 ⟨rfl, hb⟩
    have e4 : Ext w3 w4 := ((Ext.refl w3).alloc _).trans hb
    have Y4 := Lib.hid (box4 Y3.out M3.out e4)
    have E4 := Lib.hid e4
    have M4 := Lib.hid (Nat.lt_of_lt_of_le M3.out e4.size)
    clear hb e4 y0 y1 y2 y3 m
    obtain ⟨y0, y1, y2, y3⟩ := Y4.out
    have m := M4.out
    go_wp2_with fail
    refine (HCC.out _ E4.out).mono ?_
    rintro e5 w5 ⟨rfl, hb⟩
    have Y5 := Lib.hid (box4 Y4.out M4.out hb)
    have E5 := Lib.hid (E4.out.trans hb)
    have M5 := Lib.hid (Nat.lt_of_lt_of_le M4.out hb.size)
    clear hb y0 y1 y2 y3 m
    obtain ⟨y0, y1, y2, y3⟩ := Y5.out
    have m := M5.out
    go_wp2_with fail
    refine (HOP.out _ E5.out).mono ?_
    rintro e6 w6 ⟨pa, ca, rfl, hla, hb⟩
    rw [HML.out]
    have Y6 := Lib.hid (box4 Y5.out M5.out hb)
    have E6 := Lib.hid (E5.out.trans hb)
    have M6 := Lib.hid (Nat.lt_of_lt_of_le M5.out hb.size)
    have KA := Lib.hid hla
    clear hb hla y0 y1 y2 y3 m
    obtain ⟨y0, y1, y2, y3⟩ := Y6.out
    have m := M6.out
    go_wp2_with fail
    refine (HVN.out _ E6.out).mono ?_
    rintro e7 w7 ⟨rfl, hb⟩
    have E7 := Lib.hid (E6.out.trans hb)
    have HL7 := Lib.hid (HLS.out w7 pa ca (E3.out.trans (E6.out.trans hb)) (KA.out.ext hb))
    clear hb y0 y1 y2 y3 m
    go_wp2_with fail
    refine HL7.out.mono ?_
    rintro e8 w8 ⟨rfl, hb⟩
    have E8 := Lib.hid (E7.out.trans hb)
    clear hb
    go_wp2_with fail
    go_ret
    exact ⟨by first | rfl | simp, E1.out.trans (E3.out.trans E8.out)⟩

set_option maxHeartbeats 400000 in
theorem walk_big (w : World) (a0 : Option Addr) (len0 cap0 : Nat) (hl0 : 1048576 < len0) :
    Calls Try.prog 13 #[.slice a0 len0 cap0] w fun e w' => e = .returned (.bool true) ∧ Ext w w' := by
  have h1 : (1048576 : Int) < (len0 : Int) := by omega
  go_enter Try.func13, Try.ntmps13
  go_wp2_with fail
  go_ret
  exact ⟨rfl, Ext.refl w⟩

theorem walk (w : World) (a0 : Option Addr) (len0 cap0 : Nat) (hb0 : Bytes w a0 len0) (hlc0 : len0 ≤ cap0) (hcm0 : cap0 ≤ maxLen) :
    Calls Try.prog 13 #[.slice a0 len0 cap0] w fun e w' => e = .returned (.bool true) ∧ Below w.heap.size w w' := by
  by_cases h : 1048576 < len0
  · exact walk_big w a0 len0 cap0 h
  · exact walk_good w a0 len0 cap0 hb0 hlc0 hcm0 (by omega)

theorem lifted (os : Os) (started : os.Started) (H : Type) (enc : TypeId × Value → H) :
    ReturnsInHanded {} Try.checked os 13 .any (Rows.fnLayoutDocSpec.pre6 enc Try.prog Try.f13 Rows.fnLayoutDocRow.domain false) (Rows.fnLayoutDocSpec.post enc Try.prog Try.f13 false true false false) := by
  refine returnsInHanded_of_change (C := Try.checked) Facts.own started (by kernel_rfl) Try.func13
    (ChangeSpec.witness6 (enc := enc) (C := Try.checked) false ⟨#[], #[.slice none 0 0], []⟩ 8 (by kernel_rfl) (by kernel_rfl) (by kernel_rfl) (by kernel_rfl)) ?_
  intro W base args ds gs before hval0 hW hcnd0 _
  clear hcnd0
  have hval : ∀ (j : Nat) t v, Try.f13.params[j]? = some t → args[j]? = some v → Value.okWide Try.prog W .any base t v := hval0
  have hW' := hW
  obtain ⟨p, q, hA0, hV, rfl, hfz, hnd⟩ := hW
  have hA : DataW.TrodAll enc Try.prog W 0 (fun _ => true) true Try.f13.params.toList args.toList ds p := hA0
  rw [Try.params13] at hA hval
  obtain ⟨v0, d0, rfl, rfl, h0⟩ := trodAll_one hA
  obtain ⟨rfl, rfl⟩ := trodVars_none hV
  obtain ⟨a0, len0, cap0, rfl⟩ := okWide_slice Try.underlying48 (hval 0 48 v0 rfl rfl)
  clear hA0 hval0
  simp only [List.append_nil] at hW'
  have hlt : ∀ x ∈ p, x.block < W.heap.size := fun x hx => by simpa using hW'.lt x hx
  obtain ⟨hb0, hlc0, hcm0⟩ := opened h0
  refine (walk W a0 len0 cap0 hb0 hlc0 hcm0).mono fun e W' ⟨he, hb⟩ => ?_
  subst he
  refine ⟨_, rfl, [_], [], p, [], p, [], hW', trodAll_mk1 (shut_bool Try.underlying4 _), ?_, rfl, hb.frame _, fun h => by cases h⟩
  exact trodAll_mk1 (Below.trod Facts.laidOut (by kernel_rfl) (of_decide_eq_true (by kernel_rfl)) h0 hb hlt)

theorem named : Try.prog.funcNamed Rows.fnLayoutDocRow.func = some 13 := by kernel_rfl
theorem closed : joinedFacts Try.prog 13 Try.f13 Rows.fnLayoutDocSpec Rows.fnLayoutDocRow = true :=
  Facts.closed_of rfl rfl rfl rfl (h28b := rfl) (by kernel_rfl) (by kernel_rfl) (by kernel_rfl) (by kernel_rfl) (by kernel_rfl) (by kernel_rfl) (by kernel_rfl) (by kernel_rfl) (by kernel_rfl) (by kernel_rfl) (by kernel_rfl) (by kernel_rfl) (by kernel_rfl) (by kernel_rfl) (by kernel_rfl) (by kernel_rfl) (by kernel_rfl) (by kernel_rfl) (by kernel_rfl) (by kernel_rfl) (by kernel_rfl) (by kernel_rfl) (by kernel_rfl) (by kernel_rfl)
theorem instanced : Try.f13.isInstance Try.prog Rows.fnLayoutDocRow.origin Rows.fnLayoutDocRow.targs := of_decide_eq_true (by kernel_rfl)
theorem wrapped : Try.f13.isWrapper Try.prog Rows.fnLayoutDocRow.wrapper Rows.fnLayoutDocRow.mainSum := by
  unfold Func.isWrapper
  rw [if_neg (of_decide_eq_false (by kernel_rfl))]
  exact ⟨rfl, rfl⟩

theorem holds : Rows.FnLayoutDocSaid :=
  OpenClaim.holds_of_wide 13 Try.f13 rfl rfl rfl rfl rfl rfl rfl ⟨rfl, rfl, rfl, rfl, rfl⟩ rfl rfl rfl rfl rfl named Try.func13 closed instanced wrapped
    (fun os started H enc _ => lifted os started H enc)

end Go.Proofs.Ytmkibpimjaofgaa.lawLayoutDocD

