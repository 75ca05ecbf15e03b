/-
  Two layouts are the same where their lines are, whichever comes first, and then their texts are: the law FnLayoutSame returns true for whatever draws, and its argument reads as it did. No condition of ours.
-/
import Derived.Test.YtgnpcfafdjebeaaDrH
import Derived.Test.YtgnpcfafdjebeaaLayT
import Derived.Test.YtgnpcfafdjebeaaLaySm
import Derived.Test.YtgnpcfafdjebeaaLayV
import Derived.Test.YtgnpcfafdjebeaaLayVS
import Derived.Test.YtgnpcfafdjebeaaLayK
import Derived.Test.YtgnpcfafdjebeaaLawB
import Derived.Test.YtgnpcfafdjebeaaFacts
import Derived.Test.YtgnpcfafdjebeaaRows
set_option linter.unusedVariables false
set_option linter.unusedSimpArgs false
namespace Go.Proofs.Ytgnpcfafdjebeaa.lawDLayoutSame
open Go.ChangeShapes Go.WideShapes Go.ChangeAt Go.RowKit P1 Draw6 DrE LawB

set_option maxRecDepth 100000 in
set_option maxHeartbeats 12800000 in
theorem walk_good (w : World) (a0 : Option Addr) (len0 cap0 : Nat) (hb0 : Bytes w a0 len0) (hlc0 : len0 ≤ cap0) (hcm0 : cap0 ≤ maxLen) (hl0 : len0 ≤ 1048576) :
    Calls Try.prog 9 #[.slice a0 len0 cap0] w fun e w' => e = .returned (.bool true) ∧ Below w.heap.size w w' := by
  have HD0 := Lib.hid (fun (W : World) (h : Below w.heap.size w W) => DrH.drawSame W a0 len0 cap0 (bytes_below hb0 h) hlc0 hcm0)
  clear hb0
  unfold maxLen at hcm0
  go_enter Try.func9, Try.ntmps9
  go_wp2_with fail
  refine (HD0.out _ (Below.refl _ _)).mono ?_
  rintro e1 w1 ⟨la, pa, ca, qa, lb, pb, cb, qb, rfl, hc, hc', hsma, hsmb, hs, hs', hb⟩
  have H1 := Lib.hid (show Below w.heap.size w w1 from hb)
  have Ka := Lib.hid hs
  have Ca := Lib.hid hc
  have Kb := Lib.hid hs'
  have Cb := Lib.hid hc'
  clear hs hc hs' hc' hb
  obtain ⟨va, hva⟩ : ∃ v, lv la = v := ⟨_, rfl⟩
  have hvv : (va != va) = false := by simp
  have hve : (va == va) = true := by simp
  have HS4 := Lib.hid (fun (W : World) (p : Option Addr) (c : Nat) (q : List Nat) (p' : Option Addr) (c' : Nat) (q' : List Nat) (h1 : LaySub W p la q) (h1' : LaySub W p' la q') (h2 : la.length ≤ c) (h2' : la.length ≤ c') => (LaySm.implLayoutSame la la W p c q h1 p' c' q' h1' h2 h2' hsma.fits.2 hsma.fits.2).mono fun e w' h => show e = .returned (.bool true) ∧ Below W.heap.size W w' from by rw [decide_eq_true rfl] at h; exact h)
  have HV := Lib.hid (fun (W : World) (p : Option Addr) (c : Nat) (q : List Nat) (h1 : LaySub W p la q) (h2 : la.length ≤ c) => (LayV.implLayoutValid la W p c q h1 h2 hsma.fits.2 hsma.fits.1).mono fun e w' h => show e = .returned (.bool va) ∧ Below W.heap.size W w' from by rw [hva] at h; exact h)
  have HVS := Lib.hid (fun (W : World) (p : Option Addr) (c : Nat) (q : List Nat) (h1 : LaySub W p la q) (h2 : la.length ≤ c) => (LayV.specLayoutValid la W p c q h1 h2 hsma.fits.2 hsma.fits.1).mono fun e w' h => show e = .returned (.bool va) ∧ Below W.heap.size W w' from by rw [hva] at h; exact h)
  by_cases heq : la = lb
  · subst heq
    obtain ⟨T, hT⟩ : ∃ T, lt8 la = T := ⟨_, rfl⟩
    have hTT : (T.toList == T.toList) = true := by simp
    have HT := Lib.hid (fun (W : World) (p : Option Addr) (c : Nat) (q : List Nat) (h1 : LaySub W p la q) (h2 : la.length ≤ c) => (LayT.implLayoutText la W p c q h1 h2 hsma.fits.2 hsma.fits.1).mono fun e w' h => show e = .returned (.string T) ∧ Below W.heap.size W w' from by rw [hT] at h; exact h)
    have HS1 := Lib.hid (fun (W : World) (p : Option Addr) (c : Nat) (q : List Nat) (p' : Option Addr) (c' : Nat) (q' : List Nat) (h1 : LaySub W p la q) (h1' : LaySub W p' la q') (h2 : la.length ≤ c) (h2' : la.length ≤ c') => (LaySm.implLayoutSame la la W p c q h1 p' c' q' h1' h2 h2' hsma.fits.2 hsma.fits.2).mono fun e w' h => show e = .returned (.bool true) ∧ Below W.heap.size W w' from by rw [decide_eq_true rfl] at h; exact h)
    have HS2 := Lib.hid (fun (W : World) (p : Option Addr) (c : Nat) (q : List Nat) (p' : Option Addr) (c' : Nat) (q' : List Nat) (h1 : LaySub W p la q) (h1' : LaySub W p' la q') (h2 : la.length ≤ c) (h2' : la.length ≤ c') => (LaySm.specLayoutSame la la W p c q h1 p' c' q' h1' h2 h2' hsma.fits.2 hsma.fits.2).mono fun e w' h => show e = .returned (.bool true) ∧ Below W.heap.size W w' from by rw [decide_eq_true rfl] at h; exact h)
    have HS3 := Lib.hid (fun (W : World) (p : Option Addr) (c : Nat) (q : List Nat) (p' : Option Addr) (c' : Nat) (q' : List Nat) (h1 : LaySub W p la q) (h1' : LaySub W p' la q') (h2 : la.length ≤ c) (h2' : la.length ≤ c') => (LaySm.implLayoutSame la la W p c q h1 p' c' q' h1' h2 h2' hsma.fits.2 hsma.fits.2).mono fun e w' h => show e = .returned (.bool true) ∧ Below W.heap.size W w' from by rw [decide_eq_true rfl] at h; exact h)
    clear hva hT hsma hsmb
    go_wp2_with fail
    refine (HS1.out _ _ _ _ _ _ _ Ka.out Kb.out Ca.out Cb.out).mono ?_
    rintro e1 w2 ⟨rfl, hb⟩
    have Kaq := Lib.hid (Ka.out.below Ka.out.lt hb)
    clear Ka
    have Ka := Lib.hid Kaq.out
    clear Kaq
    have Kbq := Lib.hid (Kb.out.below Kb.out.lt hb)
    clear Kb
    have Kb := Lib.hid Kbq.out
    clear Kbq
    have H2 := Lib.hid (show Below w.heap.size w w2 from H1.out.trans (hb.mono H1.out.size))
    clear hb
    go_wp2_with fail
    refine (HS2.out _ _ _ _ _ _ _ Ka.out Kb.out Ca.out Cb.out).mono ?_
    rintro e1 w3 ⟨rfl, hb⟩
    have Kaq := Lib.hid (Ka.out.below Ka.out.lt hb)
    clear Ka
    have Ka := Lib.hid Kaq.out
    clear Kaq
    have Kbq := Lib.hid (Kb.out.below Kb.out.lt hb)
    clear Kb
    have Kb := Lib.hid Kbq.out
    clear Kbq
    have H3 := Lib.hid (show Below w.heap.size w w3 from H2.out.trans (hb.mono H2.out.size))
    clear hb
    go_wp2_with fail
    refine (HS3.out _ _ _ _ _ _ _ Kb.out Ka.out Cb.out Ca.out).mono ?_
    rintro e1 w4 ⟨rfl, hb⟩
    have Kaq := Lib.hid (Ka.out.below Ka.out.lt hb)
    clear Ka
    have Ka := Lib.hid Kaq.out
    clear Kaq
    have Kbq := Lib.hid (Kb.out.below Kb.out.lt hb)
    clear Kb
    have Kb := Lib.hid Kbq.out
    clear Kbq
    have H4 := Lib.hid (show Below w.heap.size w w4 from H3.out.trans (hb.mono H3.out.size))
    clear hb
    go_wp2_with fail
    refine (HS4.out _ _ _ _ _ _ _ Ka.out Ka.out Ca.out Ca.out).mono ?_
    rintro e1 w5 ⟨rfl, hb⟩
    have Kaq := Lib.hid (Ka.out.below Ka.out.lt hb)
    clear Ka
    have Ka := Lib.hid Kaq.out
    clear Kaq
    have Kbq := Lib.hid (Kb.out.below Kb.out.lt hb)
    clear Kb
    have Kb := Lib.hid Kbq.out
    clear Kbq
    have H5 := Lib.hid (show Below w.heap.size w w5 from H4.out.trans (hb.mono H4.out.size))
    clear hb
    go_wp2_with fail
    refine (HV.out _ _ _ _ Ka.out Ca.out).mono ?_
    rintro e1 w6 ⟨rfl, hb⟩
    have Kaq := Lib.hid (Ka.out.below Ka.out.lt hb)
    clear Ka
    have Ka := Lib.hid Kaq.out
    clear Kaq
    have Kbq := Lib.hid (Kb.out.below Kb.out.lt hb)
    clear Kb
    have Kb := Lib.hid Kbq.out
    clear Kbq
    have H6 := Lib.hid (show Below w.heap.size w w6 from H5.out.trans (hb.mono H5.out.size))
    clear hb
    go_wp2_with fail
    refine (HVS.out _ _ _ _ Ka.out Ca.out).mono ?_
    rintro e1 w7 ⟨rfl, hb⟩
    have Kaq := Lib.hid (Ka.out.below Ka.out.lt hb)
    clear Ka
    have Ka := Lib.hid Kaq.out
    clear Kaq
    have Kbq := Lib.hid (Kb.out.below Kb.out.lt hb)
    clear Kb
    have Kb := Lib.hid Kbq.out
    clear Kbq
    have H7 := Lib.hid (show Below w.heap.size w w7 from H6.out.trans (hb.mono H6.out.size))
    clear hb
    go_wp2_with fail
    refine (HT.out _ _ _ _ Ka.out Ca.out).mono ?_
    rintro e1 w8 ⟨rfl, hb⟩
    have Kaq := Lib.hid (Ka.out.below Ka.out.lt hb)
    clear Ka
    have Ka := Lib.hid Kaq.out
    clear Kaq
    have Kbq := Lib.hid (Kb.out.below Kb.out.lt hb)
    clear Kb
    have Kb := Lib.hid Kbq.out
    clear Kbq
    have H8 := Lib.hid (show Below w.heap.size w w8 from H7.out.trans (hb.mono H7.out.size))
    clear hb
    go_wp2_with fail
    refine (HT.out _ _ _ _ Kb.out Cb.out).mono ?_
    rintro e1 w9 ⟨rfl, hb⟩
    have Kaq := Lib.hid (Ka.out.below Ka.out.lt hb)
    clear Ka
    have Ka := Lib.hid Kaq.out
    clear Kaq
    have Kbq := Lib.hid (Kb.out.below Kb.out.lt hb)
    clear Kb
    have Kb := Lib.hid Kbq.out
    clear Kbq
    have H9 := Lib.hid (show Below w.heap.size w w9 from H8.out.trans (hb.mono H8.out.size))
    clear hb
    go_wp2_with fail
    refine (HV.out _ _ _ _ Ka.out Ca.out).mono ?_
    rintro e1 w10 ⟨rfl, hb⟩
    have Kaq := Lib.hid (Ka.out.below Ka.out.lt hb)
    clear Ka
    have Ka := Lib.hid Kaq.out
    clear Kaq
    have Kbq := Lib.hid (Kb.out.below Kb.out.lt hb)
    clear Kb
    have Kb := Lib.hid Kbq.out
    clear Kbq
    have H10 := Lib.hid (show Below w.heap.size w w10 from H9.out.trans (hb.mono H9.out.size))
    clear hb
    go_wp2_with fail
    refine (HV.out _ _ _ _ Kb.out Cb.out).mono ?_
    rintro e1 w11 ⟨rfl, hb⟩
    have Kaq := Lib.hid (Ka.out.below Ka.out.lt hb)
    clear Ka
    have Ka := Lib.hid Kaq.out
    clear Kaq
    have Kbq := Lib.hid (Kb.out.below Kb.out.lt hb)
    clear Kb
    have Kb := Lib.hid Kbq.out
    clear Kbq
    have H11 := Lib.hid (show Below w.heap.size w w11 from H10.out.trans (hb.mono H10.out.size))
    clear hb
    go_wp2_with fail
    go_ret
    exact ⟨rfl, H11.out⟩
  · skip
    have HS1 := Lib.hid (fun (W : World) (p : Option Addr) (c : Nat) (q : List Nat) (p' : Option Addr) (c' : Nat) (q' : List Nat) (h1 : LaySub W p la q) (h1' : LaySub W p' lb q') (h2 : la.length ≤ c) (h2' : lb.length ≤ c') => (LaySm.implLayoutSame la lb W p c q h1 p' c' q' h1' h2 h2' hsma.fits.2 hsmb.fits.2).mono fun e w' h => show e = .returned (.bool false) ∧ Below W.heap.size W w' from by rw [decide_eq_false heq] at h; exact h)
    have HS2 := Lib.hid (fun (W : World) (p : Option Addr) (c : Nat) (q : List Nat) (p' : Option Addr) (c' : Nat) (q' : List Nat) (h1 : LaySub W p la q) (h1' : LaySub W p' lb q') (h2 : la.length ≤ c) (h2' : lb.length ≤ c') => (LaySm.specLayoutSame la lb W p c q h1 p' c' q' h1' h2 h2' hsma.fits.2 hsmb.fits.2).mono fun e w' h => show e = .returned (.bool false) ∧ Below W.heap.size W w' from by rw [decide_eq_false heq] at h; exact h)
    have HS3 := Lib.hid (fun (W : World) (p : Option Addr) (c : Nat) (q : List Nat) (p' : Option Addr) (c' : Nat) (q' : List Nat) (h1 : LaySub W p lb q) (h1' : LaySub W p' la q') (h2 : lb.length ≤ c) (h2' : la.length ≤ c') => (LaySm.implLayoutSame lb la W p c q h1 p' c' q' h1' h2 h2' hsmb.fits.2 hsma.fits.2).mono fun e w' h => show e = .returned (.bool false) ∧ Below W.heap.size W w' from by rw [decide_eq_false (fun e => heq e.symm)] at h; exact h)
    clear hva hsma hsmb heq
    go_wp2_with fail
    refine (HS1.out _ _ _ _ _ _ _ Ka.out Kb.out Ca.out Cb.out).mono ?_
    rintro e1 w2 ⟨rfl, hb⟩
    have Kaq := Lib.hid (Ka.out.below Ka.out.lt hb)
    clear Ka
    have Ka := Lib.hid Kaq.out
    clear Kaq
    have Kbq := Lib.hid (Kb.out.below Kb.out.lt hb)
    clear Kb
    have Kb := Lib.hid Kbq.out
    clear Kbq
    have H2 := Lib.hid (show Below w.heap.size w w2 from H1.out.trans (hb.mono H1.out.size))
    clear hb
    go_wp2_with fail
    refine (HS2.out _ _ _ _ _ _ _ Ka.out Kb.out Ca.out Cb.out).mono ?_
    rintro e1 w3 ⟨rfl, hb⟩
    have Kaq := Lib.hid (Ka.out.below Ka.out.lt hb)
    clear Ka
    have Ka := Lib.hid Kaq.out
    clear Kaq
    have Kbq := Lib.hid (Kb.out.below Kb.out.lt hb)
    clear Kb
    have Kb := Lib.hid Kbq.out
    clear Kbq
    have H3 := Lib.hid (show Below w.heap.size w w3 from H2.out.trans (hb.mono H2.out.size))
    clear hb
    go_wp2_with fail
    refine (HS3.out _ _ _ _ _ _ _ Kb.out Ka.out Cb.out Ca.out).mono ?_
    rintro e1 w4 ⟨rfl, hb⟩
    have Kaq := Lib.hid (Ka.out.below Ka.out.lt hb)
    clear Ka
    have Ka := Lib.hid Kaq.out
    clear Kaq
    have Kbq := Lib.hid (Kb.out.below Kb.out.lt hb)
    clear Kb
    have Kb := Lib.hid Kbq.out
    clear Kbq
    have H4 := Lib.hid (show Below w.heap.size w w4 from H3.out.trans (hb.mono H3.out.size))
    clear hb
    go_wp2_with fail
    refine (HS4.out _ _ _ _ _ _ _ Ka.out Ka.out Ca.out Ca.out).mono ?_
    rintro e1 w5 ⟨rfl, hb⟩
    have Kaq := Lib.hid (Ka.out.below Ka.out.lt hb)
    clear Ka
    have Ka := Lib.hid Kaq.out
    clear Kaq
    have Kbq := Lib.hid (Kb.out.below Kb.out.lt hb)
    clear Kb
    have Kb := Lib.hid Kbq.out
    clear Kbq
    have H5 := Lib.hid (show Below w.heap.size w w5 from H4.out.trans (hb.mono H4.out.size))
    clear hb
    go_wp2_with fail
    refine (HV.out _ _ _ _ Ka.out Ca.out).mono ?_
    rintro e1 w6 ⟨rfl, hb⟩
    have Kaq := Lib.hid (Ka.out.below Ka.out.lt hb)
    clear Ka
    have Ka := Lib.hid Kaq.out
    clear Kaq
    have Kbq := Lib.hid (Kb.out.below Kb.out.lt hb)
    clear Kb
    have Kb := Lib.hid Kbq.out
    clear Kbq
    have H6 := Lib.hid (show Below w.heap.size w w6 from H5.out.trans (hb.mono H5.out.size))
    clear hb
    go_wp2_with fail
    refine (HVS.out _ _ _ _ Ka.out Ca.out).mono ?_
    rintro e1 w7 ⟨rfl, hb⟩
    have Kaq := Lib.hid (Ka.out.below Ka.out.lt hb)
    clear Ka
    have Ka := Lib.hid Kaq.out
    clear Kaq
    have Kbq := Lib.hid (Kb.out.below Kb.out.lt hb)
    clear Kb
    have Kb := Lib.hid Kbq.out
    clear Kbq
    have H7 := Lib.hid (show Below w.heap.size w w7 from H6.out.trans (hb.mono H6.out.size))
    clear hb
    go_wp2_with fail
    go_ret
    exact ⟨rfl, H7.out⟩

set_option maxHeartbeats 800000 in
theorem walk_big (w : World) (a0 : Option Addr) (len0 cap0 : Nat) (hlc0 : len0 ≤ cap0) (hcm0 : cap0 ≤ maxLen) (hbig : 1048576 < len0) :
    Calls Try.prog 9 #[.slice a0 len0 cap0] w fun e w' => e = .returned (.bool true) ∧ Below w.heap.size w w' := by
  unfold maxLen at hcm0
  go_enter Try.func9, Try.ntmps9
  go_wp2_with fail
  go_ret
  exact ⟨rfl, Below.refl _ _⟩

theorem walk (w : World) (a0 : Option Addr) (len0 cap0 : Nat) (hb0 : Bytes w a0 len0) (hlc0 : len0 ≤ cap0) (hcm0 : cap0 ≤ maxLen) :
    Calls Try.prog 9 #[.slice a0 len0 cap0] w fun e w' => e = .returned (.bool true) ∧ Below w.heap.size w w' := by
  by_cases hbig : 1048576 < len0
  · exact walk_big w a0 len0 cap0 hlc0 hcm0 hbig
  · exact walk_good w a0 len0 cap0 hb0 hlc0 hcm0 (by omega)

set_option maxRecDepth 100000 in
theorem lifted (os : Os) (started : os.Started) (H : Type) (enc : TypeId × Value → H) :
    ReturnsInHanded {} Try.checked os 9 .any (Rows.fnLayoutSameSpec.pre6 enc Try.prog Try.f9 Rows.fnLayoutSameRow.domain false) (Rows.fnLayoutSameSpec.post enc Try.prog Try.f9 false true false false) := by
  refine returnsInHanded_of_change (C := Try.checked) Facts.own started (by kernel_rfl) Try.func9
    (ChangeSpec.witness6 (enc := enc) (C := Try.checked) false ⟨#[], #[.slice none 0 0], []⟩ 8 (by kernel_rfl) (by kernel_rfl) (by kernel_rfl) (by kernel_rfl)) ?_
  intro W base args ds gs before hval0 hW hcnd0 _
  clear hcnd0
  have hval : ∀ (j : Nat) t v, Try.f9.params[j]? = some t → args[j]? = some v → Value.okWide Try.prog W .any base t v := hval0
  have hW' := hW
  obtain ⟨p, q, hA0, hV, rfl, hfz, hnd⟩ := hW
  have hA : DataW.TrodAll enc Try.prog W 0 (fun _ => true) true Try.f9.params.toList args.toList ds p := hA0
  rw [Try.params9] at hA hval
  obtain ⟨v0, d0, rfl, rfl, h0⟩ := trodAll_one hA
  obtain ⟨rfl, rfl⟩ := trodVars_none hV
  obtain ⟨a0, len0, cap0, rfl⟩ := okWide_slice Try.underlying22 (hval 0 22 v0 rfl rfl)
  clear hA0 hval0
  simp only [List.append_nil] at hW'
  have hlt : ∀ x ∈ p, x.block < W.heap.size := fun x hx => by simpa using hW'.lt x hx
  obtain ⟨hb0, hlc0, hcm0⟩ := opened h0
  refine (walk W a0 len0 cap0 hb0 hlc0 hcm0).mono fun e W' ⟨he, hb⟩ => ?_
  subst he
  refine ⟨_, rfl, [_], [], p, [], p, [], hW', trodAll_mk1 (shut_bool Try.underlying4 _), ?_, rfl, hb.frame _, fun h => by cases h⟩
  exact trodAll_mk1 (Below.trod Facts.laidOut (by kernel_rfl) (of_decide_eq_true (by kernel_rfl)) h0 hb hlt)

theorem named : Try.prog.funcNamed Rows.fnLayoutSameRow.func = some 9 := by kernel_rfl
theorem closed : joinedFacts Try.prog 9 Try.f9 Rows.fnLayoutSameSpec Rows.fnLayoutSameRow = true :=
  Facts.closed_of rfl rfl rfl rfl (h28b := rfl) (by kernel_rfl) (by kernel_rfl) (by kernel_rfl) (by kernel_rfl) (by kernel_rfl) (by kernel_rfl) (by kernel_rfl) (by kernel_rfl) (by kernel_rfl) (by kernel_rfl) (by kernel_rfl) (by kernel_rfl) (by kernel_rfl) (by kernel_rfl) (by kernel_rfl) (by kernel_rfl) (by kernel_rfl) (by kernel_rfl) (by kernel_rfl) (by kernel_rfl) (by kernel_rfl) (by kernel_rfl) (by kernel_rfl) (by kernel_rfl)
theorem instanced : Try.f9.isInstance Try.prog Rows.fnLayoutSameRow.origin Rows.fnLayoutSameRow.targs := of_decide_eq_true (by kernel_rfl)
theorem wrapped : Try.f9.isWrapper Try.prog Rows.fnLayoutSameRow.wrapper Rows.fnLayoutSameRow.mainSum := by
  unfold Func.isWrapper
  rw [if_neg (of_decide_eq_false (by kernel_rfl))]
  exact ⟨rfl, rfl⟩

theorem holds : Rows.FnLayoutSameSaid :=
  OpenClaim.holds_of_wide 9 Try.f9 rfl rfl rfl rfl rfl rfl rfl ⟨rfl, rfl, rfl, rfl, rfl⟩ rfl rfl rfl rfl rfl named Try.func9 closed instanced wrapped
    (fun os started H enc _ => lifted os started H enc)

end Go.Proofs.Ytgnpcfafdjebeaa.lawDLayoutSame
