/-
  Nesting by 0 changes nothing, and one line is not changed by nesting: the law FnNestZero returns true for whatever draws, and its argument reads as it did. No condition of ours.
-/
import Derived.Test.YtgnpcfafdjebeaaDrF
import Derived.Test.YtgnpcfafdjebeaaLayNS
import Derived.Test.YtgnpcfafdjebeaaLaySm
import Derived.Test.YtgnpcfafdjebeaaLayQ
import Derived.Test.YtgnpcfafdjebeaaLayK
import Derived.Test.YtgnpcfafdjebeaaLawB
import Derived.Test.YtgnpcfafdjebeaaFacts
import Derived.Test.YtgnpcfafdjebeaaRows
set_option linter.unusedVariables false
set_option linter.unusedSimpArgs false
namespace Go.Proofs.Ytgnpcfafdjebeaa.lawNestZero
open Go.ChangeShapes Go.WideShapes Go.ChangeAt Go.RowKit P1 Draw6 DrE LawB

set_option maxRecDepth 100000 in
set_option maxHeartbeats 6400000 in
theorem walk_good (w : World) (a0 : Option Addr) (len0 cap0 : Nat) (hb0 : Bytes w a0 len0) (hlc0 : len0 ≤ cap0) (hcm0 : cap0 ≤ maxLen) (hl0 : len0 ≤ 1048576) :
    Calls Try.prog 12 #[.slice a0 len0 cap0] w fun e w' => e = .returned (.bool true) ∧ Below w.heap.size w w' := by
  have HD0 := Lib.hid (fun (W : World) (h : Below w.heap.size w W) => DrF.drawNest W a0 len0 cap0 (bytes_below hb0 h) hlc0 hcm0)
  clear hb0
  unfold maxLen at hcm0
  go_enter Try.func12, Try.ntmps12
  go_wp2_with fail
  refine (HD0.out _ (Below.refl _ _)).mono ?_
  rintro e1 w1 ⟨n, l, pl, cl, ql, rfl, ⟨hn0, hn1⟩, hc, hsm, hs, hb⟩
  have H1 := Lib.hid (show Below w.heap.size w w1 from hb)
  have Kl := Lib.hid hs
  have Cl := Lib.hid hc
  clear hs hc hb
  obtain ⟨⟨X, ok⟩, hr⟩ : ∃ r, nestR n l = r := ⟨_, rfl⟩
  cases ok with
  | false =>
    obtain rfl := nestR_false hr
    have HI := Lib.hid (fun (W : World) (p : Option Addr) (c : Nat) (q : List Nat) (h1 : LaySub W p l q) (h2 : l.length ≤ c) => (LayN.implNestLayout n l W p c q h1 h2 hsm.fits.2 hsm.fits.1 ⟨by omega, by omega⟩).mono fun e w' h => show LayN.LayOut W [] false e w' from by rw [hr] at h; exact h.out)
    have HS := Lib.hid (fun (W : World) (p : Option Addr) (c : Nat) (q : List Nat) (h1 : LaySub W p l q) (h2 : l.length ≤ c) => (LayN.specNestLayout n l W p c q h1 h2 hsm.fits.2 hsm.fits.1 ⟨by omega, by omega⟩).mono fun e w' h => show LayN.LayOut W [] false e w' from by rw [hr] at h; exact h.out)
    have HE := Lib.hid (fun (W : World) (p : Option Addr) (c : Nat) (q : List Nat) (p' : Option Addr) (c' : Nat) (q' : List Nat) (h1 : LaySub W p [] q) (h1' : LaySub W p' [] q') (h2 : [].length ≤ c) (h2' : [].length ≤ c') => (LaySm.implLayoutSame [] [] W p c q h1 p' c' q' h1' h2 h2' Small.nil.fits.2 Small.nil.fits.2).mono fun e w' h => show e = .returned (.bool true) ∧ Below W.heap.size W w' from by rw [decide_eq_true rfl] at h; exact h)
    clear hr hsm
    go_wp2_with fail
    refine (HI.out _ _ _ _ Kl.out Cl.out).mono ?_
    rintro e1 w2 ⟨px, cx, qx, rfl, hc, hs, hfr, hb⟩
    have Klq := Lib.hid (Kl.out.below Kl.out.lt hb)
    clear Kl
    have Kl := Lib.hid Klq.out
    clear Klq
    have H2 := Lib.hid (show Below w.heap.size w w2 from H1.out.trans (hb.mono H1.out.size))
    have Kx := Lib.hid hs
    have Cx := Lib.hid hc
    clear hs hc hfr hb
    go_wp2_with fail
    refine (HS.out _ _ _ _ Kl.out Cl.out).mono ?_
    rintro e1 w3 ⟨pw, cw, qw, rfl, hc, hs, hfr, hb⟩
    have Klq := Lib.hid (Kl.out.below Kl.out.lt hb)
    clear Kl
    have Kl := Lib.hid Klq.out
    clear Klq
    have Kxq := Lib.hid (Kx.out.below Kx.out.lt hb)
    clear Kx
    have Kx := Lib.hid Kxq.out
    clear Kxq
    have H3 := Lib.hid (show Below w.heap.size w w3 from H2.out.trans (hb.mono H2.out.size))
    have Kw := Lib.hid hs
    have Cw := Lib.hid hc
    clear hs hc hfr hb
    go_wp2_with fail
    refine (HE.out _ _ _ _ _ _ _ Kx.out Kw.out Cx.out Cw.out).mono ?_
    rintro e1 w4 ⟨rfl, hb⟩
    have Klq := Lib.hid (Kl.out.below Kl.out.lt hb)
    clear Kl
    have Kl := Lib.hid Klq.out
    clear Klq
    have Kxq := Lib.hid (Kx.out.below Kx.out.lt hb)
    clear Kx
    have Kx := Lib.hid Kxq.out
    clear Kxq
    have Kwq := Lib.hid (Kw.out.below Kw.out.lt hb)
    clear Kw
    have Kw := Lib.hid Kwq.out
    clear Kwq
    have H4 := Lib.hid (show Below w.heap.size w w4 from H3.out.trans (hb.mono H3.out.size))
    clear hb
    go_wp2_with fail
    refine (HE.out _ _ _ _ _ _ _ Kx.out Kw.out Cx.out Cw.out).mono ?_
    rintro e1 w5 ⟨rfl, hb⟩
    have Klq := Lib.hid (Kl.out.below Kl.out.lt hb)
    clear Kl
    have Kl := Lib.hid Klq.out
    clear Klq
    have Kxq := Lib.hid (Kx.out.below Kx.out.lt hb)
    clear Kx
    have Kx := Lib.hid Kxq.out
    clear Kxq
    have Kwq := Lib.hid (Kw.out.below Kw.out.lt hb)
    clear Kw
    have Kw := Lib.hid Kwq.out
    clear Kwq
    have H5 := Lib.hid (show Below w.heap.size w w5 from H4.out.trans (hb.mono H4.out.size))
    clear hb
    go_wp2_with fail
    go_ret
    exact ⟨rfl, H5.out⟩
  | true =>
    obtain ⟨hv, hn2, hn3, hX, hvX⟩ := nestR_true hr
    have hsX := Small.of_lv hvX
    have hr0 := nestR_nought hv
    have HI := Lib.hid (fun (W : World) (p : Option Addr) (c : Nat) (q : List Nat) (h1 : LaySub W p l q) (h2 : l.length ≤ c) => (LayN.implNestLayout n l W p c q h1 h2 hsm.fits.2 hsm.fits.1 ⟨by omega, by omega⟩).mono fun e w' h => show LayN.LayOut W X true e w' from by rw [hr] at h; exact h.out)
    have HS := Lib.hid (fun (W : World) (p : Option Addr) (c : Nat) (q : List Nat) (h1 : LaySub W p l q) (h2 : l.length ≤ c) => (LayN.specNestLayout n l W p c q h1 h2 hsm.fits.2 hsm.fits.1 ⟨by omega, by omega⟩).mono fun e w' h => show LayN.LayOut W X true e w' from by rw [hr] at h; exact h.out)
    have HE := Lib.hid (fun (W : World) (p : Option Addr) (c : Nat) (q : List Nat) (p' : Option Addr) (c' : Nat) (q' : List Nat) (h1 : LaySub W p X q) (h1' : LaySub W p' X q') (h2 : X.length ≤ c) (h2' : X.length ≤ c') => (LaySm.implLayoutSame X X W p c q h1 p' c' q' h1' h2 h2' hsX.fits.2 hsX.fits.2).mono fun e w' h => show e = .returned (.bool true) ∧ Below W.heap.size W w' from by rw [decide_eq_true rfl] at h; exact h)
    have HZ := Lib.hid (fun (W : World) (p : Option Addr) (c : Nat) (q : List Nat) (h1 : LaySub W p l q) (h2 : l.length ≤ c) => (LayN.implNestLayout 0 l W p c q h1 h2 hsm.fits.2 hsm.fits.1 ⟨by omega, by omega⟩).mono fun e w' h => show LayN.LayOut W l true e w' from by rw [hr0] at h; exact h.out)
    have HL := Lib.hid (fun (W : World) (p : Option Addr) (c : Nat) (q : List Nat) (p' : Option Addr) (c' : Nat) (q' : List Nat) (h1 : LaySub W p l q) (h1' : LaySub W p' l q') (h2 : l.length ≤ c) (h2' : l.length ≤ c') => (LaySm.implLayoutSame l l W p c q h1 p' c' q' h1' h2 h2' hsm.fits.2 hsm.fits.2).mono fun e w' h => show e = .returned (.bool true) ∧ Below W.heap.size W w' from by rw [decide_eq_true rfl] at h; exact h)
    by_cases h1 : 1 < l.length
    · have hi1 : (1 : Int) < (l.length : Int) := by omega
      clear hr hsm hv hX hvX hsX hr0
      go_wp2_with fail
      refine (HI.out _ _ _ _ Kl.out Cl.out).mono ?_
      rintro e1 w2 ⟨px, cx, qx, rfl, hc, hs, hfr, hb⟩
      have Klq := Lib.hid (Kl.out.below Kl.out.lt hb)
      clear Kl
      have Kl := Lib.hid Klq.out
      clear Klq
      have H2 := Lib.hid (show Below w.heap.size w w2 from H1.out.trans (hb.mono H1.out.size))
      have Kx := Lib.hid hs
      have Cx := Lib.hid hc
      clear hs hc hfr hb
      go_wp2_with fail
      refine (HS.out _ _ _ _ Kl.out Cl.out).mono ?_
      rintro e1 w3 ⟨pw, cw, qw, rfl, hc, hs, hfr, hb⟩
      have Klq := Lib.hid (Kl.out.below Kl.out.lt hb)
      clear Kl
      have Kl := Lib.hid Klq.out
      clear Klq
      have Kxq := Lib.hid (Kx.out.below Kx.out.lt hb)
      clear Kx
      have Kx := Lib.hid Kxq.out
      clear Kxq
      have H3 := Lib.hid (show Below w.heap.size w w3 from H2.out.trans (hb.mono H2.out.size))
      have Kw := Lib.hid hs
      have Cw := Lib.hid hc
      clear hs hc hfr hb
      go_wp2_with fail
      refine (HE.out _ _ _ _ _ _ _ Kx.out Kw.out Cx.out Cw.out).mono ?_
      rintro e1 w4 ⟨rfl, hb⟩
      have Klq := Lib.hid (Kl.out.below Kl.out.lt hb)
      clear Kl
      have Kl := Lib.hid Klq.out
      clear Klq
      have Kxq := Lib.hid (Kx.out.below Kx.out.lt hb)
      clear Kx
      have Kx := Lib.hid Kxq.out
      clear Kxq
      have Kwq := Lib.hid (Kw.out.below Kw.out.lt hb)
      clear Kw
      have Kw := Lib.hid Kwq.out
      clear Kwq
      have H4 := Lib.hid (show Below w.heap.size w w4 from H3.out.trans (hb.mono H3.out.size))
      clear hb
      go_wp2_with fail
      refine (HZ.out _ _ _ _ Kl.out Cl.out).mono ?_
      rintro e1 w5 ⟨pz, cz, qz, rfl, hc, hs, hfr, hb⟩
      have Klq := Lib.hid (Kl.out.below Kl.out.lt hb)
      clear Kl
      have Kl := Lib.hid Klq.out
      clear Klq
      have Kxq := Lib.hid (Kx.out.below Kx.out.lt hb)
      clear Kx
      have Kx := Lib.hid Kxq.out
      clear Kxq
      have Kwq := Lib.hid (Kw.out.below Kw.out.lt hb)
      clear Kw
      have Kw := Lib.hid Kwq.out
      clear Kwq
      have H5 := Lib.hid (show Below w.heap.size w w5 from H4.out.trans (hb.mono H4.out.size))
      have Kz := Lib.hid hs
      have Cz := Lib.hid hc
      clear hs hc hfr hb
      go_wp2_with fail
      refine (HL.out _ _ _ _ _ _ _ Kz.out Kl.out Cz.out Cl.out).mono ?_
      rintro e1 w6 ⟨rfl, hb⟩
      have Klq := Lib.hid (Kl.out.below Kl.out.lt hb)
      clear Kl
      have Kl := Lib.hid Klq.out
      clear Klq
      have Kxq := Lib.hid (Kx.out.below Kx.out.lt hb)
      clear Kx
      have Kx := Lib.hid Kxq.out
      clear Kxq
      have Kwq := Lib.hid (Kw.out.below Kw.out.lt hb)
      clear Kw
      have Kw := Lib.hid Kwq.out
      clear Kwq
      have Kzq := Lib.hid (Kz.out.below Kz.out.lt hb)
      clear Kz
      have Kz := Lib.hid Kzq.out
      clear Kzq
      have H6 := Lib.hid (show Below w.heap.size w w6 from H5.out.trans (hb.mono H5.out.size))
      clear hb
      go_wp2_with fail
      go_ret
      exact ⟨rfl, H6.out⟩
    · have hXl : X = l := by rw [hX]; exact nestL_one (by omega)
      have HXL := Lib.hid (fun (W : World) (p : Option Addr) (c : Nat) (q : List Nat) (p' : Option Addr) (c' : Nat) (q' : List Nat) (h1 : LaySub W p X q) (h1' : LaySub W p' l q') (h2 : X.length ≤ c) (h2' : l.length ≤ c') => (LaySm.implLayoutSame X l W p c q h1 p' c' q' h1' h2 h2' hsX.fits.2 hsm.fits.2).mono fun e w' h => show e = .returned (.bool true) ∧ Below W.heap.size W w' from by rw [decide_eq_true hXl] at h; exact h)
      clear hr hsm hv hX hvX hsX hr0 hXl
      go_wp2_with fail
      refine (HI.out _ _ _ _ Kl.out Cl.out).mono ?_
      rintro e1 w2 ⟨px, cx, qx, rfl, hc, hs, hfr, hb⟩
      have Klq := Lib.hid (Kl.out.below Kl.out.lt hb)
      clear Kl
      have Kl := Lib.hid Klq.out
      clear Klq
      have H2 := Lib.hid (show Below w.heap.size w w2 from H1.out.trans (hb.mono H1.out.size))
      have Kx := Lib.hid hs
      have Cx := Lib.hid hc
      clear hs hc hfr hb
      go_wp2_with fail
      refine (HS.out _ _ _ _ Kl.out Cl.out).mono ?_
      rintro e1 w3 ⟨pw, cw, qw, rfl, hc, hs, hfr, hb⟩
      have Klq := Lib.hid (Kl.out.below Kl.out.lt hb)
      clear Kl
      have Kl := Lib.hid Klq.out
      clear Klq
      have Kxq := Lib.hid (Kx.out.below Kx.out.lt hb)
      clear Kx
      have Kx := Lib.hid Kxq.out
      clear Kxq
      have H3 := Lib.hid (show Below w.heap.size w w3 from H2.out.trans (hb.mono H2.out.size))
      have Kw := Lib.hid hs
      have Cw := Lib.hid hc
      clear hs hc hfr hb
      go_wp2_with fail
      refine (HE.out _ _ _ _ _ _ _ Kx.out Kw.out Cx.out Cw.out).mono ?_
      rintro e1 w4 ⟨rfl, hb⟩
      have Klq := Lib.hid (Kl.out.below Kl.out.lt hb)
      clear Kl
      have Kl := Lib.hid Klq.out
      clear Klq
      have Kxq := Lib.hid (Kx.out.below Kx.out.lt hb)
      clear Kx
      have Kx := Lib.hid Kxq.out
      clear Kxq
      have Kwq := Lib.hid (Kw.out.below Kw.out.lt hb)
      clear Kw
      have Kw := Lib.hid Kwq.out
      clear Kwq
      have H4 := Lib.hid (show Below w.heap.size w w4 from H3.out.trans (hb.mono H3.out.size))
      clear hb
      go_wp2_with fail
      refine (HZ.out _ _ _ _ Kl.out Cl.out).mono ?_
      rintro e1 w5 ⟨pz, cz, qz, rfl, hc, hs, hfr, hb⟩
      have Klq := Lib.hid (Kl.out.below Kl.out.lt hb)
      clear Kl
      have Kl := Lib.hid Klq.out
      clear Klq
      have Kxq := Lib.hid (Kx.out.below Kx.out.lt hb)
      clear Kx
      have Kx := Lib.hid Kxq.out
      clear Kxq
      have Kwq := Lib.hid (Kw.out.below Kw.out.lt hb)
      clear Kw
      have Kw := Lib.hid Kwq.out
      clear Kwq
      have H5 := Lib.hid (show Below w.heap.size w w5 from H4.out.trans (hb.mono H4.out.size))
      have Kz := Lib.hid hs
      have Cz := Lib.hid hc
      clear hs hc hfr hb
      go_wp2_with fail
      refine (HL.out _ _ _ _ _ _ _ Kz.out Kl.out Cz.out Cl.out).mono ?_
      rintro e1 w6 ⟨rfl, hb⟩
      have Klq := Lib.hid (Kl.out.below Kl.out.lt hb)
      clear Kl
      have Kl := Lib.hid Klq.out
      clear Klq
      have Kxq := Lib.hid (Kx.out.below Kx.out.lt hb)
      clear Kx
      have Kx := Lib.hid Kxq.out
      clear Kxq
      have Kwq := Lib.hid (Kw.out.below Kw.out.lt hb)
      clear Kw
      have Kw := Lib.hid Kwq.out
      clear Kwq
      have Kzq := Lib.hid (Kz.out.below Kz.out.lt hb)
      clear Kz
      have Kz := Lib.hid Kzq.out
      clear Kzq
      have H6 := Lib.hid (show Below w.heap.size w w6 from H5.out.trans (hb.mono H5.out.size))
      clear hb
      go_wp2_with fail
      refine (HXL.out _ _ _ _ _ _ _ Kx.out Kl.out Cx.out Cl.out).mono ?_
      rintro e1 w7 ⟨rfl, hb⟩
      have Klq := Lib.hid (Kl.out.below Kl.out.lt hb)
      clear Kl
      have Kl := Lib.hid Klq.out
      clear Klq
      have Kxq := Lib.hid (Kx.out.below Kx.out.lt hb)
      clear Kx
      have Kx := Lib.hid Kxq.out
      clear Kxq
      have Kwq := Lib.hid (Kw.out.below Kw.out.lt hb)
      clear Kw
      have Kw := Lib.hid Kwq.out
      clear Kwq
      have Kzq := Lib.hid (Kz.out.below Kz.out.lt hb)
      clear Kz
      have Kz := Lib.hid Kzq.out
      clear Kzq
      have H7 := Lib.hid (show Below w.heap.size w w7 from H6.out.trans (hb.mono H6.out.size))
      clear hb
      go_wp2_with fail
      go_ret
      exact ⟨rfl, H7.out⟩

set_option maxHeartbeats 800000 in
theorem walk_big (w : World) (a0 : Option Addr) (len0 cap0 : Nat) (hlc0 : len0 ≤ cap0) (hcm0 : cap0 ≤ maxLen) (hbig : 1048576 < len0) :
    Calls Try.prog 12 #[.slice a0 len0 cap0] w fun e w' => e = .returned (.bool true) ∧ Below w.heap.size w w' := by
  unfold maxLen at hcm0
  go_enter Try.func12, Try.ntmps12
  go_wp2_with fail
  go_ret
  exact ⟨rfl, Below.refl _ _⟩

theorem walk (w : World) (a0 : Option Addr) (len0 cap0 : Nat) (hb0 : Bytes w a0 len0) (hlc0 : len0 ≤ cap0) (hcm0 : cap0 ≤ maxLen) :
    Calls Try.prog 12 #[.slice a0 len0 cap0] w fun e w' => e = .returned (.bool true) ∧ Below w.heap.size w w' := by
  by_cases hbig : 1048576 < len0
  · exact walk_big w a0 len0 cap0 hlc0 hcm0 hbig
  · exact walk_good w a0 len0 cap0 hb0 hlc0 hcm0 (by omega)

set_option maxRecDepth 100000 in
theorem lifted (os : Os) (started : os.Started) (H : Type) (enc : TypeId × Value → H) :
    ReturnsInHanded {} Try.checked os 12 .any (Rows.fnNestZeroSpec.pre6 enc Try.prog Try.f12 Rows.fnNestZeroRow.domain false) (Rows.fnNestZeroSpec.post enc Try.prog Try.f12 false true false false) := by
  refine returnsInHanded_of_change (C := Try.checked) Facts.own started (by kernel_rfl) Try.func12
    (ChangeSpec.witness6 (enc := enc) (C := Try.checked) false ⟨#[], #[.slice none 0 0], []⟩ 8 (by kernel_rfl) (by kernel_rfl) (by kernel_rfl) (by kernel_rfl)) ?_
  intro W base args ds gs before hval0 hW hcnd0 _
  clear hcnd0
  have hval : ∀ (j : Nat) t v, Try.f12.params[j]? = some t → args[j]? = some v → Value.okWide Try.prog W .any base t v := hval0
  have hW' := hW
  obtain ⟨p, q, hA0, hV, rfl, hfz, hnd⟩ := hW
  have hA : DataW.TrodAll enc Try.prog W 0 (fun _ => true) true Try.f12.params.toList args.toList ds p := hA0
  rw [Try.params12] at hA hval
  obtain ⟨v0, d0, rfl, rfl, h0⟩ := trodAll_one hA
  obtain ⟨rfl, rfl⟩ := trodVars_none hV
  obtain ⟨a0, len0, cap0, rfl⟩ := okWide_slice Try.underlying22 (hval 0 22 v0 rfl rfl)
  clear hA0 hval0
  simp only [List.append_nil] at hW'
  have hlt : ∀ x ∈ p, x.block < W.heap.size := fun x hx => by simpa using hW'.lt x hx
  obtain ⟨hb0, hlc0, hcm0⟩ := opened h0
  refine (walk W a0 len0 cap0 hb0 hlc0 hcm0).mono fun e W' ⟨he, hb⟩ => ?_
  subst he
  refine ⟨_, rfl, [_], [], p, [], p, [], hW', trodAll_mk1 (shut_bool Try.underlying4 _), ?_, rfl, hb.frame _, fun h => by cases h⟩
  exact trodAll_mk1 (Below.trod Facts.laidOut (by kernel_rfl) (of_decide_eq_true (by kernel_rfl)) h0 hb hlt)

theorem named : Try.prog.funcNamed Rows.fnNestZeroRow.func = some 12 := by kernel_rfl
theorem closed : joinedFacts Try.prog 12 Try.f12 Rows.fnNestZeroSpec Rows.fnNestZeroRow = true :=
  Facts.closed_of rfl rfl rfl rfl (h28b := rfl) (by kernel_rfl) (by kernel_rfl) (by kernel_rfl) (by kernel_rfl) (by kernel_rfl) (by kernel_rfl) (by kernel_rfl) (by kernel_rfl) (by kernel_rfl) (by kernel_rfl) (by kernel_rfl) (by kernel_rfl) (by kernel_rfl) (by kernel_rfl) (by kernel_rfl) (by kernel_rfl) (by kernel_rfl) (by kernel_rfl) (by kernel_rfl) (by kernel_rfl) (by kernel_rfl) (by kernel_rfl) (by kernel_rfl) (by kernel_rfl)
theorem instanced : Try.f12.isInstance Try.prog Rows.fnNestZeroRow.origin Rows.fnNestZeroRow.targs := of_decide_eq_true (by kernel_rfl)
theorem wrapped : Try.f12.isWrapper Try.prog Rows.fnNestZeroRow.wrapper Rows.fnNestZeroRow.mainSum := by
  unfold Func.isWrapper
  rw [if_neg (of_decide_eq_false (by kernel_rfl))]
  exact ⟨rfl, rfl⟩

theorem holds : Rows.FnNestZeroSaid :=
  OpenClaim.holds_of_wide 12 Try.f12 rfl rfl rfl rfl rfl rfl rfl ⟨rfl, rfl, rfl, rfl, rfl⟩ rfl rfl rfl rfl rfl named Try.func12 closed instanced wrapped
    (fun os started H enc _ => lifted os started H enc)

end Go.Proofs.Ytgnpcfafdjebeaa.lawNestZero
