/-
  Layouts can be joined in any grouping: the law FnCatGroups returns true for whatever draws, and its arguments read as they did. No condition of ours.
-/
import Derived.Test.YtgnpcfafdjebeaaDrF
import Derived.Test.YtgnpcfafdjebeaaLayCS
import Derived.Test.YtgnpcfafdjebeaaLaySm
import Derived.Test.YtgnpcfafdjebeaaLayQ
import Derived.Test.YtgnpcfafdjebeaaLayK
import Derived.Test.YtgnpcfafdjebeaaLawB
import Derived.Test.YtgnpcfafdjebeaaFacts
import Derived.Test.YtgnpcfafdjebeaaRows
set_option linter.unusedVariables false
set_option linter.unusedSimpArgs false
namespace Go.Proofs.Ytgnpcfafdjebeaa.lawCatGroups
open Go.ChangeShapes Go.WideShapes Go.ChangeAt Go.RowKit P1 Draw6 DrE LawB

set_option maxRecDepth 100000 in
set_option maxHeartbeats 6400000 in
theorem walk_good (w : World) (a0 : Option Addr) (len0 cap0 : Nat) (a1 : Option Addr) (len1 cap1 : Nat) (hb0 : Bytes w a0 len0) (hlc0 : len0 ≤ cap0) (hcm0 : cap0 ≤ maxLen) (hb1 : Bytes w a1 len1) (hlc1 : len1 ≤ cap1) (hcm1 : cap1 ≤ maxLen) (hl0 : len0 ≤ 1048576) (hl1 : len1 ≤ 1048576) :
    Calls Try.prog 10 #[.slice a0 len0 cap0, .slice a1 len1 cap1] w fun e w' => e = .returned (.bool true) ∧ Below w.heap.size w w' := by
  have HD0 := Lib.hid (fun (W : World) (h : Below w.heap.size w W) => DrF.drawCat W a0 len0 cap0 (bytes_below hb0 h) hlc0 hcm0)
  have HD1 := Lib.hid (fun (W : World) (h : Below w.heap.size w W) => DrF.drawCat W a1 len1 cap1 (bytes_below hb1 h) hlc1 hcm1)
  clear hb0 hb1
  unfold maxLen at hcm0
  unfold maxLen at hcm1
  go_enter Try.func10, Try.ntmps10
  go_wp2_with fail
  refine (HD0.out _ (Below.refl _ _)).mono ?_
  rintro e1 w1 ⟨la, pa, ca, qa, lb, pb, cb, qb, rfl, hc, hc', hsma, hsmb, hs, hs', hb⟩
  have H1 := Lib.hid (show Below w.heap.size w w1 from hb)
  have Ka := Lib.hid hs
  have Ca := Lib.hid hc
  have Kb := Lib.hid hs'
  have Cb := Lib.hid hc'
  clear hs hc hs' hc' hb
  go_wp2_with fail
  refine (HD1.out _ H1.out).mono ?_
  rintro e1 w2 ⟨lc, pc, cc, qc, ld, pd, cd, qd, rfl, hc, hc', hsmc, hsmd, hs, hs', hb⟩
  have Kaq := Lib.hid (Ka.out.below Ka.out.lt hb)
  clear Ka
  have Ka := Lib.hid Kaq.out
  clear Kaq
  have Kbq := Lib.hid (Kb.out.below Kb.out.lt hb)
  clear Kb
  have Kb := Lib.hid Kbq.out
  clear Kbq
  have H2 := Lib.hid (show Below w.heap.size w w2 from H1.out.trans (hb.mono H1.out.size))
  have Kc := Lib.hid hs
  have Cc := Lib.hid hc
  have Kd := Lib.hid hs'
  have Cd := Lib.hid hc'
  clear hs hc hs' hc' hb
  clear hsmd
  obtain ⟨⟨X, ok⟩, hr⟩ : ∃ r, catLR la lb = r := ⟨_, rfl⟩
  cases ok with
  | false =>
    obtain rfl := catLR_false hr
    have HI := Lib.hid (fun (W : World) (p : Option Addr) (c : Nat) (q : List Nat) (p' : Option Addr) (c' : Nat) (q' : List Nat) (h1 : LaySub W p la q) (h1' : LaySub W p' lb q') (h2 : la.length ≤ c) (h2' : lb.length ≤ c') => (LayC.implCatLayouts la lb W p c q h1 h2 hsma.fits.2 hsma.fits.1 p' c' q' h1' h2' hsmb.fits.2 hsmb.fits.1).mono fun e w' h => show LayN.LayOut W [] false e w' from by rw [hr] at h; exact h.out)
    have HS := Lib.hid (fun (W : World) (p : Option Addr) (c : Nat) (q : List Nat) (p' : Option Addr) (c' : Nat) (q' : List Nat) (h1 : LaySub W p la q) (h1' : LaySub W p' lb q') (h2 : la.length ≤ c) (h2' : lb.length ≤ c') => (LayC.specCatLayouts la lb W p c q h1 h2 hsma.fits.2 hsma.fits.1 p' c' q' h1' h2' hsmb.fits.2 hsmb.fits.1).mono fun e w' h => show LayN.LayOut W [] false e w' from by rw [hr] at h; exact h.out)
    have HE := Lib.hid (fun (W : World) (p : Option Addr) (c : Nat) (q : List Nat) (p' : Option Addr) (c' : Nat) (q' : List Nat) (h1 : LaySub W p [] q) (h1' : LaySub W p' [] q') (h2 : [].length ≤ c) (h2' : [].length ≤ c') => (LaySm.implLayoutSame [] [] W p c q h1 p' c' q' h1' h2 h2' Small.nil.fits.2 Small.nil.fits.2).mono fun e w' h => show e = .returned (.bool true) ∧ Below W.heap.size W w' from by rw [decide_eq_true rfl] at h; exact h)
    clear hr hsma hsmb hsmc
    go_wp2_with fail
    refine (HI.out _ _ _ _ _ _ _ Ka.out Kb.out Ca.out Cb.out).mono ?_
    rintro e1 w3 ⟨px, cx, qx, rfl, hc, hs, hfr, hb⟩
    have Kaq := Lib.hid (Ka.out.below Ka.out.lt hb)
    clear Ka
    have Ka := Lib.hid Kaq.out
    clear Kaq
    have Kbq := Lib.hid (Kb.out.below Kb.out.lt hb)
    clear Kb
    have Kb := Lib.hid Kbq.out
    clear Kbq
    have Kcq := Lib.hid (Kc.out.below Kc.out.lt hb)
    clear Kc
    have Kc := Lib.hid Kcq.out
    clear Kcq
    have Kdq := Lib.hid (Kd.out.below Kd.out.lt hb)
    clear Kd
    have Kd := Lib.hid Kdq.out
    clear Kdq
    have H3 := Lib.hid (show Below w.heap.size w w3 from H2.out.trans (hb.mono H2.out.size))
    have Kx := Lib.hid hs
    have Cx := Lib.hid hc
    clear hs hc hfr hb
    go_wp2_with fail
    refine (HS.out _ _ _ _ _ _ _ Ka.out Kb.out Ca.out Cb.out).mono ?_
    rintro e1 w4 ⟨pw, cw, qw, rfl, hc, hs, hfr, hb⟩
    have Kaq := Lib.hid (Ka.out.below Ka.out.lt hb)
    clear Ka
    have Ka := Lib.hid Kaq.out
    clear Kaq
    have Kbq := Lib.hid (Kb.out.below Kb.out.lt hb)
    clear Kb
    have Kb := Lib.hid Kbq.out
    clear Kbq
    have Kcq := Lib.hid (Kc.out.below Kc.out.lt hb)
    clear Kc
    have Kc := Lib.hid Kcq.out
    clear Kcq
    have Kdq := Lib.hid (Kd.out.below Kd.out.lt hb)
    clear Kd
    have Kd := Lib.hid Kdq.out
    clear Kdq
    have Kxq := Lib.hid (Kx.out.below Kx.out.lt hb)
    clear Kx
    have Kx := Lib.hid Kxq.out
    clear Kxq
    have H4 := Lib.hid (show Below w.heap.size w w4 from H3.out.trans (hb.mono H3.out.size))
    have Kw := Lib.hid hs
    have Cw := Lib.hid hc
    clear hs hc hfr hb
    go_wp2_with fail
    refine (HE.out _ _ _ _ _ _ _ Kx.out Kw.out Cx.out Cw.out).mono ?_
    rintro e1 w5 ⟨rfl, hb⟩
    have Kaq := Lib.hid (Ka.out.below Ka.out.lt hb)
    clear Ka
    have Ka := Lib.hid Kaq.out
    clear Kaq
    have Kbq := Lib.hid (Kb.out.below Kb.out.lt hb)
    clear Kb
    have Kb := Lib.hid Kbq.out
    clear Kbq
    have Kcq := Lib.hid (Kc.out.below Kc.out.lt hb)
    clear Kc
    have Kc := Lib.hid Kcq.out
    clear Kcq
    have Kdq := Lib.hid (Kd.out.below Kd.out.lt hb)
    clear Kd
    have Kd := Lib.hid Kdq.out
    clear Kdq
    have Kxq := Lib.hid (Kx.out.below Kx.out.lt hb)
    clear Kx
    have Kx := Lib.hid Kxq.out
    clear Kxq
    have Kwq := Lib.hid (Kw.out.below Kw.out.lt hb)
    clear Kw
    have Kw := Lib.hid Kwq.out
    clear Kwq
    have H5 := Lib.hid (show Below w.heap.size w w5 from H4.out.trans (hb.mono H4.out.size))
    clear hb
    go_wp2_with fail
    refine (HE.out _ _ _ _ _ _ _ Kx.out Kw.out Cx.out Cw.out).mono ?_
    rintro e1 w6 ⟨rfl, hb⟩
    have Kaq := Lib.hid (Ka.out.below Ka.out.lt hb)
    clear Ka
    have Ka := Lib.hid Kaq.out
    clear Kaq
    have Kbq := Lib.hid (Kb.out.below Kb.out.lt hb)
    clear Kb
    have Kb := Lib.hid Kbq.out
    clear Kbq
    have Kcq := Lib.hid (Kc.out.below Kc.out.lt hb)
    clear Kc
    have Kc := Lib.hid Kcq.out
    clear Kcq
    have Kdq := Lib.hid (Kd.out.below Kd.out.lt hb)
    clear Kd
    have Kd := Lib.hid Kdq.out
    clear Kdq
    have Kxq := Lib.hid (Kx.out.below Kx.out.lt hb)
    clear Kx
    have Kx := Lib.hid Kxq.out
    clear Kxq
    have Kwq := Lib.hid (Kw.out.below Kw.out.lt hb)
    clear Kw
    have Kw := Lib.hid Kwq.out
    clear Kwq
    have H6 := Lib.hid (show Below w.heap.size w w6 from H5.out.trans (hb.mono H5.out.size))
    clear hb
    go_wp2_with fail
    go_ret
    exact ⟨rfl, H6.out⟩
  | true =>
    obtain ⟨hva, hvb, hX, hvX⟩ := catLR_true hr
    have hsX := Small.of_lv hvX
    have HI := Lib.hid (fun (W : World) (p : Option Addr) (c : Nat) (q : List Nat) (p' : Option Addr) (c' : Nat) (q' : List Nat) (h1 : LaySub W p la q) (h1' : LaySub W p' lb q') (h2 : la.length ≤ c) (h2' : lb.length ≤ c') => (LayC.implCatLayouts la lb W p c q h1 h2 hsma.fits.2 hsma.fits.1 p' c' q' h1' h2' hsmb.fits.2 hsmb.fits.1).mono fun e w' h => show LayN.LayOut W X true e w' from by rw [hr] at h; exact h.out)
    have HS := Lib.hid (fun (W : World) (p : Option Addr) (c : Nat) (q : List Nat) (p' : Option Addr) (c' : Nat) (q' : List Nat) (h1 : LaySub W p la q) (h1' : LaySub W p' lb q') (h2 : la.length ≤ c) (h2' : lb.length ≤ c') => (LayC.specCatLayouts la lb W p c q h1 h2 hsma.fits.2 hsma.fits.1 p' c' q' h1' h2' hsmb.fits.2 hsmb.fits.1).mono fun e w' h => show LayN.LayOut W X true e w' from by rw [hr] at h; exact h.out)
    have HE := Lib.hid (fun (W : World) (p : Option Addr) (c : Nat) (q : List Nat) (p' : Option Addr) (c' : Nat) (q' : List Nat) (h1 : LaySub W p X q) (h1' : LaySub W p' X q') (h2 : X.length ≤ c) (h2' : X.length ≤ c') => (LaySm.implLayoutSame X X W p c q h1 p' c' q' h1' h2 h2' hsX.fits.2 hsX.fits.2).mono fun e w' h => show e = .returned (.bool true) ∧ Below W.heap.size W w' from by rw [decide_eq_true rfl] at h; exact h)
    obtain ⟨⟨Y, ok1⟩, hr1⟩ : ∃ r, catLR lb lc = r := ⟨_, rfl⟩
    obtain ⟨⟨Z1, ok2⟩, hr2⟩ : ∃ r, catLR X lc = r := ⟨_, rfl⟩
    have hsY : Small Y := by
      cases ok1 with
      | false => obtain rfl := catLR_false hr1; exact Small.nil
      | true => exact Small.of_lv (catLR_true hr1).2.2.2
    obtain ⟨⟨Z2, ok3⟩, hr3⟩ : ∃ r, catLR la Y = r := ⟨_, rfl⟩
    have HC1 := Lib.hid (fun (W : World) (p : Option Addr) (c : Nat) (q : List Nat) (p' : Option Addr) (c' : Nat) (q' : List Nat) (h1 : LaySub W p lb q) (h1' : LaySub W p' lc q') (h2 : lb.length ≤ c) (h2' : lc.length ≤ c') => (LayC.implCatLayouts lb lc W p c q h1 h2 hsmb.fits.2 hsmb.fits.1 p' c' q' h1' h2' hsmc.fits.2 hsmc.fits.1).mono fun e w' h => show LayN.LayOut W Y ok1 e w' from by rw [hr1] at h; exact h.out)
    have HC2 := Lib.hid (fun (W : World) (p : Option Addr) (c : Nat) (q : List Nat) (p' : Option Addr) (c' : Nat) (q' : List Nat) (h1 : LaySub W p X q) (h1' : LaySub W p' lc q') (h2 : X.length ≤ c) (h2' : lc.length ≤ c') => (LayC.implCatLayouts X lc W p c q h1 h2 hsX.fits.2 hsX.fits.1 p' c' q' h1' h2' hsmc.fits.2 hsmc.fits.1).mono fun e w' h => show LayN.LayOut W Z1 ok2 e w' from by rw [hr2] at h; exact h.out)
    have HC3 := Lib.hid (fun (W : World) (p : Option Addr) (c : Nat) (q : List Nat) (p' : Option Addr) (c' : Nat) (q' : List Nat) (h1 : LaySub W p la q) (h1' : LaySub W p' Y q') (h2 : la.length ≤ c) (h2' : Y.length ≤ c') => (LayC.implCatLayouts la Y W p c q h1 h2 hsma.fits.2 hsma.fits.1 p' c' q' h1' h2' hsY.fits.2 hsY.fits.1).mono fun e w' h => show LayN.LayOut W Z2 ok3 e w' from by rw [hr3] at h; exact h.out)
    cases ok1 with
    | false =>
      clear hr hsma hsmb hsmc hva hvb hX hvX hsX hr1 hr2 hr3 hsY
      go_wp2_with fail
      refine (HI.out _ _ _ _ _ _ _ Ka.out Kb.out Ca.out Cb.out).mono ?_
      rintro e1 w3 ⟨px, cx, qx, rfl, hc, hs, hfr, hb⟩
      have Kaq := Lib.hid (Ka.out.below Ka.out.lt hb)
      clear Ka
      have Ka := Lib.hid Kaq.out
      clear Kaq
      have Kbq := Lib.hid (Kb.out.below Kb.out.lt hb)
      clear Kb
      have Kb := Lib.hid Kbq.out
      clear Kbq
      have Kcq := Lib.hid (Kc.out.below Kc.out.lt hb)
      clear Kc
      have Kc := Lib.hid Kcq.out
      clear Kcq
      have Kdq := Lib.hid (Kd.out.below Kd.out.lt hb)
      clear Kd
      have Kd := Lib.hid Kdq.out
      clear Kdq
      have H3 := Lib.hid (show Below w.heap.size w w3 from H2.out.trans (hb.mono H2.out.size))
      have Kx := Lib.hid hs
      have Cx := Lib.hid hc
      clear hs hc hfr hb
      go_wp2_with fail
      refine (HS.out _ _ _ _ _ _ _ Ka.out Kb.out Ca.out Cb.out).mono ?_
      rintro e1 w4 ⟨pw, cw, qw, rfl, hc, hs, hfr, hb⟩
      have Kaq := Lib.hid (Ka.out.below Ka.out.lt hb)
      clear Ka
      have Ka := Lib.hid Kaq.out
      clear Kaq
      have Kbq := Lib.hid (Kb.out.below Kb.out.lt hb)
      clear Kb
      have Kb := Lib.hid Kbq.out
      clear Kbq
      have Kcq := Lib.hid (Kc.out.below Kc.out.lt hb)
      clear Kc
      have Kc := Lib.hid Kcq.out
      clear Kcq
      have Kdq := Lib.hid (Kd.out.below Kd.out.lt hb)
      clear Kd
      have Kd := Lib.hid Kdq.out
      clear Kdq
      have Kxq := Lib.hid (Kx.out.below Kx.out.lt hb)
      clear Kx
      have Kx := Lib.hid Kxq.out
      clear Kxq
      have H4 := Lib.hid (show Below w.heap.size w w4 from H3.out.trans (hb.mono H3.out.size))
      have Kw := Lib.hid hs
      have Cw := Lib.hid hc
      clear hs hc hfr hb
      go_wp2_with fail
      refine (HE.out _ _ _ _ _ _ _ Kx.out Kw.out Cx.out Cw.out).mono ?_
      rintro e1 w5 ⟨rfl, hb⟩
      have Kaq := Lib.hid (Ka.out.below Ka.out.lt hb)
      clear Ka
      have Ka := Lib.hid Kaq.out
      clear Kaq
      have Kbq := Lib.hid (Kb.out.below Kb.out.lt hb)
      clear Kb
      have Kb := Lib.hid Kbq.out
      clear Kbq
      have Kcq := Lib.hid (Kc.out.below Kc.out.lt hb)
      clear Kc
      have Kc := Lib.hid Kcq.out
      clear Kcq
      have Kdq := Lib.hid (Kd.out.below Kd.out.lt hb)
      clear Kd
      have Kd := Lib.hid Kdq.out
      clear Kdq
      have Kxq := Lib.hid (Kx.out.below Kx.out.lt hb)
      clear Kx
      have Kx := Lib.hid Kxq.out
      clear Kxq
      have Kwq := Lib.hid (Kw.out.below Kw.out.lt hb)
      clear Kw
      have Kw := Lib.hid Kwq.out
      clear Kwq
      have H5 := Lib.hid (show Below w.heap.size w w5 from H4.out.trans (hb.mono H4.out.size))
      clear hb
      go_wp2_with fail
      refine (HC1.out _ _ _ _ _ _ _ Kb.out Kc.out Cb.out Cc.out).mono ?_
      rintro e1 w6 ⟨py, cy, qy, rfl, hc, hs, hfr, hb⟩
      have Kaq := Lib.hid (Ka.out.below Ka.out.lt hb)
      clear Ka
      have Ka := Lib.hid Kaq.out
      clear Kaq
      have Kbq := Lib.hid (Kb.out.below Kb.out.lt hb)
      clear Kb
      have Kb := Lib.hid Kbq.out
      clear Kbq
      have Kcq := Lib.hid (Kc.out.below Kc.out.lt hb)
      clear Kc
      have Kc := Lib.hid Kcq.out
      clear Kcq
      have Kdq := Lib.hid (Kd.out.below Kd.out.lt hb)
      clear Kd
      have Kd := Lib.hid Kdq.out
      clear Kdq
      have Kxq := Lib.hid (Kx.out.below Kx.out.lt hb)
      clear Kx
      have Kx := Lib.hid Kxq.out
      clear Kxq
      have Kwq := Lib.hid (Kw.out.below Kw.out.lt hb)
      clear Kw
      have Kw := Lib.hid Kwq.out
      clear Kwq
      have H6 := Lib.hid (show Below w.heap.size w w6 from H5.out.trans (hb.mono H5.out.size))
      have Ky := Lib.hid hs
      have Cy := Lib.hid hc
      clear hs hc hfr hb
      go_wp2_with fail
      refine (HC2.out _ _ _ _ _ _ _ Kx.out Kc.out Cx.out Cc.out).mono ?_
      rintro e1 w7 ⟨pz1, cz1, qz1, rfl, hc, hs, hfr, hb⟩
      have Kaq := Lib.hid (Ka.out.below Ka.out.lt hb)
      clear Ka
      have Ka := Lib.hid Kaq.out
      clear Kaq
      have Kbq := Lib.hid (Kb.out.below Kb.out.lt hb)
      clear Kb
      have Kb := Lib.hid Kbq.out
      clear Kbq
      have Kcq := Lib.hid (Kc.out.below Kc.out.lt hb)
      clear Kc
      have Kc := Lib.hid Kcq.out
      clear Kcq
      have Kdq := Lib.hid (Kd.out.below Kd.out.lt hb)
      clear Kd
      have Kd := Lib.hid Kdq.out
      clear Kdq
      have Kxq := Lib.hid (Kx.out.below Kx.out.lt hb)
      clear Kx
      have Kx := Lib.hid Kxq.out
      clear Kxq
      have Kwq := Lib.hid (Kw.out.below Kw.out.lt hb)
      clear Kw
      have Kw := Lib.hid Kwq.out
      clear Kwq
      have Kyq := Lib.hid (Ky.out.below Ky.out.lt hb)
      clear Ky
      have Ky := Lib.hid Kyq.out
      clear Kyq
      have H7 := Lib.hid (show Below w.heap.size w w7 from H6.out.trans (hb.mono H6.out.size))
      have Kz1 := Lib.hid hs
      have Cz1 := Lib.hid hc
      clear hs hc hfr hb
      go_wp2_with fail
      refine (HC3.out _ _ _ _ _ _ _ Ka.out Ky.out Ca.out Cy.out).mono ?_
      rintro e1 w8 ⟨pz2, cz2, qz2, rfl, hc, hs, hfr, hb⟩
      have Kaq := Lib.hid (Ka.out.below Ka.out.lt hb)
      clear Ka
      have Ka := Lib.hid Kaq.out
      clear Kaq
      have Kbq := Lib.hid (Kb.out.below Kb.out.lt hb)
      clear Kb
      have Kb := Lib.hid Kbq.out
      clear Kbq
      have Kcq := Lib.hid (Kc.out.below Kc.out.lt hb)
      clear Kc
      have Kc := Lib.hid Kcq.out
      clear Kcq
      have Kdq := Lib.hid (Kd.out.below Kd.out.lt hb)
      clear Kd
      have Kd := Lib.hid Kdq.out
      clear Kdq
      have Kxq := Lib.hid (Kx.out.below Kx.out.lt hb)
      clear Kx
      have Kx := Lib.hid Kxq.out
      clear Kxq
      have Kwq := Lib.hid (Kw.out.below Kw.out.lt hb)
      clear Kw
      have Kw := Lib.hid Kwq.out
      clear Kwq
      have Kyq := Lib.hid (Ky.out.below Ky.out.lt hb)
      clear Ky
      have Ky := Lib.hid Kyq.out
      clear Kyq
      have Kz1q := Lib.hid (Kz1.out.below Kz1.out.lt hb)
      clear Kz1
      have Kz1 := Lib.hid Kz1q.out
      clear Kz1q
      have H8 := Lib.hid (show Below w.heap.size w w8 from H7.out.trans (hb.mono H7.out.size))
      have Kz2 := Lib.hid hs
      have Cz2 := Lib.hid hc
      clear hs hc hfr hb
      go_wp2_with fail
      go_ret
      exact ⟨rfl, H8.out⟩
    | true =>
      cases ok2 with
      | false =>
        clear hr hsma hsmb hsmc hva hvb hX hvX hsX hr1 hr2 hr3 hsY
        go_wp2_with fail
        refine (HI.out _ _ _ _ _ _ _ Ka.out Kb.out Ca.out Cb.out).mono ?_
        rintro e1 w3 ⟨px, cx, qx, rfl, hc, hs, hfr, hb⟩
        have Kaq := Lib.hid (Ka.out.below Ka.out.lt hb)
        clear Ka
        have Ka := Lib.hid Kaq.out
        clear Kaq
        have Kbq := Lib.hid (Kb.out.below Kb.out.lt hb)
        clear Kb
        have Kb := Lib.hid Kbq.out
        clear Kbq
        have Kcq := Lib.hid (Kc.out.below Kc.out.lt hb)
        clear Kc
        have Kc := Lib.hid Kcq.out
        clear Kcq
        have Kdq := Lib.hid (Kd.out.below Kd.out.lt hb)
        clear Kd
        have Kd := Lib.hid Kdq.out
        clear Kdq
        have H3 := Lib.hid (show Below w.heap.size w w3 from H2.out.trans (hb.mono H2.out.size))
        have Kx := Lib.hid hs
        have Cx := Lib.hid hc
        clear hs hc hfr hb
        go_wp2_with fail
        refine (HS.out _ _ _ _ _ _ _ Ka.out Kb.out Ca.out Cb.out).mono ?_
        rintro e1 w4 ⟨pw, cw, qw, rfl, hc, hs, hfr, hb⟩
        have Kaq := Lib.hid (Ka.out.below Ka.out.lt hb)
        clear Ka
        have Ka := Lib.hid Kaq.out
        clear Kaq
        have Kbq := Lib.hid (Kb.out.below Kb.out.lt hb)
        clear Kb
        have Kb := Lib.hid Kbq.out
        clear Kbq
        have Kcq := Lib.hid (Kc.out.below Kc.out.lt hb)
        clear Kc
        have Kc := Lib.hid Kcq.out
        clear Kcq
        have Kdq := Lib.hid (Kd.out.below Kd.out.lt hb)
        clear Kd
        have Kd := Lib.hid Kdq.out
        clear Kdq
        have Kxq := Lib.hid (Kx.out.below Kx.out.lt hb)
        clear Kx
        have Kx := Lib.hid Kxq.out
        clear Kxq
        have H4 := Lib.hid (show Below w.heap.size w w4 from H3.out.trans (hb.mono H3.out.size))
        have Kw := Lib.hid hs
        have Cw := Lib.hid hc
        clear hs hc hfr hb
        go_wp2_with fail
        refine (HE.out _ _ _ _ _ _ _ Kx.out Kw.out Cx.out Cw.out).mono ?_
        rintro e1 w5 ⟨rfl, hb⟩
        have Kaq := Lib.hid (Ka.out.below Ka.out.lt hb)
        clear Ka
        have Ka := Lib.hid Kaq.out
        clear Kaq
        have Kbq := Lib.hid (Kb.out.below Kb.out.lt hb)
        clear Kb
        have Kb := Lib.hid Kbq.out
        clear Kbq
        have Kcq := Lib.hid (Kc.out.below Kc.out.lt hb)
        clear Kc
        have Kc := Lib.hid Kcq.out
        clear Kcq
        have Kdq := Lib.hid (Kd.out.below Kd.out.lt hb)
        clear Kd
        have Kd := Lib.hid Kdq.out
        clear Kdq
        have Kxq := Lib.hid (Kx.out.below Kx.out.lt hb)
        clear Kx
        have Kx := Lib.hid Kxq.out
        clear Kxq
        have Kwq := Lib.hid (Kw.out.below Kw.out.lt hb)
        clear Kw
        have Kw := Lib.hid Kwq.out
        clear Kwq
        have H5 := Lib.hid (show Below w.heap.size w w5 from H4.out.trans (hb.mono H4.out.size))
        clear hb
        go_wp2_with fail
        refine (HC1.out _ _ _ _ _ _ _ Kb.out Kc.out Cb.out Cc.out).mono ?_
        rintro e1 w6 ⟨py, cy, qy, rfl, hc, hs, hfr, hb⟩
        have Kaq := Lib.hid (Ka.out.below Ka.out.lt hb)
        clear Ka
        have Ka := Lib.hid Kaq.out
        clear Kaq
        have Kbq := Lib.hid (Kb.out.below Kb.out.lt hb)
        clear Kb
        have Kb := Lib.hid Kbq.out
        clear Kbq
        have Kcq := Lib.hid (Kc.out.below Kc.out.lt hb)
        clear Kc
        have Kc := Lib.hid Kcq.out
        clear Kcq
        have Kdq := Lib.hid (Kd.out.below Kd.out.lt hb)
        clear Kd
        have Kd := Lib.hid Kdq.out
        clear Kdq
        have Kxq := Lib.hid (Kx.out.below Kx.out.lt hb)
        clear Kx
        have Kx := Lib.hid Kxq.out
        clear Kxq
        have Kwq := Lib.hid (Kw.out.below Kw.out.lt hb)
        clear Kw
        have Kw := Lib.hid Kwq.out
        clear Kwq
        have H6 := Lib.hid (show Below w.heap.size w w6 from H5.out.trans (hb.mono H5.out.size))
        have Ky := Lib.hid hs
        have Cy := Lib.hid hc
        clear hs hc hfr hb
        go_wp2_with fail
        refine (HC2.out _ _ _ _ _ _ _ Kx.out Kc.out Cx.out Cc.out).mono ?_
        rintro e1 w7 ⟨pz1, cz1, qz1, rfl, hc, hs, hfr, hb⟩
        have Kaq := Lib.hid (Ka.out.below Ka.out.lt hb)
        clear Ka
        have Ka := Lib.hid Kaq.out
        clear Kaq
        have Kbq := Lib.hid (Kb.out.below Kb.out.lt hb)
        clear Kb
        have Kb := Lib.hid Kbq.out
        clear Kbq
        have Kcq := Lib.hid (Kc.out.below Kc.out.lt hb)
        clear Kc
        have Kc := Lib.hid Kcq.out
        clear Kcq
        have Kdq := Lib.hid (Kd.out.below Kd.out.lt hb)
        clear Kd
        have Kd := Lib.hid Kdq.out
        clear Kdq
        have Kxq := Lib.hid (Kx.out.below Kx.out.lt hb)
        clear Kx
        have Kx := Lib.hid Kxq.out
        clear Kxq
        have Kwq := Lib.hid (Kw.out.below Kw.out.lt hb)
        clear Kw
        have Kw := Lib.hid Kwq.out
        clear Kwq
        have Kyq := Lib.hid (Ky.out.below Ky.out.lt hb)
        clear Ky
        have Ky := Lib.hid Kyq.out
        clear Kyq
        have H7 := Lib.hid (show Below w.heap.size w w7 from H6.out.trans (hb.mono H6.out.size))
        have Kz1 := Lib.hid hs
        have Cz1 := Lib.hid hc
        clear hs hc hfr hb
        go_wp2_with fail
        refine (HC3.out _ _ _ _ _ _ _ Ka.out Ky.out Ca.out Cy.out).mono ?_
        rintro e1 w8 ⟨pz2, cz2, qz2, rfl, hc, hs, hfr, hb⟩
        have Kaq := Lib.hid (Ka.out.below Ka.out.lt hb)
        clear Ka
        have Ka := Lib.hid Kaq.out
        clear Kaq
        have Kbq := Lib.hid (Kb.out.below Kb.out.lt hb)
        clear Kb
        have Kb := Lib.hid Kbq.out
        clear Kbq
        have Kcq := Lib.hid (Kc.out.below Kc.out.lt hb)
        clear Kc
        have Kc := Lib.hid Kcq.out
        clear Kcq
        have Kdq := Lib.hid (Kd.out.below Kd.out.lt hb)
        clear Kd
        have Kd := Lib.hid Kdq.out
        clear Kdq
        have Kxq := Lib.hid (Kx.out.below Kx.out.lt hb)
        clear Kx
        have Kx := Lib.hid Kxq.out
        clear Kxq
        have Kwq := Lib.hid (Kw.out.below Kw.out.lt hb)
        clear Kw
        have Kw := Lib.hid Kwq.out
        clear Kwq
        have Kyq := Lib.hid (Ky.out.below Ky.out.lt hb)
        clear Ky
        have Ky := Lib.hid Kyq.out
        clear Kyq
        have Kz1q := Lib.hid (Kz1.out.below Kz1.out.lt hb)
        clear Kz1
        have Kz1 := Lib.hid Kz1q.out
        clear Kz1q
        have H8 := Lib.hid (show Below w.heap.size w w8 from H7.out.trans (hb.mono H7.out.size))
        have Kz2 := Lib.hid hs
        have Cz2 := Lib.hid hc
        clear hs hc hfr hb
        go_wp2_with fail
        go_ret
        exact ⟨rfl, H8.out⟩
      | true =>
        cases ok3 with
        | false =>
          clear hr hsma hsmb hsmc hva hvb hX hvX hsX hr1 hr2 hr3 hsY
          go_wp2_with fail
          refine (HI.out _ _ _ _ _ _ _ Ka.out Kb.out Ca.out Cb.out).mono ?_
          rintro e1 w3 ⟨px, cx, qx, rfl, hc, hs, hfr, hb⟩
          have Kaq := Lib.hid (Ka.out.below Ka.out.lt hb)
          clear Ka
          have Ka := Lib.hid Kaq.out
          clear Kaq
          have Kbq := Lib.hid (Kb.out.below Kb.out.lt hb)
          clear Kb
          have Kb := Lib.hid Kbq.out
          clear Kbq
          have Kcq := Lib.hid (Kc.out.below Kc.out.lt hb)
          clear Kc
          have Kc := Lib.hid Kcq.out
          clear Kcq
          have Kdq := Lib.hid (Kd.out.below Kd.out.lt hb)
          clear Kd
          have Kd := Lib.hid Kdq.out
          clear Kdq
          have H3 := Lib.hid (show Below w.heap.size w w3 from H2.out.trans (hb.mono H2.out.size))
          have Kx := Lib.hid hs
          have Cx := Lib.hid hc
          clear hs hc hfr hb
          go_wp2_with fail
          refine (HS.out _ _ _ _ _ _ _ Ka.out Kb.out Ca.out Cb.out).mono ?_
          rintro e1 w4 ⟨pw, cw, qw, rfl, hc, hs, hfr, hb⟩
          have Kaq := Lib.hid (Ka.out.below Ka.out.lt hb)
          clear Ka
          have Ka := Lib.hid Kaq.out
          clear Kaq
          have Kbq := Lib.hid (Kb.out.below Kb.out.lt hb)
          clear Kb
          have Kb := Lib.hid Kbq.out
          clear Kbq
          have Kcq := Lib.hid (Kc.out.below Kc.out.lt hb)
          clear Kc
          have Kc := Lib.hid Kcq.out
          clear Kcq
          have Kdq := Lib.hid (Kd.out.below Kd.out.lt hb)
          clear Kd
          have Kd := Lib.hid Kdq.out
          clear Kdq
          have Kxq := Lib.hid (Kx.out.below Kx.out.lt hb)
          clear Kx
          have Kx := Lib.hid Kxq.out
          clear Kxq
          have H4 := Lib.hid (show Below w.heap.size w w4 from H3.out.trans (hb.mono H3.out.size))
          have Kw := Lib.hid hs
          have Cw := Lib.hid hc
          clear hs hc hfr hb
          go_wp2_with fail
          refine (HE.out _ _ _ _ _ _ _ Kx.out Kw.out Cx.out Cw.out).mono ?_
          rintro e1 w5 ⟨rfl, hb⟩
          have Kaq := Lib.hid (Ka.out.below Ka.out.lt hb)
          clear Ka
          have Ka := Lib.hid Kaq.out
          clear Kaq
          have Kbq := Lib.hid (Kb.out.below Kb.out.lt hb)
          clear Kb
          have Kb := Lib.hid Kbq.out
          clear Kbq
          have Kcq := Lib.hid (Kc.out.below Kc.out.lt hb)
          clear Kc
          have Kc := Lib.hid Kcq.out
          clear Kcq
          have Kdq := Lib.hid (Kd.out.below Kd.out.lt hb)
          clear Kd
          have Kd := Lib.hid Kdq.out
          clear Kdq
          have Kxq := Lib.hid (Kx.out.below Kx.out.lt hb)
          clear Kx
          have Kx := Lib.hid Kxq.out
          clear Kxq
          have Kwq := Lib.hid (Kw.out.below Kw.out.lt hb)
          clear Kw
          have Kw := Lib.hid Kwq.out
          clear Kwq
          have H5 := Lib.hid (show Below w.heap.size w w5 from H4.out.trans (hb.mono H4.out.size))
          clear hb
          go_wp2_with fail
          refine (HC1.out _ _ _ _ _ _ _ Kb.out Kc.out Cb.out Cc.out).mono ?_
          rintro e1 w6 ⟨py, cy, qy, rfl, hc, hs, hfr, hb⟩
          have Kaq := Lib.hid (Ka.out.below Ka.out.lt hb)
          clear Ka
          have Ka := Lib.hid Kaq.out
          clear Kaq
          have Kbq := Lib.hid (Kb.out.below Kb.out.lt hb)
          clear Kb
          have Kb := Lib.hid Kbq.out
          clear Kbq
          have Kcq := Lib.hid (Kc.out.below Kc.out.lt hb)
          clear Kc
          have Kc := Lib.hid Kcq.out
          clear Kcq
          have Kdq := Lib.hid (Kd.out.below Kd.out.lt hb)
          clear Kd
          have Kd := Lib.hid Kdq.out
          clear Kdq
          have Kxq := Lib.hid (Kx.out.below Kx.out.lt hb)
          clear Kx
          have Kx := Lib.hid Kxq.out
          clear Kxq
          have Kwq := Lib.hid (Kw.out.below Kw.out.lt hb)
          clear Kw
          have Kw := Lib.hid Kwq.out
          clear Kwq
          have H6 := Lib.hid (show Below w.heap.size w w6 from H5.out.trans (hb.mono H5.out.size))
          have Ky := Lib.hid hs
          have Cy := Lib.hid hc
          clear hs hc hfr hb
          go_wp2_with fail
          refine (HC2.out _ _ _ _ _ _ _ Kx.out Kc.out Cx.out Cc.out).mono ?_
          rintro e1 w7 ⟨pz1, cz1, qz1, rfl, hc, hs, hfr, hb⟩
          have Kaq := Lib.hid (Ka.out.below Ka.out.lt hb)
          clear Ka
          have Ka := Lib.hid Kaq.out
          clear Kaq
          have Kbq := Lib.hid (Kb.out.below Kb.out.lt hb)
          clear Kb
          have Kb := Lib.hid Kbq.out
          clear Kbq
          have Kcq := Lib.hid (Kc.out.below Kc.out.lt hb)
          clear Kc
          have Kc := Lib.hid Kcq.out
          clear Kcq
          have Kdq := Lib.hid (Kd.out.below Kd.out.lt hb)
          clear Kd
          have Kd := Lib.hid Kdq.out
          clear Kdq
          have Kxq := Lib.hid (Kx.out.below Kx.out.lt hb)
          clear Kx
          have Kx := Lib.hid Kxq.out
          clear Kxq
          have Kwq := Lib.hid (Kw.out.below Kw.out.lt hb)
          clear Kw
          have Kw := Lib.hid Kwq.out
          clear Kwq
          have Kyq := Lib.hid (Ky.out.below Ky.out.lt hb)
          clear Ky
          have Ky := Lib.hid Kyq.out
          clear Kyq
          have H7 := Lib.hid (show Below w.heap.size w w7 from H6.out.trans (hb.mono H6.out.size))
          have Kz1 := Lib.hid hs
          have Cz1 := Lib.hid hc
          clear hs hc hfr hb
          go_wp2_with fail
          refine (HC3.out _ _ _ _ _ _ _ Ka.out Ky.out Ca.out Cy.out).mono ?_
          rintro e1 w8 ⟨pz2, cz2, qz2, rfl, hc, hs, hfr, hb⟩
          have Kaq := Lib.hid (Ka.out.below Ka.out.lt hb)
          clear Ka
          have Ka := Lib.hid Kaq.out
          clear Kaq
          have Kbq := Lib.hid (Kb.out.below Kb.out.lt hb)
          clear Kb
          have Kb := Lib.hid Kbq.out
          clear Kbq
          have Kcq := Lib.hid (Kc.out.below Kc.out.lt hb)
          clear Kc
          have Kc := Lib.hid Kcq.out
          clear Kcq
          have Kdq := Lib.hid (Kd.out.below Kd.out.lt hb)
          clear Kd
          have Kd := Lib.hid Kdq.out
          clear Kdq
          have Kxq := Lib.hid (Kx.out.below Kx.out.lt hb)
          clear Kx
          have Kx := Lib.hid Kxq.out
          clear Kxq
          have Kwq := Lib.hid (Kw.out.below Kw.out.lt hb)
          clear Kw
          have Kw := Lib.hid Kwq.out
          clear Kwq
          have Kyq := Lib.hid (Ky.out.below Ky.out.lt hb)
          clear Ky
          have Ky := Lib.hid Kyq.out
          clear Kyq
          have Kz1q := Lib.hid (Kz1.out.below Kz1.out.lt hb)
          clear Kz1
          have Kz1 := Lib.hid Kz1q.out
          clear Kz1q
          have H8 := Lib.hid (show Below w.heap.size w w8 from H7.out.trans (hb.mono H7.out.size))
          have Kz2 := Lib.hid hs
          have Cz2 := Lib.hid hc
          clear hs hc hfr hb
          go_wp2_with fail
          go_ret
          exact ⟨rfl, H8.out⟩
        | true =>
          obtain ⟨_, hvc, hY, hvY⟩ := catLR_true hr1
          obtain ⟨_, _, hZ1, hv1⟩ := catLR_true hr2
          obtain ⟨_, _, hZ2, hv2⟩ := catLR_true hr3
          have hs1 := Small.of_lv hv1
          have hs2 := Small.of_lv hv2
          have hla := lv_len hva
          have hlb := lv_len hvb
          have hZ : Z1 = Z2 := by rw [hZ1, hZ2, hX, hY]; exact catL_assoc lc (by omega) (by omega)
          have HF := Lib.hid (fun (W : World) (p : Option Addr) (c : Nat) (q : List Nat) (p' : Option Addr) (c' : Nat) (q' : List Nat) (h1 : LaySub W p Z1 q) (h1' : LaySub W p' Z2 q') (h2 : Z1.length ≤ c) (h2' : Z2.length ≤ c') => (LaySm.implLayoutSame Z1 Z2 W p c q h1 p' c' q' h1' h2 h2' hs1.fits.2 hs2.fits.2).mono fun e w' h => show e = .returned (.bool true) ∧ Below W.heap.size W w' from by rw [decide_eq_true hZ] at h; exact h)
          clear hr hsma hsmb hsmc hva hvb hX hvX hsX hr1 hr2 hr3 hsY hvc hY hvY hZ1 hv1 hZ2 hv2 hs1 hs2 hla hlb hZ
          go_wp2_with fail
          refine (HI.out _ _ _ _ _ _ _ Ka.out Kb.out Ca.out Cb.out).mono ?_
          rintro e1 w3 ⟨px, cx, qx, rfl, hc, hs, hfr, hb⟩
          have Kaq := Lib.hid (Ka.out.below Ka.out.lt hb)
          clear Ka
          have Ka := Lib.hid Kaq.out
          clear Kaq
          have Kbq := Lib.hid (Kb.out.below Kb.out.lt hb)
          clear Kb
          have Kb := Lib.hid Kbq.out
          clear Kbq
          have Kcq := Lib.hid (Kc.out.below Kc.out.lt hb)
          clear Kc
          have Kc := Lib.hid Kcq.out
          clear Kcq
          have Kdq := Lib.hid (Kd.out.below Kd.out.lt hb)
          clear Kd
          have Kd := Lib.hid Kdq.out
          clear Kdq
          have H3 := Lib.hid (show Below w.heap.size w w3 from H2.out.trans (hb.mono H2.out.size))
          have Kx := Lib.hid hs
          have Cx := Lib.hid hc
          clear hs hc hfr hb
          go_wp2_with fail
          refine (HS.out _ _ _ _ _ _ _ Ka.out Kb.out Ca.out Cb.out).mono ?_
          rintro e1 w4 ⟨pw, cw, qw, rfl, hc, hs, hfr, hb⟩
          have Kaq := Lib.hid (Ka.out.below Ka.out.lt hb)
          clear Ka
          have Ka := Lib.hid Kaq.out
          clear Kaq
          have Kbq := Lib.hid (Kb.out.below Kb.out.lt hb)
          clear Kb
          have Kb := Lib.hid Kbq.out
          clear Kbq
          have Kcq := Lib.hid (Kc.out.below Kc.out.lt hb)
          clear Kc
          have Kc := Lib.hid Kcq.out
          clear Kcq
          have Kdq := Lib.hid (Kd.out.below Kd.out.lt hb)
          clear Kd
          have Kd := Lib.hid Kdq.out
          clear Kdq
          have Kxq := Lib.hid (Kx.out.below Kx.out.lt hb)
          clear Kx
          have Kx := Lib.hid Kxq.out
          clear Kxq
          have H4 := Lib.hid (show Below w.heap.size w w4 from H3.out.trans (hb.mono H3.out.size))
          have Kw := Lib.hid hs
          have Cw := Lib.hid hc
          clear hs hc hfr hb
          go_wp2_with fail
          refine (HE.out _ _ _ _ _ _ _ Kx.out Kw.out Cx.out Cw.out).mono ?_
          rintro e1 w5 ⟨rfl, hb⟩
          have Kaq := Lib.hid (Ka.out.below Ka.out.lt hb)
          clear Ka
          have Ka := Lib.hid Kaq.out
          clear Kaq
          have Kbq := Lib.hid (Kb.out.below Kb.out.lt hb)
          clear Kb
          have Kb := Lib.hid Kbq.out
          clear Kbq
          have Kcq := Lib.hid (Kc.out.below Kc.out.lt hb)
          clear Kc
          have Kc := Lib.hid Kcq.out
          clear Kcq
          have Kdq := Lib.hid (Kd.out.below Kd.out.lt hb)
          clear Kd
          have Kd := Lib.hid Kdq.out
          clear Kdq
          have Kxq := Lib.hid (Kx.out.below Kx.out.lt hb)
          clear Kx
          have Kx := Lib.hid Kxq.out
          clear Kxq
          have Kwq := Lib.hid (Kw.out.below Kw.out.lt hb)
          clear Kw
          have Kw := Lib.hid Kwq.out
          clear Kwq
          have H5 := Lib.hid (show Below w.heap.size w w5 from H4.out.trans (hb.mono H4.out.size))
          clear hb
          go_wp2_with fail
          refine (HC1.out _ _ _ _ _ _ _ Kb.out Kc.out Cb.out Cc.out).mono ?_
          rintro e1 w6 ⟨py, cy, qy, rfl, hc, hs, hfr, hb⟩
          have Kaq := Lib.hid (Ka.out.below Ka.out.lt hb)
          clear Ka
          have Ka := Lib.hid Kaq.out
          clear Kaq
          have Kbq := Lib.hid (Kb.out.below Kb.out.lt hb)
          clear Kb
          have Kb := Lib.hid Kbq.out
          clear Kbq
          have Kcq := Lib.hid (Kc.out.below Kc.out.lt hb)
          clear Kc
          have Kc := Lib.hid Kcq.out
          clear Kcq
          have Kdq := Lib.hid (Kd.out.below Kd.out.lt hb)
          clear Kd
          have Kd := Lib.hid Kdq.out
          clear Kdq
          have Kxq := Lib.hid (Kx.out.below Kx.out.lt hb)
          clear Kx
          have Kx := Lib.hid Kxq.out
          clear Kxq
          have Kwq := Lib.hid (Kw.out.below Kw.out.lt hb)
          clear Kw
          have Kw := Lib.hid Kwq.out
          clear Kwq
          have H6 := Lib.hid (show Below w.heap.size w w6 from H5.out.trans (hb.mono H5.out.size))
          have Ky := Lib.hid hs
          have Cy := Lib.hid hc
          clear hs hc hfr hb
          go_wp2_with fail
          refine (HC2.out _ _ _ _ _ _ _ Kx.out Kc.out Cx.out Cc.out).mono ?_
          rintro e1 w7 ⟨pz1, cz1, qz1, rfl, hc, hs, hfr, hb⟩
          have Kaq := Lib.hid (Ka.out.below Ka.out.lt hb)
          clear Ka
          have Ka := Lib.hid Kaq.out
          clear Kaq
          have Kbq := Lib.hid (Kb.out.below Kb.out.lt hb)
          clear Kb
          have Kb := Lib.hid Kbq.out
          clear Kbq
          have Kcq := Lib.hid (Kc.out.below Kc.out.lt hb)
          clear Kc
          have Kc := Lib.hid Kcq.out
          clear Kcq
          have Kdq := Lib.hid (Kd.out.below Kd.out.lt hb)
          clear Kd
          have Kd := Lib.hid Kdq.out
          clear Kdq
          have Kxq := Lib.hid (Kx.out.below Kx.out.lt hb)
          clear Kx
          have Kx := Lib.hid Kxq.out
          clear Kxq
          have Kwq := Lib.hid (Kw.out.below Kw.out.lt hb)
          clear Kw
          have Kw := Lib.hid Kwq.out
          clear Kwq
          have Kyq := Lib.hid (Ky.out.below Ky.out.lt hb)
          clear Ky
          have Ky := Lib.hid Kyq.out
          clear Kyq
          have H7 := Lib.hid (show Below w.heap.size w w7 from H6.out.trans (hb.mono H6.out.size))
          have Kz1 := Lib.hid hs
          have Cz1 := Lib.hid hc
          clear hs hc hfr hb
          go_wp2_with fail
          refine (HC3.out _ _ _ _ _ _ _ Ka.out Ky.out Ca.out Cy.out).mono ?_
          rintro e1 w8 ⟨pz2, cz2, qz2, rfl, hc, hs, hfr, hb⟩
          have Kaq := Lib.hid (Ka.out.below Ka.out.lt hb)
          clear Ka
          have Ka := Lib.hid Kaq.out
          clear Kaq
          have Kbq := Lib.hid (Kb.out.below Kb.out.lt hb)
          clear Kb
          have Kb := Lib.hid Kbq.out
          clear Kbq
          have Kcq := Lib.hid (Kc.out.below Kc.out.lt hb)
          clear Kc
          have Kc := Lib.hid Kcq.out
          clear Kcq
          have Kdq := Lib.hid (Kd.out.below Kd.out.lt hb)
          clear Kd
          have Kd := Lib.hid Kdq.out
          clear Kdq
          have Kxq := Lib.hid (Kx.out.below Kx.out.lt hb)
          clear Kx
          have Kx := Lib.hid Kxq.out
          clear Kxq
          have Kwq := Lib.hid (Kw.out.below Kw.out.lt hb)
          clear Kw
          have Kw := Lib.hid Kwq.out
          clear Kwq
          have Kyq := Lib.hid (Ky.out.below Ky.out.lt hb)
          clear Ky
          have Ky := Lib.hid Kyq.out
          clear Kyq
          have Kz1q := Lib.hid (Kz1.out.below Kz1.out.lt hb)
          clear Kz1
          have Kz1 := Lib.hid Kz1q.out
          clear Kz1q
          have H8 := Lib.hid (show Below w.heap.size w w8 from H7.out.trans (hb.mono H7.out.size))
          have Kz2 := Lib.hid hs
          have Cz2 := Lib.hid hc
          clear hs hc hfr hb
          go_wp2_with fail
          refine (HF.out _ _ _ _ _ _ _ Kz1.out Kz2.out Cz1.out Cz2.out).mono ?_
          rintro e1 w9 ⟨rfl, hb⟩
          have Kaq := Lib.hid (Ka.out.below Ka.out.lt hb)
          clear Ka
          have Ka := Lib.hid Kaq.out
          clear Kaq
          have Kbq := Lib.hid (Kb.out.below Kb.out.lt hb)
          clear Kb
          have Kb := Lib.hid Kbq.out
          clear Kbq
          have Kcq := Lib.hid (Kc.out.below Kc.out.lt hb)
          clear Kc
          have Kc := Lib.hid Kcq.out
          clear Kcq
          have Kdq := Lib.hid (Kd.out.below Kd.out.lt hb)
          clear Kd
          have Kd := Lib.hid Kdq.out
          clear Kdq
          have Kxq := Lib.hid (Kx.out.below Kx.out.lt hb)
          clear Kx
          have Kx := Lib.hid Kxq.out
          clear Kxq
          have Kwq := Lib.hid (Kw.out.below Kw.out.lt hb)
          clear Kw
          have Kw := Lib.hid Kwq.out
          clear Kwq
          have Kyq := Lib.hid (Ky.out.below Ky.out.lt hb)
          clear Ky
          have Ky := Lib.hid Kyq.out
          clear Kyq
          have Kz1q := Lib.hid (Kz1.out.below Kz1.out.lt hb)
          clear Kz1
          have Kz1 := Lib.hid Kz1q.out
          clear Kz1q
          have Kz2q := Lib.hid (Kz2.out.below Kz2.out.lt hb)
          clear Kz2
          have Kz2 := Lib.hid Kz2q.out
          clear Kz2q
          have H9 := Lib.hid (show Below w.heap.size w w9 from H8.out.trans (hb.mono H8.out.size))
          clear hb
          go_wp2_with fail
          go_ret
          exact ⟨rfl, H9.out⟩

set_option maxHeartbeats 800000 in
theorem walk_big0 (w : World) (a0 : Option Addr) (len0 cap0 : Nat) (a1 : Option Addr) (len1 cap1 : Nat) (hlc0 : len0 ≤ cap0) (hcm0 : cap0 ≤ maxLen) (hbig : 1048576 < len0) :
    Calls Try.prog 10 #[.slice a0 len0 cap0, .slice a1 len1 cap1] w fun e w' => e = .returned (.bool true) ∧ Below w.heap.size w w' := by
  unfold maxLen at hcm0
  go_enter Try.func10, Try.ntmps10
  go_wp2_with fail
  go_ret
  exact ⟨rfl, Below.refl _ _⟩

set_option maxHeartbeats 800000 in
theorem walk_big1 (w : World) (a0 : Option Addr) (len0 cap0 : Nat) (a1 : Option Addr) (len1 cap1 : Nat) (hlc0 : len0 ≤ cap0) (hcm0 : cap0 ≤ maxLen) (hl0 : len0 ≤ 1048576) (hlc1 : len1 ≤ cap1) (hcm1 : cap1 ≤ maxLen) (hbig : 1048576 < len1) :
    Calls Try.prog 10 #[.slice a0 len0 cap0, .slice a1 len1 cap1] w fun e w' => e = .returned (.bool true) ∧ Below w.heap.size w w' := by
  unfold maxLen at hcm0 hcm1
  go_enter Try.func10, Try.ntmps10
  go_wp2_with fail
  go_ret
  exact ⟨rfl, Below.refl _ _⟩

theorem walk (w : World) (a0 : Option Addr) (len0 cap0 : Nat) (a1 : Option Addr) (len1 cap1 : Nat) (hb0 : Bytes w a0 len0) (hlc0 : len0 ≤ cap0) (hcm0 : cap0 ≤ maxLen) (hb1 : Bytes w a1 len1) (hlc1 : len1 ≤ cap1) (hcm1 : cap1 ≤ maxLen) :
    Calls Try.prog 10 #[.slice a0 len0 cap0, .slice a1 len1 cap1] w fun e w' => e = .returned (.bool true) ∧ Below w.heap.size w w' := by
  by_cases h0 : 1048576 < len0
  · exact walk_big0 w a0 len0 cap0 a1 len1 cap1 hlc0 hcm0 h0
  · by_cases h1 : 1048576 < len1
    · exact walk_big1 w a0 len0 cap0 a1 len1 cap1 hlc0 hcm0 (by omega) hlc1 hcm1 h1
    · exact walk_good w a0 len0 cap0 a1 len1 cap1 hb0 hlc0 hcm0 hb1 hlc1 hcm1 (by omega) (by omega)

set_option maxRecDepth 100000 in
theorem lifted (os : Os) (started : os.Started) (H : Type) (enc : TypeId × Value → H) :
    ReturnsInHanded {} Try.checked os 10 .any (Rows.fnCatGroupsSpec.pre6 enc Try.prog Try.f10 Rows.fnCatGroupsRow.domain false) (Rows.fnCatGroupsSpec.post enc Try.prog Try.f10 false true false false) := by
  refine returnsInHanded_of_change (C := Try.checked) Facts.own started (by kernel_rfl) Try.func10
    (ChangeSpec.witness6 (enc := enc) (C := Try.checked) false ⟨#[], #[.slice none 0 0, .slice none 0 0], []⟩ 8 (by kernel_rfl) (by kernel_rfl) (by kernel_rfl) (by kernel_rfl)) ?_
  intro W base args ds gs before hval0 hW hcnd0 _
  clear hcnd0
  have hval : ∀ (j : Nat) t v, Try.f10.params[j]? = some t → args[j]? = some v → Value.okWide Try.prog W .any base t v := hval0
  have hW' := hW
  obtain ⟨p, q, hA0, hV, rfl, hfz, hnd⟩ := hW
  have hA : DataW.TrodAll enc Try.prog W 0 (fun _ => true) true Try.f10.params.toList args.toList ds p := hA0
  rw [Try.params10] at hA hval
  obtain ⟨v0, v1, d0, d1, p0, p1, rfl, rfl, rfl, h0, h1⟩ := trodAll_two hA
  obtain ⟨rfl, rfl⟩ := trodVars_none hV
  obtain ⟨a0, len0, cap0, rfl⟩ := okWide_slice Try.underlying22 (hval 0 22 v0 rfl rfl)
  obtain ⟨a1, len1, cap1, rfl⟩ := okWide_slice Try.underlying22 (hval 1 22 v1 rfl rfl)
  clear hA0 hval0
  simp only [List.append_nil] at hW'
  have hlt : ∀ x ∈ p0 ++ p1, x.block < W.heap.size := fun x hx => by simpa using hW'.lt x hx
  obtain ⟨hb0, hlc0, hcm0⟩ := opened h0
  obtain ⟨hb1, hlc1, hcm1⟩ := opened h1
  refine (walk W a0 len0 cap0 a1 len1 cap1 hb0 hlc0 hcm0 hb1 hlc1 hcm1).mono fun e W' ⟨he, hb⟩ => ?_
  subst he
  refine ⟨_, rfl, [_, _], [], p0 ++ p1, [], p0 ++ p1, [], hW', trodAll_mk1 (shut_bool Try.underlying4 _), ?_, rfl, hb.frame _, fun h => by cases h⟩
  exact trodAll_mk2 (Below.trod Facts.laidOut (by kernel_rfl) (of_decide_eq_true (by kernel_rfl)) h0 hb (fun x hx => hlt x (List.mem_append_left _ hx))) (Below.trod Facts.laidOut (by kernel_rfl) (of_decide_eq_true (by kernel_rfl)) h1 hb (fun x hx => hlt x (List.mem_append_right _ hx)))

theorem named : Try.prog.funcNamed Rows.fnCatGroupsRow.func = some 10 := by kernel_rfl
theorem closed : joinedFacts Try.prog 10 Try.f10 Rows.fnCatGroupsSpec Rows.fnCatGroupsRow = true :=
  Facts.closed_of rfl rfl rfl rfl (h28b := rfl) (by kernel_rfl) (by kernel_rfl) (by kernel_rfl) (by kernel_rfl) (by kernel_rfl) (by kernel_rfl) (by kernel_rfl) (by kernel_rfl) (by kernel_rfl) (by kernel_rfl) (by kernel_rfl) (by kernel_rfl) (by kernel_rfl) (by kernel_rfl) (by kernel_rfl) (by kernel_rfl) (by kernel_rfl) (by kernel_rfl) (by kernel_rfl) (by kernel_rfl) (by kernel_rfl) (by kernel_rfl) (by kernel_rfl) (by kernel_rfl)
theorem instanced : Try.f10.isInstance Try.prog Rows.fnCatGroupsRow.origin Rows.fnCatGroupsRow.targs := of_decide_eq_true (by kernel_rfl)
theorem wrapped : Try.f10.isWrapper Try.prog Rows.fnCatGroupsRow.wrapper Rows.fnCatGroupsRow.mainSum := by
  unfold Func.isWrapper
  rw [if_neg (of_decide_eq_false (by kernel_rfl))]
  exact ⟨rfl, rfl⟩

theorem holds : Rows.FnCatGroupsSaid :=
  OpenClaim.holds_of_wide 10 Try.f10 rfl rfl rfl rfl rfl rfl rfl ⟨rfl, rfl, rfl, rfl, rfl⟩ rfl rfl rfl rfl rfl named Try.func10 closed instanced wrapped
    (fun os started H enc _ => lifted os started H enc)

end Go.Proofs.Ytgnpcfafdjebeaa.lawCatGroups
