/-
  Nesting a joined layout is joining nested ones: the law FnNestCat returns true for whatever draws, and its argument reads as it did. No condition of ours.
-/
import Derived.Test.YtgnpcfafdjebeaaDrF
import Derived.Test.YtgnpcfafdjebeaaLayNS
import Derived.Test.YtgnpcfafdjebeaaLayCS
import Derived.Test.YtgnpcfafdjebeaaLaySm
import Derived.Test.YtgnpcfafdjebeaaLayQ
import Derived.Test.YtgnpcfafdjebeaaLayK
import Derived.Test.YtgnpcfafdjebeaaLawB
import Derived.Test.YtgnpcfafdjebeaaFacts
import Derived.Test.YtgnpcfafdjebeaaRows
set_option linter.unusedVariables false
set_option linter.unusedSimpArgs false
namespace Go.Proofs.Ytgnpcfafdjebeaa.lawNestCat
open Go.ChangeShapes Go.WideShapes Go.ChangeAt Go.RowKit P1 Draw6 DrE LawB

set_option maxRecDepth 100000 in
set_option maxHeartbeats 6400000 in
theorem walk_good (w : World) (a0 : Option Addr) (len0 cap0 : Nat) (hb0 : Bytes w a0 len0) (hlc0 : len0 ≤ cap0) (hcm0 : cap0 ≤ maxLen) (hl0 : len0 ≤ 1048576) :
    Calls Try.prog 5 #[.slice a0 len0 cap0] w fun e w' => e = .returned (.bool true) ∧ Below w.heap.size w w' := by
  have HD0 := Lib.hid (fun (W : World) (h : Below w.heap.size w W) => DrF.drawCat W a0 len0 cap0 (bytes_below hb0 h) hlc0 hcm0)
  clear hb0
  unfold maxLen at hcm0
  go_enter Try.func5, Try.ntmps5
  go_wp2_with fail
  refine (HD0.out _ (Below.refl _ _)).mono ?_
  rintro e1 w1 ⟨la, pa, ca, qa, lb, pb, cb, qb, rfl, hc, hc', hsma, hsmb, hs, hs', hb⟩
  have H1 := Lib.hid (show Below w.heap.size w w1 from hb)
  have Ka := Lib.hid hs
  have Ca := Lib.hid hc
  have Kb := Lib.hid hs'
  have Cb := Lib.hid hc'
  clear hs hc hs' hc' hb
  obtain ⟨⟨X, ok⟩, hr⟩ : ∃ r, catLR la lb = r := ⟨_, rfl⟩
  cases ok with
  | false =>
    obtain rfl := catLR_false hr
    have HI := Lib.hid (fun (W : World) (p : Option Addr) (c : Nat) (q : List Nat) (p' : Option Addr) (c' : Nat) (q' : List Nat) (h1 : LaySub W p la q) (h1' : LaySub W p' lb q') (h2 : la.length ≤ c) (h2' : lb.length ≤ c') => (LayC.implCatLayouts la lb W p c q h1 h2 hsma.fits.2 hsma.fits.1 p' c' q' h1' h2' hsmb.fits.2 hsmb.fits.1).mono fun e w' h => show LayN.LayOut W [] false e w' from by rw [hr] at h; exact h.out)
    have HS := Lib.hid (fun (W : World) (p : Option Addr) (c : Nat) (q : List Nat) (p' : Option Addr) (c' : Nat) (q' : List Nat) (h1 : LaySub W p la q) (h1' : LaySub W p' lb q') (h2 : la.length ≤ c) (h2' : lb.length ≤ c') => (LayC.specCatLayouts la lb W p c q h1 h2 hsma.fits.2 hsma.fits.1 p' c' q' h1' h2' hsmb.fits.2 hsmb.fits.1).mono fun e w' h => show LayN.LayOut W [] false e w' from by rw [hr] at h; exact h.out)
    have HE := Lib.hid (fun (W : World) (p : Option Addr) (c : Nat) (q : List Nat) (p' : Option Addr) (c' : Nat) (q' : List Nat) (h1 : LaySub W p [] q) (h1' : LaySub W p' [] q') (h2 : [].length ≤ c) (h2' : [].length ≤ c') => (LaySm.implLayoutSame [] [] W p c q h1 p' c' q' h1' h2 h2' Small.nil.fits.2 Small.nil.fits.2).mono fun e w' h => show e = .returned (.bool true) ∧ Below W.heap.size W w' from by rw [decide_eq_true rfl] at h; exact h)
    clear hr hsma hsmb
    go_wp2_with fail
    refine (HI.out _ _ _ _ _ _ _ Ka.out Kb.out Ca.out Cb.out).mono ?_
    rintro e1 w2 ⟨px, cx, qx, rfl, hc, hs, hfr, hb⟩
    have Kaq := Lib.hid (Ka.out.below Ka.out.lt hb)
    clear Ka
    have Ka := Lib.hid Kaq.out
    clear Kaq
    have Kbq := Lib.hid (Kb.out.below Kb.out.lt hb)
    clear Kb
    have Kb := Lib.hid Kbq.out
    clear Kbq
    have H2 := Lib.hid (show Below w.heap.size w w2 from H1.out.trans (hb.mono H1.out.size))
    have Kx := Lib.hid hs
    have Cx := Lib.hid hc
    clear hs hc hfr hb
    go_wp2_with fail
    refine (HS.out _ _ _ _ _ _ _ Ka.out Kb.out Ca.out Cb.out).mono ?_
    rintro e1 w3 ⟨pw, cw, qw, rfl, hc, hs, hfr, hb⟩
    have Kaq := Lib.hid (Ka.out.below Ka.out.lt hb)
    clear Ka
    have Ka := Lib.hid Kaq.out
    clear Kaq
    have Kbq := Lib.hid (Kb.out.below Kb.out.lt hb)
    clear Kb
    have Kb := Lib.hid Kbq.out
    clear Kbq
    have Kxq := Lib.hid (Kx.out.below Kx.out.lt hb)
    clear Kx
    have Kx := Lib.hid Kxq.out
    clear Kxq
    have H3 := Lib.hid (show Below w.heap.size w w3 from H2.out.trans (hb.mono H2.out.size))
    have Kw := Lib.hid hs
    have Cw := Lib.hid hc
    clear hs hc hfr hb
    go_wp2_with fail
    refine (HE.out _ _ _ _ _ _ _ Kx.out Kw.out Cx.out Cw.out).mono ?_
    rintro e1 w4 ⟨rfl, hb⟩
    have Kaq := Lib.hid (Ka.out.below Ka.out.lt hb)
    clear Ka
    have Ka := Lib.hid Kaq.out
    clear Kaq
    have Kbq := Lib.hid (Kb.out.below Kb.out.lt hb)
    clear Kb
    have Kb := Lib.hid Kbq.out
    clear Kbq
    have Kxq := Lib.hid (Kx.out.below Kx.out.lt hb)
    clear Kx
    have Kx := Lib.hid Kxq.out
    clear Kxq
    have Kwq := Lib.hid (Kw.out.below Kw.out.lt hb)
    clear Kw
    have Kw := Lib.hid Kwq.out
    clear Kwq
    have H4 := Lib.hid (show Below w.heap.size w w4 from H3.out.trans (hb.mono H3.out.size))
    clear hb
    go_wp2_with fail
    refine (HE.out _ _ _ _ _ _ _ Kx.out Kw.out Cx.out Cw.out).mono ?_
    rintro e1 w5 ⟨rfl, hb⟩
    have Kaq := Lib.hid (Ka.out.below Ka.out.lt hb)
    clear Ka
    have Ka := Lib.hid Kaq.out
    clear Kaq
    have Kbq := Lib.hid (Kb.out.below Kb.out.lt hb)
    clear Kb
    have Kb := Lib.hid Kbq.out
    clear Kbq
    have Kxq := Lib.hid (Kx.out.below Kx.out.lt hb)
    clear Kx
    have Kx := Lib.hid Kxq.out
    clear Kxq
    have Kwq := Lib.hid (Kw.out.below Kw.out.lt hb)
    clear Kw
    have Kw := Lib.hid Kwq.out
    clear Kwq
    have H5 := Lib.hid (show Below w.heap.size w w5 from H4.out.trans (hb.mono H4.out.size))
    clear hb
    go_wp2_with fail
    go_ret
    exact ⟨rfl, H5.out⟩
  | true =>
    obtain ⟨hva, hvb, hX, hvX⟩ := catLR_true hr
    have hsX := Small.of_lv hvX
    have HI := Lib.hid (fun (W : World) (p : Option Addr) (c : Nat) (q : List Nat) (p' : Option Addr) (c' : Nat) (q' : List Nat) (h1 : LaySub W p la q) (h1' : LaySub W p' lb q') (h2 : la.length ≤ c) (h2' : lb.length ≤ c') => (LayC.implCatLayouts la lb W p c q h1 h2 hsma.fits.2 hsma.fits.1 p' c' q' h1' h2' hsmb.fits.2 hsmb.fits.1).mono fun e w' h => show LayN.LayOut W X true e w' from by rw [hr] at h; exact h.out)
    have HS := Lib.hid (fun (W : World) (p : Option Addr) (c : Nat) (q : List Nat) (p' : Option Addr) (c' : Nat) (q' : List Nat) (h1 : LaySub W p la q) (h1' : LaySub W p' lb q') (h2 : la.length ≤ c) (h2' : lb.length ≤ c') => (LayC.specCatLayouts la lb W p c q h1 h2 hsma.fits.2 hsma.fits.1 p' c' q' h1' h2' hsmb.fits.2 hsmb.fits.1).mono fun e w' h => show LayN.LayOut W X true e w' from by rw [hr] at h; exact h.out)
    have HE := Lib.hid (fun (W : World) (p : Option Addr) (c : Nat) (q : List Nat) (p' : Option Addr) (c' : Nat) (q' : List Nat) (h1 : LaySub W p X q) (h1' : LaySub W p' X q') (h2 : X.length ≤ c) (h2' : X.length ≤ c') => (LaySm.implLayoutSame X X W p c q h1 p' c' q' h1' h2 h2' hsX.fits.2 hsX.fits.2).mono fun e w' h => show e = .returned (.bool true) ∧ Below W.heap.size W w' from by rw [decide_eq_true rfl] at h; exact h)
    obtain ⟨⟨Y1, ok1⟩, hr1⟩ : ∃ r, nestR 3 la = r := ⟨_, rfl⟩
    obtain ⟨⟨Y2, ok2⟩, hr2⟩ : ∃ r, nestR 3 lb = r := ⟨_, rfl⟩
    obtain ⟨⟨Y3, ok3⟩, hr3⟩ : ∃ r, nestR 3 X = r := ⟨_, rfl⟩
    have HN1 := Lib.hid (fun (W : World) (p : Option Addr) (c : Nat) (q : List Nat) (h1 : LaySub W p la q) (h2 : la.length ≤ c) => (LayN.implNestLayout 3 la W p c q h1 h2 hsma.fits.2 hsma.fits.1 ⟨by omega, by omega⟩).mono fun e w' h => show LayN.LayOut W Y1 ok1 e w' from by rw [hr1] at h; exact h.out)
    have HN2 := Lib.hid (fun (W : World) (p : Option Addr) (c : Nat) (q : List Nat) (h1 : LaySub W p lb q) (h2 : lb.length ≤ c) => (LayN.implNestLayout 3 lb W p c q h1 h2 hsmb.fits.2 hsmb.fits.1 ⟨by omega, by omega⟩).mono fun e w' h => show LayN.LayOut W Y2 ok2 e w' from by rw [hr2] at h; exact h.out)
    have HN3 := Lib.hid (fun (W : World) (p : Option Addr) (c : Nat) (q : List Nat) (h1 : LaySub W p X q) (h2 : X.length ≤ c) => (LayN.implNestLayout 3 X W p c q h1 h2 hsX.fits.2 hsX.fits.1 ⟨by omega, by omega⟩).mono fun e w' h => show LayN.LayOut W Y3 ok3 e w' from by rw [hr3] at h; exact h.out)
    cases ok1 with
    | false =>
      clear hr hsma hsmb hva hvb hX hvX hsX hr1 hr2 hr3
      go_wp2_with fail
      refine (HI.out _ _ _ _ _ _ _ Ka.out Kb.out Ca.out Cb.out).mono ?_
      rintro e1 w2 ⟨px, cx, qx, rfl, hc, hs, hfr, hb⟩
      have Kaq := Lib.hid (Ka.out.below Ka.out.lt hb)
      clear Ka
      have Ka := Lib.hid Kaq.out
      clear Kaq
      have Kbq := Lib.hid (Kb.out.below Kb.out.lt hb)
      clear Kb
      have Kb := Lib.hid Kbq.out
      clear Kbq
      have H2 := Lib.hid (show Below w.heap.size w w2 from H1.out.trans (hb.mono H1.out.size))
      have Kx := Lib.hid hs
      have Cx := Lib.hid hc
      clear hs hc hfr hb
      go_wp2_with fail
      refine (HS.out _ _ _ _ _ _ _ Ka.out Kb.out Ca.out Cb.out).mono ?_
      rintro e1 w3 ⟨pw, cw, qw, rfl, hc, hs, hfr, hb⟩
      have Kaq := Lib.hid (Ka.out.below Ka.out.lt hb)
      clear Ka
      have Ka := Lib.hid Kaq.out
      clear Kaq
      have Kbq := Lib.hid (Kb.out.below Kb.out.lt hb)
      clear Kb
      have Kb := Lib.hid Kbq.out
      clear Kbq
      have Kxq := Lib.hid (Kx.out.below Kx.out.lt hb)
      clear Kx
      have Kx := Lib.hid Kxq.out
      clear Kxq
      have H3 := Lib.hid (show Below w.heap.size w w3 from H2.out.trans (hb.mono H2.out.size))
      have Kw := Lib.hid hs
      have Cw := Lib.hid hc
      clear hs hc hfr hb
      go_wp2_with fail
      refine (HE.out _ _ _ _ _ _ _ Kx.out Kw.out Cx.out Cw.out).mono ?_
      rintro e1 w4 ⟨rfl, hb⟩
      have Kaq := Lib.hid (Ka.out.below Ka.out.lt hb)
      clear Ka
      have Ka := Lib.hid Kaq.out
      clear Kaq
      have Kbq := Lib.hid (Kb.out.below Kb.out.lt hb)
      clear Kb
      have Kb := Lib.hid Kbq.out
      clear Kbq
      have Kxq := Lib.hid (Kx.out.below Kx.out.lt hb)
      clear Kx
      have Kx := Lib.hid Kxq.out
      clear Kxq
      have Kwq := Lib.hid (Kw.out.below Kw.out.lt hb)
      clear Kw
      have Kw := Lib.hid Kwq.out
      clear Kwq
      have H4 := Lib.hid (show Below w.heap.size w w4 from H3.out.trans (hb.mono H3.out.size))
      clear hb
      go_wp2_with fail
      refine (HN1.out _ _ _ _ Ka.out Ca.out).mono ?_
      rintro e1 w5 ⟨py1, cy1, qy1, rfl, hc, hs, hfr, hb⟩
      have Kaq := Lib.hid (Ka.out.below Ka.out.lt hb)
      clear Ka
      have Ka := Lib.hid Kaq.out
      clear Kaq
      have Kbq := Lib.hid (Kb.out.below Kb.out.lt hb)
      clear Kb
      have Kb := Lib.hid Kbq.out
      clear Kbq
      have Kxq := Lib.hid (Kx.out.below Kx.out.lt hb)
      clear Kx
      have Kx := Lib.hid Kxq.out
      clear Kxq
      have Kwq := Lib.hid (Kw.out.below Kw.out.lt hb)
      clear Kw
      have Kw := Lib.hid Kwq.out
      clear Kwq
      have H5 := Lib.hid (show Below w.heap.size w w5 from H4.out.trans (hb.mono H4.out.size))
      have Ky1 := Lib.hid hs
      have Cy1 := Lib.hid hc
      clear hs hc hfr hb
      go_wp2_with fail
      refine (HN2.out _ _ _ _ Kb.out Cb.out).mono ?_
      rintro e1 w6 ⟨py2, cy2, qy2, rfl, hc, hs, hfr, hb⟩
      have Kaq := Lib.hid (Ka.out.below Ka.out.lt hb)
      clear Ka
      have Ka := Lib.hid Kaq.out
      clear Kaq
      have Kbq := Lib.hid (Kb.out.below Kb.out.lt hb)
      clear Kb
      have Kb := Lib.hid Kbq.out
      clear Kbq
      have Kxq := Lib.hid (Kx.out.below Kx.out.lt hb)
      clear Kx
      have Kx := Lib.hid Kxq.out
      clear Kxq
      have Kwq := Lib.hid (Kw.out.below Kw.out.lt hb)
      clear Kw
      have Kw := Lib.hid Kwq.out
      clear Kwq
      have Ky1q := Lib.hid (Ky1.out.below Ky1.out.lt hb)
      clear Ky1
      have Ky1 := Lib.hid Ky1q.out
      clear Ky1q
      have H6 := Lib.hid (show Below w.heap.size w w6 from H5.out.trans (hb.mono H5.out.size))
      have Ky2 := Lib.hid hs
      have Cy2 := Lib.hid hc
      clear hs hc hfr hb
      go_wp2_with fail
      refine (HN3.out _ _ _ _ Kx.out Cx.out).mono ?_
      rintro e1 w7 ⟨py3, cy3, qy3, rfl, hc, hs, hfr, hb⟩
      have Kaq := Lib.hid (Ka.out.below Ka.out.lt hb)
      clear Ka
      have Ka := Lib.hid Kaq.out
      clear Kaq
      have Kbq := Lib.hid (Kb.out.below Kb.out.lt hb)
      clear Kb
      have Kb := Lib.hid Kbq.out
      clear Kbq
      have Kxq := Lib.hid (Kx.out.below Kx.out.lt hb)
      clear Kx
      have Kx := Lib.hid Kxq.out
      clear Kxq
      have Kwq := Lib.hid (Kw.out.below Kw.out.lt hb)
      clear Kw
      have Kw := Lib.hid Kwq.out
      clear Kwq
      have Ky1q := Lib.hid (Ky1.out.below Ky1.out.lt hb)
      clear Ky1
      have Ky1 := Lib.hid Ky1q.out
      clear Ky1q
      have Ky2q := Lib.hid (Ky2.out.below Ky2.out.lt hb)
      clear Ky2
      have Ky2 := Lib.hid Ky2q.out
      clear Ky2q
      have H7 := Lib.hid (show Below w.heap.size w w7 from H6.out.trans (hb.mono H6.out.size))
      have Ky3 := Lib.hid hs
      have Cy3 := Lib.hid hc
      clear hs hc hfr hb
      go_wp2_with fail
      go_ret
      exact ⟨rfl, H7.out⟩
    | true =>
      cases ok2 with
      | false =>
        clear hr hsma hsmb hva hvb hX hvX hsX hr1 hr2 hr3
        go_wp2_with fail
        refine (HI.out _ _ _ _ _ _ _ Ka.out Kb.out Ca.out Cb.out).mono ?_
        rintro e1 w2 ⟨px, cx, qx, rfl, hc, hs, hfr, hb⟩
        have Kaq := Lib.hid (Ka.out.below Ka.out.lt hb)
        clear Ka
        have Ka := Lib.hid Kaq.out
        clear Kaq
        have Kbq := Lib.hid (Kb.out.below Kb.out.lt hb)
        clear Kb
        have Kb := Lib.hid Kbq.out
        clear Kbq
        have H2 := Lib.hid (show Below w.heap.size w w2 from H1.out.trans (hb.mono H1.out.size))
        have Kx := Lib.hid hs
        have Cx := Lib.hid hc
        clear hs hc hfr hb
        go_wp2_with fail
        refine (HS.out _ _ _ _ _ _ _ Ka.out Kb.out Ca.out Cb.out).mono ?_
        rintro e1 w3 ⟨pw, cw, qw, rfl, hc, hs, hfr, hb⟩
        have Kaq := Lib.hid (Ka.out.below Ka.out.lt hb)
        clear Ka
        have Ka := Lib.hid Kaq.out
        clear Kaq
        have Kbq := Lib.hid (Kb.out.below Kb.out.lt hb)
        clear Kb
        have Kb := Lib.hid Kbq.out
        clear Kbq
        have Kxq := Lib.hid (Kx.out.below Kx.out.lt hb)
        clear Kx
        have Kx := Lib.hid Kxq.out
        clear Kxq
        have H3 := Lib.hid (show Below w.heap.size w w3 from H2.out.trans (hb.mono H2.out.size))
        have Kw := Lib.hid hs
        have Cw := Lib.hid hc
        clear hs hc hfr hb
        go_wp2_with fail
        refine (HE.out _ _ _ _ _ _ _ Kx.out Kw.out Cx.out Cw.out).mono ?_
        rintro e1 w4 ⟨rfl, hb⟩
        have Kaq := Lib.hid (Ka.out.below Ka.out.lt hb)
        clear Ka
        have Ka := Lib.hid Kaq.out
        clear Kaq
        have Kbq := Lib.hid (Kb.out.below Kb.out.lt hb)
        clear Kb
        have Kb := Lib.hid Kbq.out
        clear Kbq
        have Kxq := Lib.hid (Kx.out.below Kx.out.lt hb)
        clear Kx
        have Kx := Lib.hid Kxq.out
        clear Kxq
        have Kwq := Lib.hid (Kw.out.below Kw.out.lt hb)
        clear Kw
        have Kw := Lib.hid Kwq.out
        clear Kwq
        have H4 := Lib.hid (show Below w.heap.size w w4 from H3.out.trans (hb.mono H3.out.size))
        clear hb
        go_wp2_with fail
        refine (HN1.out _ _ _ _ Ka.out Ca.out).mono ?_
        rintro e1 w5 ⟨py1, cy1, qy1, rfl, hc, hs, hfr, hb⟩
        have Kaq := Lib.hid (Ka.out.below Ka.out.lt hb)
        clear Ka
        have Ka := Lib.hid Kaq.out
        clear Kaq
        have Kbq := Lib.hid (Kb.out.below Kb.out.lt hb)
        clear Kb
        have Kb := Lib.hid Kbq.out
        clear Kbq
        have Kxq := Lib.hid (Kx.out.below Kx.out.lt hb)
        clear Kx
        have Kx := Lib.hid Kxq.out
        clear Kxq
        have Kwq := Lib.hid (Kw.out.below Kw.out.lt hb)
        clear Kw
        have Kw := Lib.hid Kwq.out
        clear Kwq
        have H5 := Lib.hid (show Below w.heap.size w w5 from H4.out.trans (hb.mono H4.out.size))
        have Ky1 := Lib.hid hs
        have Cy1 := Lib.hid hc
        clear hs hc hfr hb
        go_wp2_with fail
        refine (HN2.out _ _ _ _ Kb.out Cb.out).mono ?_
        rintro e1 w6 ⟨py2, cy2, qy2, rfl, hc, hs, hfr, hb⟩
        have Kaq := Lib.hid (Ka.out.below Ka.out.lt hb)
        clear Ka
        have Ka := Lib.hid Kaq.out
        clear Kaq
        have Kbq := Lib.hid (Kb.out.below Kb.out.lt hb)
        clear Kb
        have Kb := Lib.hid Kbq.out
        clear Kbq
        have Kxq := Lib.hid (Kx.out.below Kx.out.lt hb)
        clear Kx
        have Kx := Lib.hid Kxq.out
        clear Kxq
        have Kwq := Lib.hid (Kw.out.below Kw.out.lt hb)
        clear Kw
        have Kw := Lib.hid Kwq.out
        clear Kwq
        have Ky1q := Lib.hid (Ky1.out.below Ky1.out.lt hb)
        clear Ky1
        have Ky1 := Lib.hid Ky1q.out
        clear Ky1q
        have H6 := Lib.hid (show Below w.heap.size w w6 from H5.out.trans (hb.mono H5.out.size))
        have Ky2 := Lib.hid hs
        have Cy2 := Lib.hid hc
        clear hs hc hfr hb
        go_wp2_with fail
        refine (HN3.out _ _ _ _ Kx.out Cx.out).mono ?_
        rintro e1 w7 ⟨py3, cy3, qy3, rfl, hc, hs, hfr, hb⟩
        have Kaq := Lib.hid (Ka.out.below Ka.out.lt hb)
        clear Ka
        have Ka := Lib.hid Kaq.out
        clear Kaq
        have Kbq := Lib.hid (Kb.out.below Kb.out.lt hb)
        clear Kb
        have Kb := Lib.hid Kbq.out
        clear Kbq
        have Kxq := Lib.hid (Kx.out.below Kx.out.lt hb)
        clear Kx
        have Kx := Lib.hid Kxq.out
        clear Kxq
        have Kwq := Lib.hid (Kw.out.below Kw.out.lt hb)
        clear Kw
        have Kw := Lib.hid Kwq.out
        clear Kwq
        have Ky1q := Lib.hid (Ky1.out.below Ky1.out.lt hb)
        clear Ky1
        have Ky1 := Lib.hid Ky1q.out
        clear Ky1q
        have Ky2q := Lib.hid (Ky2.out.below Ky2.out.lt hb)
        clear Ky2
        have Ky2 := Lib.hid Ky2q.out
        clear Ky2q
        have H7 := Lib.hid (show Below w.heap.size w w7 from H6.out.trans (hb.mono H6.out.size))
        have Ky3 := Lib.hid hs
        have Cy3 := Lib.hid hc
        clear hs hc hfr hb
        go_wp2_with fail
        go_ret
        exact ⟨rfl, H7.out⟩
      | true =>
        cases ok3 with
        | false =>
          clear hr hsma hsmb hva hvb hX hvX hsX hr1 hr2 hr3
          go_wp2_with fail
          refine (HI.out _ _ _ _ _ _ _ Ka.out Kb.out Ca.out Cb.out).mono ?_
          rintro e1 w2 ⟨px, cx, qx, rfl, hc, hs, hfr, hb⟩
          have Kaq := Lib.hid (Ka.out.below Ka.out.lt hb)
          clear Ka
          have Ka := Lib.hid Kaq.out
          clear Kaq
          have Kbq := Lib.hid (Kb.out.below Kb.out.lt hb)
          clear Kb
          have Kb := Lib.hid Kbq.out
          clear Kbq
          have H2 := Lib.hid (show Below w.heap.size w w2 from H1.out.trans (hb.mono H1.out.size))
          have Kx := Lib.hid hs
          have Cx := Lib.hid hc
          clear hs hc hfr hb
          go_wp2_with fail
          refine (HS.out _ _ _ _ _ _ _ Ka.out Kb.out Ca.out Cb.out).mono ?_
          rintro e1 w3 ⟨pw, cw, qw, rfl, hc, hs, hfr, hb⟩
          have Kaq := Lib.hid (Ka.out.below Ka.out.lt hb)
          clear Ka
          have Ka := Lib.hid Kaq.out
          clear Kaq
          have Kbq := Lib.hid (Kb.out.below Kb.out.lt hb)
          clear Kb
          have Kb := Lib.hid Kbq.out
          clear Kbq
          have Kxq := Lib.hid (Kx.out.below Kx.out.lt hb)
          clear Kx
          have Kx := Lib.hid Kxq.out
          clear Kxq
          have H3 := Lib.hid (show Below w.heap.size w w3 from H2.out.trans (hb.mono H2.out.size))
          have Kw := Lib.hid hs
          have Cw := Lib.hid hc
          clear hs hc hfr hb
          go_wp2_with fail
          refine (HE.out _ _ _ _ _ _ _ Kx.out Kw.out Cx.out Cw.out).mono ?_
          rintro e1 w4 ⟨rfl, hb⟩
          have Kaq := Lib.hid (Ka.out.below Ka.out.lt hb)
          clear Ka
          have Ka := Lib.hid Kaq.out
          clear Kaq
          have Kbq := Lib.hid (Kb.out.below Kb.out.lt hb)
          clear Kb
          have Kb := Lib.hid Kbq.out
          clear Kbq
          have Kxq := Lib.hid (Kx.out.below Kx.out.lt hb)
          clear Kx
          have Kx := Lib.hid Kxq.out
          clear Kxq
          have Kwq := Lib.hid (Kw.out.below Kw.out.lt hb)
          clear Kw
          have Kw := Lib.hid Kwq.out
          clear Kwq
          have H4 := Lib.hid (show Below w.heap.size w w4 from H3.out.trans (hb.mono H3.out.size))
          clear hb
          go_wp2_with fail
          refine (HN1.out _ _ _ _ Ka.out Ca.out).mono ?_
          rintro e1 w5 ⟨py1, cy1, qy1, rfl, hc, hs, hfr, hb⟩
          have Kaq := Lib.hid (Ka.out.below Ka.out.lt hb)
          clear Ka
          have Ka := Lib.hid Kaq.out
          clear Kaq
          have Kbq := Lib.hid (Kb.out.below Kb.out.lt hb)
          clear Kb
          have Kb := Lib.hid Kbq.out
          clear Kbq
          have Kxq := Lib.hid (Kx.out.below Kx.out.lt hb)
          clear Kx
          have Kx := Lib.hid Kxq.out
          clear Kxq
          have Kwq := Lib.hid (Kw.out.below Kw.out.lt hb)
          clear Kw
          have Kw := Lib.hid Kwq.out
          clear Kwq
          have H5 := Lib.hid (show Below w.heap.size w w5 from H4.out.trans (hb.mono H4.out.size))
          have Ky1 := Lib.hid hs
          have Cy1 := Lib.hid hc
          clear hs hc hfr hb
          go_wp2_with fail
          refine (HN2.out _ _ _ _ Kb.out Cb.out).mono ?_
          rintro e1 w6 ⟨py2, cy2, qy2, rfl, hc, hs, hfr, hb⟩
          have Kaq := Lib.hid (Ka.out.below Ka.out.lt hb)
          clear Ka
          have Ka := Lib.hid Kaq.out
          clear Kaq
          have Kbq := Lib.hid (Kb.out.below Kb.out.lt hb)
          clear Kb
          have Kb := Lib.hid Kbq.out
          clear Kbq
          have Kxq := Lib.hid (Kx.out.below Kx.out.lt hb)
          clear Kx
          have Kx := Lib.hid Kxq.out
          clear Kxq
          have Kwq := Lib.hid (Kw.out.below Kw.out.lt hb)
          clear Kw
          have Kw := Lib.hid Kwq.out
          clear Kwq
          have Ky1q := Lib.hid (Ky1.out.below Ky1.out.lt hb)
          clear Ky1
          have Ky1 := Lib.hid Ky1q.out
          clear Ky1q
          have H6 := Lib.hid (show Below w.heap.size w w6 from H5.out.trans (hb.mono H5.out.size))
          have Ky2 := Lib.hid hs
          have Cy2 := Lib.hid hc
          clear hs hc hfr hb
          go_wp2_with fail
          refine (HN3.out _ _ _ _ Kx.out Cx.out).mono ?_
          rintro e1 w7 ⟨py3, cy3, qy3, rfl, hc, hs, hfr, hb⟩
          have Kaq := Lib.hid (Ka.out.below Ka.out.lt hb)
          clear Ka
          have Ka := Lib.hid Kaq.out
          clear Kaq
          have Kbq := Lib.hid (Kb.out.below Kb.out.lt hb)
          clear Kb
          have Kb := Lib.hid Kbq.out
          clear Kbq
          have Kxq := Lib.hid (Kx.out.below Kx.out.lt hb)
          clear Kx
          have Kx := Lib.hid Kxq.out
          clear Kxq
          have Kwq := Lib.hid (Kw.out.below Kw.out.lt hb)
          clear Kw
          have Kw := Lib.hid Kwq.out
          clear Kwq
          have Ky1q := Lib.hid (Ky1.out.below Ky1.out.lt hb)
          clear Ky1
          have Ky1 := Lib.hid Ky1q.out
          clear Ky1q
          have Ky2q := Lib.hid (Ky2.out.below Ky2.out.lt hb)
          clear Ky2
          have Ky2 := Lib.hid Ky2q.out
          clear Ky2q
          have H7 := Lib.hid (show Below w.heap.size w w7 from H6.out.trans (hb.mono H6.out.size))
          have Ky3 := Lib.hid hs
          have Cy3 := Lib.hid hc
          clear hs hc hfr hb
          go_wp2_with fail
          go_ret
          exact ⟨rfl, H7.out⟩
        | true =>
          obtain ⟨_, _, _, hY1, hv1⟩ := nestR_true hr1
          obtain ⟨_, _, _, hY2, hv2⟩ := nestR_true hr2
          obtain ⟨_, _, _, hY3, hv3⟩ := nestR_true hr3
          have hs1 := Small.of_lv hv1
          have hs2 := Small.of_lv hv2
          have hs3 := Small.of_lv hv3
          have hla := lv_len hva
          have hlb := lv_len hvb
          have hcn : catL Y1 Y2 = Y3 := by rw [hY1, hY2, hY3, hX]; exact catL_nest 3 (by omega) (by omega)
          have hr4 : catLR Y1 Y2 = (Y3, true) := by rw [catLR_yes hv1 hv2 (by rw [hcn]; exact hv3), hcn]
          have HC := Lib.hid (fun (W : World) (p : Option Addr) (c : Nat) (q : List Nat) (p' : Option Addr) (c' : Nat) (q' : List Nat) (h1 : LaySub W p Y1 q) (h1' : LaySub W p' Y2 q') (h2 : Y1.length ≤ c) (h2' : Y2.length ≤ c') => (LayC.implCatLayouts Y1 Y2 W p c q h1 h2 hs1.fits.2 hs1.fits.1 p' c' q' h1' h2' hs2.fits.2 hs2.fits.1).mono fun e w' h => show LayN.LayOut W Y3 true e w' from by rw [hr4] at h; exact h.out)
          have HF := Lib.hid (fun (W : World) (p : Option Addr) (c : Nat) (q : List Nat) (p' : Option Addr) (c' : Nat) (q' : List Nat) (h1 : LaySub W p Y3 q) (h1' : LaySub W p' Y3 q') (h2 : Y3.length ≤ c) (h2' : Y3.length ≤ c') => (LaySm.implLayoutSame Y3 Y3 W p c q h1 p' c' q' h1' h2 h2' hs3.fits.2 hs3.fits.2).mono fun e w' h => show e = .returned (.bool true) ∧ Below W.heap.size W w' from by rw [decide_eq_true rfl] at h; exact h)
          clear hr hsma hsmb hva hvb hX hvX hsX hr1 hr2 hr3 hY1 hv1 hY2 hv2 hY3 hv3 hs1 hs2 hs3 hla hlb hcn hr4
          go_wp2_with fail
          refine (HI.out _ _ _ _ _ _ _ Ka.out Kb.out Ca.out Cb.out).mono ?_
          rintro e1 w2 ⟨px, cx, qx, rfl, hc, hs, hfr, hb⟩
          have Kaq := Lib.hid (Ka.out.below Ka.out.lt hb)
          clear Ka
          have Ka := Lib.hid Kaq.out
          clear Kaq
          have Kbq := Lib.hid (Kb.out.below Kb.out.lt hb)
          clear Kb
          have Kb := Lib.hid Kbq.out
          clear Kbq
          have H2 := Lib.hid (show Below w.heap.size w w2 from H1.out.trans (hb.mono H1.out.size))
          have Kx := Lib.hid hs
          have Cx := Lib.hid hc
          clear hs hc hfr hb
          go_wp2_with fail
          refine (HS.out _ _ _ _ _ _ _ Ka.out Kb.out Ca.out Cb.out).mono ?_
          rintro e1 w3 ⟨pw, cw, qw, rfl, hc, hs, hfr, hb⟩
          have Kaq := Lib.hid (Ka.out.below Ka.out.lt hb)
          clear Ka
          have Ka := Lib.hid Kaq.out
          clear Kaq
          have Kbq := Lib.hid (Kb.out.below Kb.out.lt hb)
          clear Kb
          have Kb := Lib.hid Kbq.out
          clear Kbq
          have Kxq := Lib.hid (Kx.out.below Kx.out.lt hb)
          clear Kx
          have Kx := Lib.hid Kxq.out
          clear Kxq
          have H3 := Lib.hid (show Below w.heap.size w w3 from H2.out.trans (hb.mono H2.out.size))
          have Kw := Lib.hid hs
          have Cw := Lib.hid hc
          clear hs hc hfr hb
          go_wp2_with fail
          refine (HE.out _ _ _ _ _ _ _ Kx.out Kw.out Cx.out Cw.out).mono ?_
          rintro e1 w4 ⟨rfl, hb⟩
          have Kaq := Lib.hid (Ka.out.below Ka.out.lt hb)
          clear Ka
          have Ka := Lib.hid Kaq.out
          clear Kaq
          have Kbq := Lib.hid (Kb.out.below Kb.out.lt hb)
          clear Kb
          have Kb := Lib.hid Kbq.out
          clear Kbq
          have Kxq := Lib.hid (Kx.out.below Kx.out.lt hb)
          clear Kx
          have Kx := Lib.hid Kxq.out
          clear Kxq
          have Kwq := Lib.hid (Kw.out.below Kw.out.lt hb)
          clear Kw
          have Kw := Lib.hid Kwq.out
          clear Kwq
          have H4 := Lib.hid (show Below w.heap.size w w4 from H3.out.trans (hb.mono H3.out.size))
          clear hb
          go_wp2_with fail
          refine (HN1.out _ _ _ _ Ka.out Ca.out).mono ?_
          rintro e1 w5 ⟨py1, cy1, qy1, rfl, hc, hs, hfr, hb⟩
          have Kaq := Lib.hid (Ka.out.below Ka.out.lt hb)
          clear Ka
          have Ka := Lib.hid Kaq.out
          clear Kaq
          have Kbq := Lib.hid (Kb.out.below Kb.out.lt hb)
          clear Kb
          have Kb := Lib.hid Kbq.out
          clear Kbq
          have Kxq := Lib.hid (Kx.out.below Kx.out.lt hb)
          clear Kx
          have Kx := Lib.hid Kxq.out
          clear Kxq
          have Kwq := Lib.hid (Kw.out.below Kw.out.lt hb)
          clear Kw
          have Kw := Lib.hid Kwq.out
          clear Kwq
          have H5 := Lib.hid (show Below w.heap.size w w5 from H4.out.trans (hb.mono H4.out.size))
          have Ky1 := Lib.hid hs
          have Cy1 := Lib.hid hc
          clear hs hc hfr hb
          go_wp2_with fail
          refine (HN2.out _ _ _ _ Kb.out Cb.out).mono ?_
          rintro e1 w6 ⟨py2, cy2, qy2, rfl, hc, hs, hfr, hb⟩
          have Kaq := Lib.hid (Ka.out.below Ka.out.lt hb)
          clear Ka
          have Ka := Lib.hid Kaq.out
          clear Kaq
          have Kbq := Lib.hid (Kb.out.below Kb.out.lt hb)
          clear Kb
          have Kb := Lib.hid Kbq.out
          clear Kbq
          have Kxq := Lib.hid (Kx.out.below Kx.out.lt hb)
          clear Kx
          have Kx := Lib.hid Kxq.out
          clear Kxq
          have Kwq := Lib.hid (Kw.out.below Kw.out.lt hb)
          clear Kw
          have Kw := Lib.hid Kwq.out
          clear Kwq
          have Ky1q := Lib.hid (Ky1.out.below Ky1.out.lt hb)
          clear Ky1
          have Ky1 := Lib.hid Ky1q.out
          clear Ky1q
          have H6 := Lib.hid (show Below w.heap.size w w6 from H5.out.trans (hb.mono H5.out.size))
          have Ky2 := Lib.hid hs
          have Cy2 := Lib.hid hc
          clear hs hc hfr hb
          go_wp2_with fail
          refine (HN3.out _ _ _ _ Kx.out Cx.out).mono ?_
          rintro e1 w7 ⟨py3, cy3, qy3, rfl, hc, hs, hfr, hb⟩
          have Kaq := Lib.hid (Ka.out.below Ka.out.lt hb)
          clear Ka
          have Ka := Lib.hid Kaq.out
          clear Kaq
          have Kbq := Lib.hid (Kb.out.below Kb.out.lt hb)
          clear Kb
          have Kb := Lib.hid Kbq.out
          clear Kbq
          have Kxq := Lib.hid (Kx.out.below Kx.out.lt hb)
          clear Kx
          have Kx := Lib.hid Kxq.out
          clear Kxq
          have Kwq := Lib.hid (Kw.out.below Kw.out.lt hb)
          clear Kw
          have Kw := Lib.hid Kwq.out
          clear Kwq
          have Ky1q := Lib.hid (Ky1.out.below Ky1.out.lt hb)
          clear Ky1
          have Ky1 := Lib.hid Ky1q.out
          clear Ky1q
          have Ky2q := Lib.hid (Ky2.out.below Ky2.out.lt hb)
          clear Ky2
          have Ky2 := Lib.hid Ky2q.out
          clear Ky2q
          have H7 := Lib.hid (show Below w.heap.size w w7 from H6.out.trans (hb.mono H6.out.size))
          have Ky3 := Lib.hid hs
          have Cy3 := Lib.hid hc
          clear hs hc hfr hb
          go_wp2_with fail
          refine (HC.out _ _ _ _ _ _ _ Ky1.out Ky2.out Cy1.out Cy2.out).mono ?_
          rintro e1 w8 ⟨pv, cv, qv, rfl, hc, hs, hfr, hb⟩
          have Kaq := Lib.hid (Ka.out.below Ka.out.lt hb)
          clear Ka
          have Ka := Lib.hid Kaq.out
          clear Kaq
          have Kbq := Lib.hid (Kb.out.below Kb.out.lt hb)
          clear Kb
          have Kb := Lib.hid Kbq.out
          clear Kbq
          have Kxq := Lib.hid (Kx.out.below Kx.out.lt hb)
          clear Kx
          have Kx := Lib.hid Kxq.out
          clear Kxq
          have Kwq := Lib.hid (Kw.out.below Kw.out.lt hb)
          clear Kw
          have Kw := Lib.hid Kwq.out
          clear Kwq
          have Ky1q := Lib.hid (Ky1.out.below Ky1.out.lt hb)
          clear Ky1
          have Ky1 := Lib.hid Ky1q.out
          clear Ky1q
          have Ky2q := Lib.hid (Ky2.out.below Ky2.out.lt hb)
          clear Ky2
          have Ky2 := Lib.hid Ky2q.out
          clear Ky2q
          have Ky3q := Lib.hid (Ky3.out.below Ky3.out.lt hb)
          clear Ky3
          have Ky3 := Lib.hid Ky3q.out
          clear Ky3q
          have H8 := Lib.hid (show Below w.heap.size w w8 from H7.out.trans (hb.mono H7.out.size))
          have Kv := Lib.hid hs
          have Cv := Lib.hid hc
          clear hs hc hfr hb
          go_wp2_with fail
          refine (HF.out _ _ _ _ _ _ _ Kv.out Ky3.out Cv.out Cy3.out).mono ?_
          rintro e1 w9 ⟨rfl, hb⟩
          have Kaq := Lib.hid (Ka.out.below Ka.out.lt hb)
          clear Ka
          have Ka := Lib.hid Kaq.out
          clear Kaq
          have Kbq := Lib.hid (Kb.out.below Kb.out.lt hb)
          clear Kb
          have Kb := Lib.hid Kbq.out
          clear Kbq
          have Kxq := Lib.hid (Kx.out.below Kx.out.lt hb)
          clear Kx
          have Kx := Lib.hid Kxq.out
          clear Kxq
          have Kwq := Lib.hid (Kw.out.below Kw.out.lt hb)
          clear Kw
          have Kw := Lib.hid Kwq.out
          clear Kwq
          have Ky1q := Lib.hid (Ky1.out.below Ky1.out.lt hb)
          clear Ky1
          have Ky1 := Lib.hid Ky1q.out
          clear Ky1q
          have Ky2q := Lib.hid (Ky2.out.below Ky2.out.lt hb)
          clear Ky2
          have Ky2 := Lib.hid Ky2q.out
          clear Ky2q
          have Ky3q := Lib.hid (Ky3.out.below Ky3.out.lt hb)
          clear Ky3
          have Ky3 := Lib.hid Ky3q.out
          clear Ky3q
          have Kvq := Lib.hid (Kv.out.below Kv.out.lt hb)
          clear Kv
          have Kv := Lib.hid Kvq.out
          clear Kvq
          have H9 := Lib.hid (show Below w.heap.size w w9 from H8.out.trans (hb.mono H8.out.size))
          clear hb
          go_wp2_with fail
          go_ret
          exact ⟨rfl, H9.out⟩

set_option maxHeartbeats 800000 in
theorem walk_big (w : World) (a0 : Option Addr) (len0 cap0 : Nat) (hlc0 : len0 ≤ cap0) (hcm0 : cap0 ≤ maxLen) (hbig : 1048576 < len0) :
    Calls Try.prog 5 #[.slice a0 len0 cap0] w fun e w' => e = .returned (.bool true) ∧ Below w.heap.size w w' := by
  unfold maxLen at hcm0
  go_enter Try.func5, Try.ntmps5
  go_wp2_with fail
  go_ret
  exact ⟨rfl, Below.refl _ _⟩

theorem walk (w : World) (a0 : Option Addr) (len0 cap0 : Nat) (hb0 : Bytes w a0 len0) (hlc0 : len0 ≤ cap0) (hcm0 : cap0 ≤ maxLen) :
    Calls Try.prog 5 #[.slice a0 len0 cap0] w fun e w' => e = .returned (.bool true) ∧ Below w.heap.size w w' := by
  by_cases hbig : 1048576 < len0
  · exact walk_big w a0 len0 cap0 hlc0 hcm0 hbig
  · exact walk_good w a0 len0 cap0 hb0 hlc0 hcm0 (by omega)

set_option maxRecDepth 100000 in
theorem lifted (os : Os) (started : os.Started) (H : Type) (enc : TypeId × Value → H) :
    ReturnsInHanded {} Try.checked os 5 .any (Rows.fnNestCatSpec.pre6 enc Try.prog Try.f5 Rows.fnNestCatRow.domain false) (Rows.fnNestCatSpec.post enc Try.prog Try.f5 false true false false) := by
  refine returnsInHanded_of_change (C := Try.checked) Facts.own started (by kernel_rfl) Try.func5
    (ChangeSpec.witness6 (enc := enc) (C := Try.checked) false ⟨#[], #[.slice none 0 0], []⟩ 8 (by kernel_rfl) (by kernel_rfl) (by kernel_rfl) (by kernel_rfl)) ?_
  intro W base args ds gs before hval0 hW hcnd0 _
  clear hcnd0
  have hval : ∀ (j : Nat) t v, Try.f5.params[j]? = some t → args[j]? = some v → Value.okWide Try.prog W .any base t v := hval0
  have hW' := hW
  obtain ⟨p, q, hA0, hV, rfl, hfz, hnd⟩ := hW
  have hA : DataW.TrodAll enc Try.prog W 0 (fun _ => true) true Try.f5.params.toList args.toList ds p := hA0
  rw [Try.params5] at hA hval
  obtain ⟨v0, d0, rfl, rfl, h0⟩ := trodAll_one hA
  obtain ⟨rfl, rfl⟩ := trodVars_none hV
  obtain ⟨a0, len0, cap0, rfl⟩ := okWide_slice Try.underlying22 (hval 0 22 v0 rfl rfl)
  clear hA0 hval0
  simp only [List.append_nil] at hW'
  have hlt : ∀ x ∈ p, x.block < W.heap.size := fun x hx => by simpa using hW'.lt x hx
  obtain ⟨hb0, hlc0, hcm0⟩ := opened h0
  refine (walk W a0 len0 cap0 hb0 hlc0 hcm0).mono fun e W' ⟨he, hb⟩ => ?_
  subst he
  refine ⟨_, rfl, [_], [], p, [], p, [], hW', trodAll_mk1 (shut_bool Try.underlying4 _), ?_, rfl, hb.frame _, fun h => by cases h⟩
  exact trodAll_mk1 (Below.trod Facts.laidOut (by kernel_rfl) (of_decide_eq_true (by kernel_rfl)) h0 hb hlt)

theorem named : Try.prog.funcNamed Rows.fnNestCatRow.func = some 5 := by kernel_rfl
theorem closed : joinedFacts Try.prog 5 Try.f5 Rows.fnNestCatSpec Rows.fnNestCatRow = true :=
  Facts.closed_of rfl rfl rfl rfl (h28b := rfl) (by kernel_rfl) (by kernel_rfl) (by kernel_rfl) (by kernel_rfl) (by kernel_rfl) (by kernel_rfl) (by kernel_rfl) (by kernel_rfl) (by kernel_rfl) (by kernel_rfl) (by kernel_rfl) (by kernel_rfl) (by kernel_rfl) (by kernel_rfl) (by kernel_rfl) (by kernel_rfl) (by kernel_rfl) (by kernel_rfl) (by kernel_rfl) (by kernel_rfl) (by kernel_rfl) (by kernel_rfl) (by kernel_rfl) (by kernel_rfl)
theorem instanced : Try.f5.isInstance Try.prog Rows.fnNestCatRow.origin Rows.fnNestCatRow.targs := of_decide_eq_true (by kernel_rfl)
theorem wrapped : Try.f5.isWrapper Try.prog Rows.fnNestCatRow.wrapper Rows.fnNestCatRow.mainSum := by
  unfold Func.isWrapper
  rw [if_neg (of_decide_eq_false (by kernel_rfl))]
  exact ⟨rfl, rfl⟩

theorem holds : Rows.FnNestCatSaid :=
  OpenClaim.holds_of_wide 5 Try.f5 rfl rfl rfl rfl rfl rfl rfl ⟨rfl, rfl, rfl, rfl, rfl⟩ rfl rfl rfl rfl rfl named Try.func5 closed instanced wrapped
    (fun os started H enc _ => lifted os started H enc)

end Go.Proofs.Ytgnpcfafdjebeaa.lawNestCat
