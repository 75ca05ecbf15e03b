/-
  A layout with one empty line changes none that it is joined with: the law FnCatEmpty returns true for whatever draws, and its argument reads as it did. No condition of ours.
-/
import Derived.Test.YtgnpcfafdjebeaaDrF
import Derived.Test.YtgnpcfafdjebeaaLayCS
import Derived.Test.YtgnpcfafdjebeaaLaySm
import Derived.Test.YtgnpcfafdjebeaaLayQ
import Derived.Test.YtgnpcfafdjebeaaLayK
import Derived.Test.YtgnpcfafdjebeaaOpenS
import Derived.Test.YtgnpcfafdjebeaaLawB
import Derived.Test.YtgnpcfafdjebeaaFacts
import Derived.Test.YtgnpcfafdjebeaaRows
set_option linter.unusedVariables false
set_option linter.unusedSimpArgs false
namespace Go.Proofs.Ytgnpcfafdjebeaa.lawCatEmpty
open Go.ChangeShapes Go.WideShapes Go.ChangeAt Go.RowKit P1 Draw6 DrE LawB

set_option maxRecDepth 100000 in
set_option maxHeartbeats 6400000 in
theorem walk_good (w : World) (a0 : Option Addr) (len0 cap0 : Nat) (hb0 : Bytes w a0 len0) (hlc0 : len0 ≤ cap0) (hcm0 : cap0 ≤ maxLen) (hl0 : len0 ≤ 1048576) :
    Calls Try.prog 11 #[.slice a0 len0 cap0] w fun e w' => e = .returned (.bool true) ∧ Below w.heap.size w w' := by
  have HD0 := Lib.hid (fun (W : World) (h : Below w.heap.size w W) => DrF.drawCat W a0 len0 cap0 (bytes_below hb0 h) hlc0 hcm0)
  clear hb0
  unfold maxLen at hcm0
  go_enter Try.func11, Try.ntmps11
  go_wp2_with fail
  refine (HD0.out _ (Below.refl _ _)).mono ?_
  rintro e1 w1 ⟨la, pa, ca, qa, lb, pb, cb, qb, rfl, hc, hc', hsma, hsmb, hs, hs', hb⟩
  have H1 := Lib.hid (show Below w.heap.size w w1 from hb)
  have Ka := Lib.hid hs
  have Ca := Lib.hid hc
  have Kb := Lib.hid hs'
  have Cb := Lib.hid hc'
  clear hs hc hs' hc' hb
  obtain ⟨⟨X, ok⟩, hr⟩ : ∃ r, catLR la lb = r := ⟨_, rfl⟩
  have hsX : Small X := by
    cases ok with
    | false => obtain rfl := catLR_false hr; exact Small.nil
    | true => exact Small.of_lv (catLR_true hr).2.2.2
  have hso : Small [(0, ⟨#[]⟩)] := Small.of_lv lv_empty
  have hokk : (ok != ok) = false := by simp
  have HI := Lib.hid (fun (W : World) (p : Option Addr) (c : Nat) (q : List Nat) (p' : Option Addr) (c' : Nat) (q' : List Nat) (h1 : LaySub W p la q) (h1' : LaySub W p' lb q') (h2 : la.length ≤ c) (h2' : lb.length ≤ c') => (LayC.implCatLayouts la lb W p c q h1 h2 hsma.fits.2 hsma.fits.1 p' c' q' h1' h2' hsmb.fits.2 hsmb.fits.1).mono fun e w' h => show LayN.LayOut W X ok e w' from by rw [hr] at h; exact h.out)
  have HS := Lib.hid (fun (W : World) (p : Option Addr) (c : Nat) (q : List Nat) (p' : Option Addr) (c' : Nat) (q' : List Nat) (h1 : LaySub W p la q) (h1' : LaySub W p' lb q') (h2 : la.length ≤ c) (h2' : lb.length ≤ c') => (LayC.specCatLayouts la lb W p c q h1 h2 hsma.fits.2 hsma.fits.1 p' c' q' h1' h2' hsmb.fits.2 hsmb.fits.1).mono fun e w' h => show LayN.LayOut W X ok e w' from by rw [hr] at h; exact h.out)
  have HE := Lib.hid (fun (W : World) (p : Option Addr) (c : Nat) (q : List Nat) (p' : Option Addr) (c' : Nat) (q' : List Nat) (h1 : LaySub W p X q) (h1' : LaySub W p' X q') (h2 : X.length ≤ c) (h2' : X.length ≤ c') => (LaySm.implLayoutSame X X W p c q h1 p' c' q' h1' h2 h2' hsX.fits.2 hsX.fits.2).mono fun e w' h => show e = .returned (.bool true) ∧ Below W.heap.size W w' from by rw [decide_eq_true rfl] at h; exact h)
  cases hva : lv la with
  | false =>
    have hr1 : catLR [(0, ⟨#[]⟩)] la = ([], false) := catLR_no2 _ hva
    have hr2 : catLR la [(0, ⟨#[]⟩)] = ([], false) := catLR_no1 hva _
    have HC1 := Lib.hid (fun (W : World) (p : Option Addr) (c : Nat) (q : List Nat) (p' : Option Addr) (c' : Nat) (q' : List Nat) (h1 : LaySub W p [(0, ⟨#[]⟩)] q) (h1' : LaySub W p' la q') (h2 : [(0, ⟨#[]⟩)].length ≤ c) (h2' : la.length ≤ c') => (LayC.implCatLayouts [(0, ⟨#[]⟩)] la W p c q h1 h2 hso.fits.2 hso.fits.1 p' c' q' h1' h2' hsma.fits.2 hsma.fits.1).mono fun e w' h => show LayN.LayOut W [] false e w' from by rw [hr1] at h; exact h.out)
    have HC2 := Lib.hid (fun (W : World) (p : Option Addr) (c : Nat) (q : List Nat) (p' : Option Addr) (c' : Nat) (q' : List Nat) (h1 : LaySub W p la q) (h1' : LaySub W p' [(0, ⟨#[]⟩)] q') (h2 : la.length ≤ c) (h2' : [(0, ⟨#[]⟩)].length ≤ c') => (LayC.implCatLayouts la [(0, ⟨#[]⟩)] W p c q h1 h2 hsma.fits.2 hsma.fits.1 p' c' q' h1' h2' hso.fits.2 hso.fits.1).mono fun e w' h => show LayN.LayOut W [] false e w' from by rw [hr2] at h; exact h.out)
    have HV := Lib.hid (fun (W : World) (p : Option Addr) (c : Nat) (q : List Nat) (h1 : LaySub W p la q) (h2 : la.length ≤ c) => (LayV.implLayoutValid la W p c q h1 h2 hsma.fits.2 hsma.fits.1).mono fun e w' h => show e = .returned (.bool false) ∧ Below W.heap.size W w' from by rw [hva] at h; exact h)
    clear hr hsma hsmb hsX hso hva hr1 hr2
    go_wp2_with fail
    refine (HI.out _ _ _ _ _ _ _ Ka.out Kb.out Ca.out Cb.out).mono ?_
    rintro e1 w2 ⟨px, cx, qx, rfl, hc, hs, hfr, hb⟩
    have Kaq := Lib.hid (Ka.out.below Ka.out.lt hb)
    clear Ka
    have Ka := Lib.hid Kaq.out
    clear Kaq
    have Kbq := Lib.hid (Kb.out.below Kb.out.lt hb)
    clear Kb
    have Kb := Lib.hid Kbq.out
    clear Kbq
    have H2 := Lib.hid (show Below w.heap.size w w2 from H1.out.trans (hb.mono H1.out.size))
    have Kx := Lib.hid hs
    have Cx := Lib.hid hc
    clear hs hc hfr hb
    go_wp2_with fail
    refine (HS.out _ _ _ _ _ _ _ Ka.out Kb.out Ca.out Cb.out).mono ?_
    rintro e1 w3 ⟨pw, cw, qw, rfl, hc, hs, hfr, hb⟩
    have Kaq := Lib.hid (Ka.out.below Ka.out.lt hb)
    clear Ka
    have Ka := Lib.hid Kaq.out
    clear Kaq
    have Kbq := Lib.hid (Kb.out.below Kb.out.lt hb)
    clear Kb
    have Kb := Lib.hid Kbq.out
    clear Kbq
    have Kxq := Lib.hid (Kx.out.below Kx.out.lt hb)
    clear Kx
    have Kx := Lib.hid Kxq.out
    clear Kxq
    have H3 := Lib.hid (show Below w.heap.size w w3 from H2.out.trans (hb.mono H2.out.size))
    have Kw := Lib.hid hs
    have Cw := Lib.hid hc
    clear hs hc hfr hb
    go_wp2_with fail
    refine (HE.out _ _ _ _ _ _ _ Kx.out Kw.out Cx.out Cw.out).mono ?_
    rintro e1 w4 ⟨rfl, hb⟩
    have Kaq := Lib.hid (Ka.out.below Ka.out.lt hb)
    clear Ka
    have Ka := Lib.hid Kaq.out
    clear Kaq
    have Kbq := Lib.hid (Kb.out.below Kb.out.lt hb)
    clear Kb
    have Kb := Lib.hid Kbq.out
    clear Kbq
    have Kxq := Lib.hid (Kx.out.below Kx.out.lt hb)
    clear Kx
    have Kx := Lib.hid Kxq.out
    clear Kxq
    have Kwq := Lib.hid (Kw.out.below Kw.out.lt hb)
    clear Kw
    have Kw := Lib.hid Kwq.out
    clear Kwq
    have H4 := Lib.hid (show Below w.heap.size w w4 from H3.out.trans (hb.mono H3.out.size))
    have hO := one_new w4 31
    obtain ⟨w5, hW⟩ : ∃ W, w4.alloc (.cells #[.int .i64 0, .string ⟨#[]⟩] 31) = W := ⟨_, rfl⟩
    have hA : Below w4.heap.size w4 w5 := hW ▸ (Below.refl _ _).alloc (Nat.le_refl _) _
    rw [hW] at hO
    clear hb
    go_wp2_with fail
    try rw [hW]
    have Kaq := Lib.hid (Ka.out.below Ka.out.lt hA)
    clear Ka
    have Ka := Lib.hid Kaq.out
    clear Kaq
    have Kbq := Lib.hid (Kb.out.below Kb.out.lt hA)
    clear Kb
    have Kb := Lib.hid Kbq.out
    clear Kbq
    have Kxq := Lib.hid (Kx.out.below Kx.out.lt hA)
    clear Kx
    have Kx := Lib.hid Kxq.out
    clear Kxq
    have Kwq := Lib.hid (Kw.out.below Kw.out.lt hA)
    clear Kw
    have Kw := Lib.hid Kwq.out
    clear Kwq
    have H5 := Lib.hid (show Below w.heap.size w w5 from H4.out.trans (hA.mono H4.out.size))
    have Ko := Lib.hid hO
    have Co := Lib.hid (show ([(0, ⟨#[]⟩)] : List (Int × ByteArray)).length ≤ 1 from Nat.le_refl _)
    clear hO hA hW
    refine (HC1.out _ _ _ _ _ _ _ Ko.out Ka.out Co.out Ca.out).mono ?_
    rintro e1 w6 ⟨py, cy, qy, rfl, hc, hs, hfr, hb⟩
    have Kaq := Lib.hid (Ka.out.below Ka.out.lt hb)
    clear Ka
    have Ka := Lib.hid Kaq.out
    clear Kaq
    have Kbq := Lib.hid (Kb.out.below Kb.out.lt hb)
    clear Kb
    have Kb := Lib.hid Kbq.out
    clear Kbq
    have Kxq := Lib.hid (Kx.out.below Kx.out.lt hb)
    clear Kx
    have Kx := Lib.hid Kxq.out
    clear Kxq
    have Kwq := Lib.hid (Kw.out.below Kw.out.lt hb)
    clear Kw
    have Kw := Lib.hid Kwq.out
    clear Kwq
    have Koq := Lib.hid (Ko.out.below Ko.out.lt hb)
    clear Ko
    have Ko := Lib.hid Koq.out
    clear Koq
    have H6 := Lib.hid (show Below w.heap.size w w6 from H5.out.trans (hb.mono H5.out.size))
    have Ky := Lib.hid hs
    have Cy := Lib.hid hc
    clear hs hc hfr hb
    go_wp2_with fail
    refine (HC2.out _ _ _ _ _ _ _ Ka.out Ko.out Ca.out Co.out).mono ?_
    rintro e1 w7 ⟨pz, cz, qz, rfl, hc, hs, hfr, hb⟩
    have Kaq := Lib.hid (Ka.out.below Ka.out.lt hb)
    clear Ka
    have Ka := Lib.hid Kaq.out
    clear Kaq
    have Kbq := Lib.hid (Kb.out.below Kb.out.lt hb)
    clear Kb
    have Kb := Lib.hid Kbq.out
    clear Kbq
    have Kxq := Lib.hid (Kx.out.below Kx.out.lt hb)
    clear Kx
    have Kx := Lib.hid Kxq.out
    clear Kxq
    have Kwq := Lib.hid (Kw.out.below Kw.out.lt hb)
    clear Kw
    have Kw := Lib.hid Kwq.out
    clear Kwq
    have Koq := Lib.hid (Ko.out.below Ko.out.lt hb)
    clear Ko
    have Ko := Lib.hid Koq.out
    clear Koq
    have Kyq := Lib.hid (Ky.out.below Ky.out.lt hb)
    clear Ky
    have Ky := Lib.hid Kyq.out
    clear Kyq
    have H7 := Lib.hid (show Below w.heap.size w w7 from H6.out.trans (hb.mono H6.out.size))
    have Kz := Lib.hid hs
    have Cz := Lib.hid hc
    clear hs hc hfr hb
    go_wp2_with fail
    refine (HV.out _ _ _ _ Ka.out Ca.out).mono ?_
    rintro e1 w8 ⟨rfl, hb⟩
    have Kaq := Lib.hid (Ka.out.below Ka.out.lt hb)
    clear Ka
    have Ka := Lib.hid Kaq.out
    clear Kaq
    have Kbq := Lib.hid (Kb.out.below Kb.out.lt hb)
    clear Kb
    have Kb := Lib.hid Kbq.out
    clear Kbq
    have Kxq := Lib.hid (Kx.out.below Kx.out.lt hb)
    clear Kx
    have Kx := Lib.hid Kxq.out
    clear Kxq
    have Kwq := Lib.hid (Kw.out.below Kw.out.lt hb)
    clear Kw
    have Kw := Lib.hid Kwq.out
    clear Kwq
    have Koq := Lib.hid (Ko.out.below Ko.out.lt hb)
    clear Ko
    have Ko := Lib.hid Koq.out
    clear Koq
    have Kyq := Lib.hid (Ky.out.below Ky.out.lt hb)
    clear Ky
    have Ky := Lib.hid Kyq.out
    clear Kyq
    have Kzq := Lib.hid (Kz.out.below Kz.out.lt hb)
    clear Kz
    have Kz := Lib.hid Kzq.out
    clear Kzq
    have H8 := Lib.hid (show Below w.heap.size w w8 from H7.out.trans (hb.mono H7.out.size))
    clear hb
    go_wp2_with fail
    go_ret
    exact ⟨rfl, H8.out⟩
  | true =>
    have hr1 := catLR_left hva
    have hr2 := catLR_right hva
    have HC1 := Lib.hid (fun (W : World) (p : Option Addr) (c : Nat) (q : List Nat) (p' : Option Addr) (c' : Nat) (q' : List Nat) (h1 : LaySub W p [(0, ⟨#[]⟩)] q) (h1' : LaySub W p' la q') (h2 : [(0, ⟨#[]⟩)].length ≤ c) (h2' : la.length ≤ c') => (LayC.implCatLayouts [(0, ⟨#[]⟩)] la W p c q h1 h2 hso.fits.2 hso.fits.1 p' c' q' h1' h2' hsma.fits.2 hsma.fits.1).mono fun e w' h => show LayN.LayOut W la true e w' from by rw [hr1] at h; exact h.out)
    have HC2 := Lib.hid (fun (W : World) (p : Option Addr) (c : Nat) (q : List Nat) (p' : Option Addr) (c' : Nat) (q' : List Nat) (h1 : LaySub W p la q) (h1' : LaySub W p' [(0, ⟨#[]⟩)] q') (h2 : la.length ≤ c) (h2' : [(0, ⟨#[]⟩)].length ≤ c') => (LayC.implCatLayouts la [(0, ⟨#[]⟩)] W p c q h1 h2 hsma.fits.2 hsma.fits.1 p' c' q' h1' h2' hso.fits.2 hso.fits.1).mono fun e w' h => show LayN.LayOut W la true e w' from by rw [hr2] at h; exact h.out)
    have HV := Lib.hid (fun (W : World) (p : Option Addr) (c : Nat) (q : List Nat) (h1 : LaySub W p la q) (h2 : la.length ≤ c) => (LayV.implLayoutValid la W p c q h1 h2 hsma.fits.2 hsma.fits.1).mono fun e w' h => show e = .returned (.bool true) ∧ Below W.heap.size W w' from by rw [hva] at h; exact h)
    have HL := Lib.hid (fun (W : World) (p : Option Addr) (c : Nat) (q : List Nat) (p' : Option Addr) (c' : Nat) (q' : List Nat) (h1 : LaySub W p la q) (h1' : LaySub W p' la q') (h2 : la.length ≤ c) (h2' : la.length ≤ c') => (LaySm.implLayoutSame la la W p c q h1 p' c' q' h1' h2 h2' hsma.fits.2 hsma.fits.2).mono fun e w' h => show e = .returned (.bool true) ∧ Below W.heap.size W w' from by rw [decide_eq_true rfl] at h; exact h)
    clear hr hsma hsmb hsX hso hva hr1 hr2
    go_wp2_with fail
    refine (HI.out _ _ _ _ _ _ _ Ka.out Kb.out Ca.out Cb.out).mono ?_
    rintro e1 w2 ⟨px, cx, qx, rfl, hc, hs, hfr, hb⟩
    have Kaq := Lib.hid (Ka.out.below Ka.out.lt hb)
    clear Ka
    have Ka := Lib.hid Kaq.out
    clear Kaq
    have Kbq := Lib.hid (Kb.out.below Kb.out.lt hb)
    clear Kb
    have Kb := Lib.hid Kbq.out
    clear Kbq
    have H2 := Lib.hid (show Below w.heap.size w w2 from H1.out.trans (hb.mono H1.out.size))
    have Kx := Lib.hid hs
    have Cx := Lib.hid hc
    clear hs hc hfr hb
    go_wp2_with fail
    refine (HS.out _ _ _ _ _ _ _ Ka.out Kb.out Ca.out Cb.out).mono ?_
    rintro e1 w3 ⟨pw, cw, qw, rfl, hc, hs, hfr, hb⟩
    have Kaq := Lib.hid (Ka.out.below Ka.out.lt hb)
    clear Ka
    have Ka := Lib.hid Kaq.out
    clear Kaq
    have Kbq := Lib.hid (Kb.out.below Kb.out.lt hb)
    clear Kb
    have Kb := Lib.hid Kbq.out
    clear Kbq
    have Kxq := Lib.hid (Kx.out.below Kx.out.lt hb)
    clear Kx
    have Kx := Lib.hid Kxq.out
    clear Kxq
    have H3 := Lib.hid (show Below w.heap.size w w3 from H2.out.trans (hb.mono H2.out.size))
    have Kw := Lib.hid hs
    have Cw := Lib.hid hc
    clear hs hc hfr hb
    go_wp2_with fail
    refine (HE.out _ _ _ _ _ _ _ Kx.out Kw.out Cx.out Cw.out).mono ?_
    rintro e1 w4 ⟨rfl, hb⟩
    have Kaq := Lib.hid (Ka.out.below Ka.out.lt hb)
    clear Ka
    have Ka := Lib.hid Kaq.out
    clear Kaq
    have Kbq := Lib.hid (Kb.out.below Kb.out.lt hb)
    clear Kb
    have Kb := Lib.hid Kbq.out
    clear Kbq
    have Kxq := Lib.hid (Kx.out.below Kx.out.lt hb)
    clear Kx
    have Kx := Lib.hid Kxq.out
    clear Kxq
    have Kwq := Lib.hid (Kw.out.below Kw.out.lt hb)
    clear Kw
    have Kw := Lib.hid Kwq.out
    clear Kwq
    have H4 := Lib.hid (show Below w.heap.size w w4 from H3.out.trans (hb.mono H3.out.size))
    have hO := one_new w4 31
    obtain ⟨w5, hW⟩ : ∃ W, w4.alloc (.cells #[.int .i64 0, .string ⟨#[]⟩] 31) = W := ⟨_, rfl⟩
    have hA : Below w4.heap.size w4 w5 := hW ▸ (Below.refl _ _).alloc (Nat.le_refl _) _
    rw [hW] at hO
    clear hb
    go_wp2_with fail
    try rw [hW]
    have Kaq := Lib.hid (Ka.out.below Ka.out.lt hA)
    clear Ka
    have Ka := Lib.hid Kaq.out
    clear Kaq
    have Kbq := Lib.hid (Kb.out.below Kb.out.lt hA)
    clear Kb
    have Kb := Lib.hid Kbq.out
    clear Kbq
    have Kxq := Lib.hid (Kx.out.below Kx.out.lt hA)
    clear Kx
    have Kx := Lib.hid Kxq.out
    clear Kxq
    have Kwq := Lib.hid (Kw.out.below Kw.out.lt hA)
    clear Kw
    have Kw := Lib.hid Kwq.out
    clear Kwq
    have H5 := Lib.hid (show Below w.heap.size w w5 from H4.out.trans (hA.mono H4.out.size))
    have Ko := Lib.hid hO
    have Co := Lib.hid (show ([(0, ⟨#[]⟩)] : List (Int × ByteArray)).length ≤ 1 from Nat.le_refl _)
    clear hO hA hW
    refine (HC1.out _ _ _ _ _ _ _ Ko.out Ka.out Co.out Ca.out).mono ?_
    rintro e1 w6 ⟨py, cy, qy, rfl, hc, hs, hfr, hb⟩
    have Kaq := Lib.hid (Ka.out.below Ka.out.lt hb)
    clear Ka
    have Ka := Lib.hid Kaq.out
    clear Kaq
    have Kbq := Lib.hid (Kb.out.below Kb.out.lt hb)
    clear Kb
    have Kb := Lib.hid Kbq.out
    clear Kbq
    have Kxq := Lib.hid (Kx.out.below Kx.out.lt hb)
    clear Kx
    have Kx := Lib.hid Kxq.out
    clear Kxq
    have Kwq := Lib.hid (Kw.out.below Kw.out.lt hb)
    clear Kw
    have Kw := Lib.hid Kwq.out
    clear Kwq
    have Koq := Lib.hid (Ko.out.below Ko.out.lt hb)
    clear Ko
    have Ko := Lib.hid Koq.out
    clear Koq
    have H6 := Lib.hid (show Below w.heap.size w w6 from H5.out.trans (hb.mono H5.out.size))
    have Ky := Lib.hid hs
    have Cy := Lib.hid hc
    clear hs hc hfr hb
    go_wp2_with fail
    refine (HC2.out _ _ _ _ _ _ _ Ka.out Ko.out Ca.out Co.out).mono ?_
    rintro e1 w7 ⟨pz, cz, qz, rfl, hc, hs, hfr, hb⟩
    have Kaq := Lib.hid (Ka.out.below Ka.out.lt hb)
    clear Ka
    have Ka := Lib.hid Kaq.out
    clear Kaq
    have Kbq := Lib.hid (Kb.out.below Kb.out.lt hb)
    clear Kb
    have Kb := Lib.hid Kbq.out
    clear Kbq
    have Kxq := Lib.hid (Kx.out.below Kx.out.lt hb)
    clear Kx
    have Kx := Lib.hid Kxq.out
    clear Kxq
    have Kwq := Lib.hid (Kw.out.below Kw.out.lt hb)
    clear Kw
    have Kw := Lib.hid Kwq.out
    clear Kwq
    have Koq := Lib.hid (Ko.out.below Ko.out.lt hb)
    clear Ko
    have Ko := Lib.hid Koq.out
    clear Koq
    have Kyq := Lib.hid (Ky.out.below Ky.out.lt hb)
    clear Ky
    have Ky := Lib.hid Kyq.out
    clear Kyq
    have H7 := Lib.hid (show Below w.heap.size w w7 from H6.out.trans (hb.mono H6.out.size))
    have Kz := Lib.hid hs
    have Cz := Lib.hid hc
    clear hs hc hfr hb
    go_wp2_with fail
    refine (HV.out _ _ _ _ Ka.out Ca.out).mono ?_
    rintro e1 w8 ⟨rfl, hb⟩
    have Kaq := Lib.hid (Ka.out.below Ka.out.lt hb)
    clear Ka
    have Ka := Lib.hid Kaq.out
    clear Kaq
    have Kbq := Lib.hid (Kb.out.below Kb.out.lt hb)
    clear Kb
    have Kb := Lib.hid Kbq.out
    clear Kbq
    have Kxq := Lib.hid (Kx.out.below Kx.out.lt hb)
    clear Kx
    have Kx := Lib.hid Kxq.out
    clear Kxq
    have Kwq := Lib.hid (Kw.out.below Kw.out.lt hb)
    clear Kw
    have Kw := Lib.hid Kwq.out
    clear Kwq
    have Koq := Lib.hid (Ko.out.below Ko.out.lt hb)
    clear Ko
    have Ko := Lib.hid Koq.out
    clear Koq
    have Kyq := Lib.hid (Ky.out.below Ky.out.lt hb)
    clear Ky
    have Ky := Lib.hid Kyq.out
    clear Kyq
    have Kzq := Lib.hid (Kz.out.below Kz.out.lt hb)
    clear Kz
    have Kz := Lib.hid Kzq.out
    clear Kzq
    have H8 := Lib.hid (show Below w.heap.size w w8 from H7.out.trans (hb.mono H7.out.size))
    clear hb
    go_wp2_with fail
    refine (HL.out _ _ _ _ _ _ _ Ky.out Ka.out Cy.out Ca.out).mono ?_
    rintro e1 w9 ⟨rfl, hb⟩
    have Kaq := Lib.hid (Ka.out.below Ka.out.lt hb)
    clear Ka
    have Ka := Lib.hid Kaq.out
    clear Kaq
    have Kbq := Lib.hid (Kb.out.below Kb.out.lt hb)
    clear Kb
    have Kb := Lib.hid Kbq.out
    clear Kbq
    have Kxq := Lib.hid (Kx.out.below Kx.out.lt hb)
    clear Kx
    have Kx := Lib.hid Kxq.out
    clear Kxq
    have Kwq := Lib.hid (Kw.out.below Kw.out.lt hb)
    clear Kw
    have Kw := Lib.hid Kwq.out
    clear Kwq
    have Koq := Lib.hid (Ko.out.below Ko.out.lt hb)
    clear Ko
    have Ko := Lib.hid Koq.out
    clear Koq
    have Kyq := Lib.hid (Ky.out.below Ky.out.lt hb)
    clear Ky
    have Ky := Lib.hid Kyq.out
    clear Kyq
    have Kzq := Lib.hid (Kz.out.below Kz.out.lt hb)
    clear Kz
    have Kz := Lib.hid Kzq.out
    clear Kzq
    have H9 := Lib.hid (show Below w.heap.size w w9 from H8.out.trans (hb.mono H8.out.size))
    clear hb
    go_wp2_with fail
    refine (HL.out _ _ _ _ _ _ _ Kz.out Ka.out Cz.out Ca.out).mono ?_
    rintro e1 w10 ⟨rfl, hb⟩
    have Kaq := Lib.hid (Ka.out.below Ka.out.lt hb)
    clear Ka
    have Ka := Lib.hid Kaq.out
    clear Kaq
    have Kbq := Lib.hid (Kb.out.below Kb.out.lt hb)
    clear Kb
    have Kb := Lib.hid Kbq.out
    clear Kbq
    have Kxq := Lib.hid (Kx.out.below Kx.out.lt hb)
    clear Kx
    have Kx := Lib.hid Kxq.out
    clear Kxq
    have Kwq := Lib.hid (Kw.out.below Kw.out.lt hb)
    clear Kw
    have Kw := Lib.hid Kwq.out
    clear Kwq
    have Koq := Lib.hid (Ko.out.below Ko.out.lt hb)
    clear Ko
    have Ko := Lib.hid Koq.out
    clear Koq
    have Kyq := Lib.hid (Ky.out.below Ky.out.lt hb)
    clear Ky
    have Ky := Lib.hid Kyq.out
    clear Kyq
    have Kzq := Lib.hid (Kz.out.below Kz.out.lt hb)
    clear Kz
    have Kz := Lib.hid Kzq.out
    clear Kzq
    have H10 := Lib.hid (show Below w.heap.size w w10 from H9.out.trans (hb.mono H9.out.size))
    clear hb
    go_wp2_with fail
    go_ret
    exact ⟨rfl, H10.out⟩

set_option maxHeartbeats 800000 in
theorem walk_big (w : World) (a0 : Option Addr) (len0 cap0 : Nat) (hlc0 : len0 ≤ cap0) (hcm0 : cap0 ≤ maxLen) (hbig : 1048576 < len0) :
    Calls Try.prog 11 #[.slice a0 len0 cap0] w fun e w' => e = .returned (.bool true) ∧ Below w.heap.size w w' := by
  unfold maxLen at hcm0
  go_enter Try.func11, Try.ntmps11
  go_wp2_with fail
  go_ret
  exact ⟨rfl, Below.refl _ _⟩

theorem walk (w : World) (a0 : Option Addr) (len0 cap0 : Nat) (hb0 : Bytes w a0 len0) (hlc0 : len0 ≤ cap0) (hcm0 : cap0 ≤ maxLen) :
    Calls Try.prog 11 #[.slice a0 len0 cap0] w fun e w' => e = .returned (.bool true) ∧ Below w.heap.size w w' := by
  by_cases hbig : 1048576 < len0
  · exact walk_big w a0 len0 cap0 hlc0 hcm0 hbig
  · exact walk_good w a0 len0 cap0 hb0 hlc0 hcm0 (by omega)

set_option maxRecDepth 100000 in
theorem lifted (os : Os) (started : os.Started) (H : Type) (enc : TypeId × Value → H) :
    ReturnsInHanded {} Try.checked os 11 .any (Rows.fnCatEmptySpec.pre6 enc Try.prog Try.f11 Rows.fnCatEmptyRow.domain false) (Rows.fnCatEmptySpec.post enc Try.prog Try.f11 false true false false) := by
  refine returnsInHanded_of_change (C := Try.checked) Facts.own started (by kernel_rfl) Try.func11
    (ChangeSpec.witness6 (enc := enc) (C := Try.checked) false ⟨#[], #[.slice none 0 0], []⟩ 8 (by kernel_rfl) (by kernel_rfl) (by kernel_rfl) (by kernel_rfl)) ?_
  intro W base args ds gs before hval0 hW hcnd0 _
  clear hcnd0
  have hval : ∀ (j : Nat) t v, Try.f11.params[j]? = some t → args[j]? = some v → Value.okWide Try.prog W .any base t v := hval0
  have hW' := hW
  obtain ⟨p, q, hA0, hV, rfl, hfz, hnd⟩ := hW
  have hA : DataW.TrodAll enc Try.prog W 0 (fun _ => true) true Try.f11.params.toList args.toList ds p := hA0
  rw [Try.params11] at hA hval
  obtain ⟨v0, d0, rfl, rfl, h0⟩ := trodAll_one hA
  obtain ⟨rfl, rfl⟩ := trodVars_none hV
  obtain ⟨a0, len0, cap0, rfl⟩ := okWide_slice Try.underlying22 (hval 0 22 v0 rfl rfl)
  clear hA0 hval0
  simp only [List.append_nil] at hW'
  have hlt : ∀ x ∈ p, x.block < W.heap.size := fun x hx => by simpa using hW'.lt x hx
  obtain ⟨hb0, hlc0, hcm0⟩ := opened h0
  refine (walk W a0 len0 cap0 hb0 hlc0 hcm0).mono fun e W' ⟨he, hb⟩ => ?_
  subst he
  refine ⟨_, rfl, [_], [], p, [], p, [], hW', trodAll_mk1 (shut_bool Try.underlying4 _), ?_, rfl, hb.frame _, fun h => by cases h⟩
  exact trodAll_mk1 (Below.trod Facts.laidOut (by kernel_rfl) (of_decide_eq_true (by kernel_rfl)) h0 hb hlt)

theorem named : Try.prog.funcNamed Rows.fnCatEmptyRow.func = some 11 := by kernel_rfl
theorem closed : joinedFacts Try.prog 11 Try.f11 Rows.fnCatEmptySpec Rows.fnCatEmptyRow = true :=
  Facts.closed_of rfl rfl rfl rfl (h28b := rfl) (by kernel_rfl) (by kernel_rfl) (by kernel_rfl) (by kernel_rfl) (by kernel_rfl) (by kernel_rfl) (by kernel_rfl) (by kernel_rfl) (by kernel_rfl) (by kernel_rfl) (by kernel_rfl) (by kernel_rfl) (by kernel_rfl) (by kernel_rfl) (by kernel_rfl) (by kernel_rfl) (by kernel_rfl) (by kernel_rfl) (by kernel_rfl) (by kernel_rfl) (by kernel_rfl) (by kernel_rfl) (by kernel_rfl) (by kernel_rfl)
theorem instanced : Try.f11.isInstance Try.prog Rows.fnCatEmptyRow.origin Rows.fnCatEmptyRow.targs := of_decide_eq_true (by kernel_rfl)
theorem wrapped : Try.f11.isWrapper Try.prog Rows.fnCatEmptyRow.wrapper Rows.fnCatEmptyRow.mainSum := by
  unfold Func.isWrapper
  rw [if_neg (of_decide_eq_false (by kernel_rfl))]
  exact ⟨rfl, rfl⟩

theorem holds : Rows.FnCatEmptySaid :=
  OpenClaim.holds_of_wide 11 Try.f11 rfl rfl rfl rfl rfl rfl rfl ⟨rfl, rfl, rfl, rfl, rfl⟩ rfl rfl rfl rfl rfl named Try.func11 closed instanced wrapped
    (fun os started H enc _ => lifted os started H enc)

end Go.Proofs.Ytgnpcfafdjebeaa.lawCatEmpty
