/-
  Joining two layouts keeps their lines, but for the last one and the first one, which become one: the law FnCatLayouts returns true for whatever draws, and its argument reads as it did. No condition of ours.
-/
import Derived.Test.YtgnpcfafdjebeaaDrF
import Derived.Test.YtgnpcfafdjebeaaLayCS
import Derived.Test.YtgnpcfafdjebeaaLaySm
import Derived.Test.YtgnpcfafdjebeaaLayV
import Derived.Test.YtgnpcfafdjebeaaLayQ
import Derived.Test.YtgnpcfafdjebeaaLayK
import Derived.Test.YtgnpcfafdjebeaaLayR
import Derived.Deep.RegionHeld3
import Derived.BigQuiet
import Derived.IntWalk
import Derived.Test.YtgnpcfafdjebeaaLawB
import Derived.Test.YtgnpcfafdjebeaaFacts
import Derived.Test.YtgnpcfafdjebeaaRows
set_option linter.unusedVariables false
set_option linter.unusedSimpArgs false
namespace Go.Proofs.Ytgnpcfafdjebeaa.lawDCatLayouts
open Go.ChangeShapes Go.WideShapes Go.ChangeAt Go.RowKit P1 Draw6 DrE LawB

set_option maxRecDepth 100000 in
set_option maxHeartbeats 64000000 in
theorem walk_good (w : World) (a0 : Option Addr) (len0 cap0 : Nat) (hb0 : Bytes w a0 len0) (hlc0 : len0 ≤ cap0) (hcm0 : cap0 ≤ maxLen) (hl0 : len0 ≤ 1048576) :
    Calls Try.prog 3 #[.slice a0 len0 cap0] w fun e w' => e = .returned (.bool true) ∧ Below w.heap.size w w' := by
  have HD0 := Lib.hid (fun (W : World) (h : Below w.heap.size w W) => DrF.drawCat W a0 len0 cap0 (bytes_below hb0 h) hlc0 hcm0)
  clear hb0
  unfold maxLen at hcm0
  go_enter Try.func3, Try.ntmps3
  go_wp2_with fail
  refine (HD0.out _ (Below.refl _ _)).mono ?_
  rintro e1 w1 ⟨la, pa, ca, qa, lb, pb, cb, qb, rfl, hc, hc', hsma, hsmb, hs, hs', hb⟩
  have H1 := Lib.hid (show Below w.heap.size w w1 from hb)
  have Ka := Lib.hid hs
  have Ca := Lib.hid hc
  have Kb := Lib.hid hs'
  have Cb := Lib.hid hc'
  clear hs hc hs' hc' hb
  obtain ⟨⟨X, ok⟩, hr⟩ : ∃ r, catLR la lb = r := ⟨_, rfl⟩
  cases ok with
  | false =>
    obtain rfl := catLR_false hr
    have HI := Lib.hid (fun (W : World) (p : Option Addr) (c : Nat) (q : List Nat) (p' : Option Addr) (c' : Nat) (q' : List Nat) (h1 : LaySub W p la q) (h1' : LaySub W p' lb q') (h2 : la.length ≤ c) (h2' : lb.length ≤ c') => (LayC.implCatLayouts la lb W p c q h1 h2 hsma.fits.2 hsma.fits.1 p' c' q' h1' h2' hsmb.fits.2 hsmb.fits.1).mono fun e w' h => show LayN.LayOut W [] false e w' from by rw [hr] at h; exact h.out)
    have HS := Lib.hid (fun (W : World) (p : Option Addr) (c : Nat) (q : List Nat) (p' : Option Addr) (c' : Nat) (q' : List Nat) (h1 : LaySub W p la q) (h1' : LaySub W p' lb q') (h2 : la.length ≤ c) (h2' : lb.length ≤ c') => (LayC.specCatLayouts la lb W p c q h1 h2 hsma.fits.2 hsma.fits.1 p' c' q' h1' h2' hsmb.fits.2 hsmb.fits.1).mono fun e w' h => show LayN.LayOut W [] false e w' from by rw [hr] at h; exact h.out)
    have HE := Lib.hid (fun (W : World) (p : Option Addr) (c : Nat) (q : List Nat) (p' : Option Addr) (c' : Nat) (q' : List Nat) (h1 : LaySub W p [] q) (h1' : LaySub W p' [] q') (h2 : [].length ≤ c) (h2' : [].length ≤ c') => (LaySm.implLayoutSame [] [] W p c q h1 p' c' q' h1' h2 h2' Small.nil.fits.2 Small.nil.fits.2).mono fun e w' h => show e = .returned (.bool true) ∧ Below W.heap.size W w' from by rw [decide_eq_true rfl] at h; exact h)
    clear hr hsma hsmb
    go_wp2_with fail
    refine (HI.out _ _ _ _ _ _ _ Ka.out Kb.out Ca.out Cb.out).mono ?_
    rintro e1 w2 ⟨px, cx, qx, rfl, hc, hs, hfr, hb⟩
    have Kaq := Lib.hid (Ka.out.below Ka.out.lt hb)
    clear Ka
    have Ka := Lib.hid Kaq.out
    clear Kaq
    have Kbq := Lib.hid (Kb.out.below Kb.out.lt hb)
    clear Kb
    have Kb := Lib.hid Kbq.out
    clear Kbq
    have H2 := Lib.hid (show Below w.heap.size w w2 from H1.out.trans (hb.mono H1.out.size))
    have Kx := Lib.hid hs
    have Cx := Lib.hid hc
    clear hs hc hfr hb
    go_wp2_with fail
    refine (HS.out _ _ _ _ _ _ _ Ka.out Kb.out Ca.out Cb.out).mono ?_
    rintro e1 w3 ⟨pw, cw, qw, rfl, hc, hs, hfr, hb⟩
    have Kaq := Lib.hid (Ka.out.below Ka.out.lt hb)
    clear Ka
    have Ka := Lib.hid Kaq.out
    clear Kaq
    have Kbq := Lib.hid (Kb.out.below Kb.out.lt hb)
    clear Kb
    have Kb := Lib.hid Kbq.out
    clear Kbq
    have Kxq := Lib.hid (Kx.out.below Kx.out.lt hb)
    clear Kx
    have Kx := Lib.hid Kxq.out
    clear Kxq
    have H3 := Lib.hid (show Below w.heap.size w w3 from H2.out.trans (hb.mono H2.out.size))
    have Kw := Lib.hid hs
    have Cw := Lib.hid hc
    clear hs hc hfr hb
    go_wp2_with fail
    refine (HE.out _ _ _ _ _ _ _ Kx.out Kw.out Cx.out Cw.out).mono ?_
    rintro e1 w4 ⟨rfl, hb⟩
    have Kaq := Lib.hid (Ka.out.below Ka.out.lt hb)
    clear Ka
    have Ka := Lib.hid Kaq.out
    clear Kaq
    have Kbq := Lib.hid (Kb.out.below Kb.out.lt hb)
    clear Kb
    have Kb := Lib.hid Kbq.out
    clear Kbq
    have Kxq := Lib.hid (Kx.out.below Kx.out.lt hb)
    clear Kx
    have Kx := Lib.hid Kxq.out
    clear Kxq
    have Kwq := Lib.hid (Kw.out.below Kw.out.lt hb)
    clear Kw
    have Kw := Lib.hid Kwq.out
    clear Kwq
    have H4 := Lib.hid (show Below w.heap.size w w4 from H3.out.trans (hb.mono H3.out.size))
    clear hb
    go_wp2_with fail
    refine (HE.out _ _ _ _ _ _ _ Kx.out Kw.out Cx.out Cw.out).mono ?_
    rintro e1 w5 ⟨rfl, hb⟩
    have Kaq := Lib.hid (Ka.out.below Ka.out.lt hb)
    clear Ka
    have Ka := Lib.hid Kaq.out
    clear Kaq
    have Kbq := Lib.hid (Kb.out.below Kb.out.lt hb)
    clear Kb
    have Kb := Lib.hid Kbq.out
    clear Kbq
    have Kxq := Lib.hid (Kx.out.below Kx.out.lt hb)
    clear Kx
    have Kx := Lib.hid Kxq.out
    clear Kxq
    have Kwq := Lib.hid (Kw.out.below Kw.out.lt hb)
    clear Kw
    have Kw := Lib.hid Kwq.out
    clear Kwq
    have H5 := Lib.hid (show Below w.heap.size w w5 from H4.out.trans (hb.mono H4.out.size))
    clear hb
    go_wp2_with fail
    go_ret
    exact ⟨rfl, H5.out⟩
  | true =>
    obtain ⟨hva, hvb, hX, hvX⟩ := catLR_true hr
    have hsX := Small.of_lv hvX
    have HI := Lib.hid (fun (W : World) (p : Option Addr) (c : Nat) (q : List Nat) (p' : Option Addr) (c' : Nat) (q' : List Nat) (h1 : LaySub W p la q) (h1' : LaySub W p' lb q') (h2 : la.length ≤ c) (h2' : lb.length ≤ c') => (LayC.implCatLayouts la lb W p c q h1 h2 hsma.fits.2 hsma.fits.1 p' c' q' h1' h2' hsmb.fits.2 hsmb.fits.1).mono fun e w' h => show LayN.LayOut W X true e w' from by rw [hr] at h; exact h.out)
    have HS := Lib.hid (fun (W : World) (p : Option Addr) (c : Nat) (q : List Nat) (p' : Option Addr) (c' : Nat) (q' : List Nat) (h1 : LaySub W p la q) (h1' : LaySub W p' lb q') (h2 : la.length ≤ c) (h2' : lb.length ≤ c') => (LayC.specCatLayouts la lb W p c q h1 h2 hsma.fits.2 hsma.fits.1 p' c' q' h1' h2' hsmb.fits.2 hsmb.fits.1).mono fun e w' h => show LayN.LayOut W X true e w' from by rw [hr] at h; exact h.out)
    have HE := Lib.hid (fun (W : World) (p : Option Addr) (c : Nat) (q : List Nat) (p' : Option Addr) (c' : Nat) (q' : List Nat) (h1 : LaySub W p X q) (h1' : LaySub W p' X q') (h2 : X.length ≤ c) (h2' : X.length ≤ c') => (LaySm.implLayoutSame X X W p c q h1 p' c' q' h1' h2 h2' hsX.fits.2 hsX.fits.2).mono fun e w' h => show e = .returned (.bool true) ∧ Below W.heap.size W w' from by rw [decide_eq_true rfl] at h; exact h)
    have hla := lv_len hva
    have hlb := lv_len hvb
    have hlx := lv_len hvX
    obtain ⟨m, j, ta, tb, hm, hj, hn, ha, hb, hx, htk, hdr⟩ := catL_parts (by omega) (by omega) hX
    have hta : ta.size ≤ 2000 := by obtain ⟨h1, rfl⟩ := ha; exact (hsma.2 _ (List.getElem_mem h1)).2.2
    have htb : tb.size ≤ 2000 := by obtain ⟨h1, rfl⟩ := hb; exact (hsmb.2 _ (List.getElem_mem h1)).2.2
    have HP := Lib.hid (And.intro ha (And.intro hb (And.intro hx (And.intro htk hdr))))
    have HM := Lib.hid (And.intro hm (And.intro hj hn))
    have HSX := Lib.hid (And.intro hsX hvX)
    have hmj : m + j + 1 ≤ 200 := by omega
    rw [hm] at HI HS
    rw [hj] at HI HS
    rw [hm] at Ca
    rw [hj] at Cb
    rw [hm, hj]
    clear hr hsma hsmb hva hvb hX hvX hsX hla hlb hlx hm hj hn ha hb hx htk hdr
    go_wp2_with fail
    refine (HI.out _ _ _ _ _ _ _ Ka.out Kb.out Ca.out Cb.out).mono ?_
    rintro e1 w2 ⟨px, cx, qx, rfl, hc, hs, hfr, hb⟩
    have Kaq := Lib.hid (Ka.out.below Ka.out.lt hb)
    clear Ka
    have Ka := Lib.hid Kaq.out
    clear Kaq
    have Kbq := Lib.hid (Kb.out.below Kb.out.lt hb)
    clear Kb
    have Kb := Lib.hid Kbq.out
    clear Kbq
    have H2 := Lib.hid (show Below w.heap.size w w2 from H1.out.trans (hb.mono H1.out.size))
    have Kx := Lib.hid hs
    have Cx := Lib.hid hc
    clear hs hc hfr hb
    go_wp2_with fail
    refine (HS.out _ _ _ _ _ _ _ Ka.out Kb.out Ca.out Cb.out).mono ?_
    rintro e1 w3 ⟨pw, cw, qw, rfl, hc, hs, hfr, hb⟩
    have Kaq := Lib.hid (Ka.out.below Ka.out.lt hb)
    clear Ka
    have Ka := Lib.hid Kaq.out
    clear Kaq
    have Kbq := Lib.hid (Kb.out.below Kb.out.lt hb)
    clear Kb
    have Kb := Lib.hid Kbq.out
    clear Kbq
    have Kxq := Lib.hid (Kx.out.below Kx.out.lt hb)
    clear Kx
    have Kx := Lib.hid Kxq.out
    clear Kxq
    have H3 := Lib.hid (show Below w.heap.size w w3 from H2.out.trans (hb.mono H2.out.size))
    have Kw := Lib.hid hs
    have Cw := Lib.hid hc
    clear hs hc hfr hb
    go_wp2_with fail
    refine (HE.out _ _ _ _ _ _ _ Kx.out Kw.out Cx.out Cw.out).mono ?_
    rintro e1 w4 ⟨rfl, hb⟩
    have Kaq := Lib.hid (Ka.out.below Ka.out.lt hb)
    clear Ka
    have Ka := Lib.hid Kaq.out
    clear Kaq
    have Kbq := Lib.hid (Kb.out.below Kb.out.lt hb)
    clear Kb
    have Kb := Lib.hid Kbq.out
    clear Kbq
    have Kxq := Lib.hid (Kx.out.below Kx.out.lt hb)
    clear Kx
    have Kx := Lib.hid Kxq.out
    clear Kxq
    have Kwq := Lib.hid (Kw.out.below Kw.out.lt hb)
    clear Kw
    have Kw := Lib.hid Kwq.out
    clear Kwq
    have H4 := Lib.hid (show Below w.heap.size w w4 from H3.out.trans (hb.mono H3.out.size))
    clear hb
    go_wp2_with fail
    obtain ⟨bx, ox, rfl, hrx, hbx⟩ := Kx.out.at (by rw [HM.out.2.2]; omega)
    obtain ⟨ba, oa, rfl, hra, hba⟩ := Ka.out.at (by rw [HM.out.1]; omega)
    obtain ⟨bb, ob, rfl, hrb, hbb⟩ := Kb.out.at (by rw [HM.out.2.1]; omega)
    have hcx : m + j + 1 ≤ cx := by have := Cx.out; rw [HM.out.2.2] at this; exact this
    have hca := Ca.out
    have hcb := Cb.out
    rw [HM.out.2.2]
    have HC := Lib.hid (show w4.cell? ⟨bx, ox + m * 2 + 1, none⟩ = some (.string (ta ++ tb)) ∧ w4.cell? ⟨ba, oa + m * 2 + 1, none⟩ = some (.string ta) ∧ w4.cell? ⟨bb, ob + 1, none⟩ = some (.string tb) from by
      obtain ⟨⟨h1, e1⟩, ⟨h2, e2⟩, ⟨h3, e3⟩, _⟩ := HP.out
      have f1 := (hra m h1).2
      have f2 := (hrb 0 h2).2
      have f3 := (hrx m h3).2
      rw [e1] at f1
      rw [e2, Nat.zero_mul, Nat.add_zero] at f2
      rw [e3] at f3
      exact ⟨f3, f1, f2⟩)
    have HV := Lib.hid (fun (W : World) (h : Below w4.heap.size w4 W) => LayR.validAt (hrx.below hbx h) HM.out.2.2 HSX.out.2 HSX.out.1 hcx)
    have HF1 := Lib.hid (fun (W : World) (h : Below w4.heap.size w4 W) => LayR.sameAt (n := m) (c := cx) (c' := ca) ((hrx.below hbx h).take m) ((hra.below hba h).take m) (by rw [List.length_take, HM.out.2.2]; omega) HP.out.2.2.2.1 (by omega) (by omega) (by omega))
    have hsum : ¬ (9223372036854775807 < ta.size + tb.size) := by omega
    have i0 : (0 : Int) ≤ (m : Int) := Int.natCast_nonneg _
    have i1 : (m : Int) < (m : Int) + (j : Int) + 1 := by omega
    have i2 : (m : Int) < (m : Int) + 1 := by omega
    have i3 : (0 : Int) < (j : Int) + 1 := by omega
    have hw1 : IntKind.i64.wrap ((m : Int) + 1 + ((j : Int) + 1)) = (m : Int) + 1 + ((j : Int) + 1) := IntWalk.i64_in _ ⟨by omega, by omega⟩
    have hw2 : IntKind.i64.wrap ((m : Int) + 1 + ((j : Int) + 1) - 1) = (m : Int) + (j : Int) + 1 := by rw [IntWalk.i64_in _ ⟨by omega, by omega⟩]; omega
    have i4 : (m : Int) ≤ (cx : Int) := by omega
    have i5 : (m : Int) ≤ (ca : Int) := by omega
    have i6 : (m : Int) + 1 ≤ (m : Int) + (j : Int) + 1 := by omega
    have i7 : (1 : Int) ≤ (j : Int) + 1 := by omega
    have i8 : (0 : Int) ≤ (m : Int) + 1 := by omega
    have kx0 : ¬ cx = 0 := by omega
    have ka0 : ¬ ca = 0 := by omega
    have tn : ((m : Int) + 1).toNat = m + 1 := by omega
    have ln : m + j + 1 - (m + 1) = j := by omega
    rcases Nat.eq_zero_or_pos j with hj0 | hj0
    · clear HI HS HE
      have HF2 := Lib.hid (fun (W : World) (p p' : Option Addr) (c c' : Nat) => LayR.sameZ (n := j) W p p' c c' hj0)
      clear hj0
      by_cases k1 : cx = m + 1
      · have k1t : (cx = m + 1) = True := eq_true k1
        clear k1
        by_cases k2 : cb = 1
        · subst k2
          have HB := Lib.hid (And.intro hbx (And.intro hba hbb))
          clear hrx hra hrb hbx hba hbb hcx hca hcb
          go_region_held3 (fun w' => w'.cell? ⟨bx, ox + m * 2 + 1, none⟩ = some (.string (ta ++ tb)) ∧ w'.cell? ⟨ba, oa + m * 2 + 1, none⟩ = some (.string ta) ∧ w'.cell? ⟨bb, ob + 1, none⟩ = some (.string tb))
            (first | exact HC.out | exact ⟨(qZ.cell (p := ⟨_, _, _⟩) HB.out.1).trans HC.out.1, (qZ.cell (p := ⟨_, _, _⟩) HB.out.2.1).trans HC.out.2.1, (qZ.cell (p := ⟨_, _, _⟩) HB.out.2.2).trans HC.out.2.2⟩ | exact ⟨(qY.cell (p := ⟨_, _, _⟩) HB.out.1).trans HC.out.1, (qY.cell (p := ⟨_, _, _⟩) HB.out.2.1).trans HC.out.2.1, (qY.cell (p := ⟨_, _, _⟩) HB.out.2.2).trans HC.out.2.2⟩ | exact ⟨(qX.cell (p := ⟨_, _, _⟩) HB.out.1).trans HC.out.1, (qX.cell (p := ⟨_, _, _⟩) HB.out.2.1).trans HC.out.2.1, (qX.cell (p := ⟨_, _, _⟩) HB.out.2.2).trans HC.out.2.2⟩ | go_keep)
            (first
              | (go_at_call 28; refine (HV.out _ (by first | exact Below.refl _ _ | exact (Below.refl _ _).drew)).mono ?_; rintro e1 wX ⟨rfl, hbX⟩; have qX : Below w4.heap.size w4 wX := (by first | exact hbX | exact (Below.refl _ w4).drew.trans hbX); clear hbX)
              | (go_at_call_of 27 (Value.slice (some ⟨bx, ox, none⟩) m cx); refine (HF1.out _ qX).mono ?_; rintro e2 wY ⟨rfl, hbY⟩; have qY : Below w4.heap.size w4 wY := qX.trans (hbY.mono qX.size); clear hbY)
              | (go_at_call 27; refine (HF2.out _ _ _ _ _).mono ?_; rintro e3 wZ ⟨rfl, hbZ⟩; have qZ : Below w4.heap.size w4 wZ := qY.trans (hbZ.mono qY.size); clear hbZ))
          all_goals
            go_wp2_with fail
            go_ret
            exact ⟨rfl, H4.out.trans (qZ.mono H4.out.size)⟩
        · skip
          have HB := Lib.hid (And.intro hbx (And.intro hba hbb))
          clear hrx hra hrb hbx hba hbb hcx hca hcb
          go_region_held3 (fun w' => w'.cell? ⟨bx, ox + m * 2 + 1, none⟩ = some (.string (ta ++ tb)) ∧ w'.cell? ⟨ba, oa + m * 2 + 1, none⟩ = some (.string ta) ∧ w'.cell? ⟨bb, ob + 1, none⟩ = some (.string tb))
            (first | exact HC.out | exact ⟨(qZ.cell (p := ⟨_, _, _⟩) HB.out.1).trans HC.out.1, (qZ.cell (p := ⟨_, _, _⟩) HB.out.2.1).trans HC.out.2.1, (qZ.cell (p := ⟨_, _, _⟩) HB.out.2.2).trans HC.out.2.2⟩ | exact ⟨(qY.cell (p := ⟨_, _, _⟩) HB.out.1).trans HC.out.1, (qY.cell (p := ⟨_, _, _⟩) HB.out.2.1).trans HC.out.2.1, (qY.cell (p := ⟨_, _, _⟩) HB.out.2.2).trans HC.out.2.2⟩ | exact ⟨(qX.cell (p := ⟨_, _, _⟩) HB.out.1).trans HC.out.1, (qX.cell (p := ⟨_, _, _⟩) HB.out.2.1).trans HC.out.2.1, (qX.cell (p := ⟨_, _, _⟩) HB.out.2.2).trans HC.out.2.2⟩ | go_keep)
            (first
              | (go_at_call 28; refine (HV.out _ (by first | exact Below.refl _ _ | exact (Below.refl _ _).drew)).mono ?_; rintro e1 wX ⟨rfl, hbX⟩; have qX : Below w4.heap.size w4 wX := (by first | exact hbX | exact (Below.refl _ w4).drew.trans hbX); clear hbX)
              | (go_at_call_of 27 (Value.slice (some ⟨bx, ox, none⟩) m cx); refine (HF1.out _ qX).mono ?_; rintro e2 wY ⟨rfl, hbY⟩; have qY : Below w4.heap.size w4 wY := qX.trans (hbY.mono qX.size); clear hbY)
              | (go_at_call 27; refine (HF2.out _ _ _ _ _).mono ?_; rintro e3 wZ ⟨rfl, hbZ⟩; have qZ : Below w4.heap.size w4 wZ := qY.trans (hbZ.mono qY.size); clear hbZ))
          all_goals
            go_wp2_with fail
            go_ret
            exact ⟨rfl, H4.out.trans (qZ.mono H4.out.size)⟩
      · by_cases k2 : cb = 1
        · subst k2
          have HB := Lib.hid (And.intro hbx (And.intro hba hbb))
          clear hrx hra hrb hbx hba hbb hcx hca hcb
          go_region_held3 (fun w' => w'.cell? ⟨bx, ox + m * 2 + 1, none⟩ = some (.string (ta ++ tb)) ∧ w'.cell? ⟨ba, oa + m * 2 + 1, none⟩ = some (.string ta) ∧ w'.cell? ⟨bb, ob + 1, none⟩ = some (.string tb))
            (first | exact HC.out | exact ⟨(qZ.cell (p := ⟨_, _, _⟩) HB.out.1).trans HC.out.1, (qZ.cell (p := ⟨_, _, _⟩) HB.out.2.1).trans HC.out.2.1, (qZ.cell (p := ⟨_, _, _⟩) HB.out.2.2).trans HC.out.2.2⟩ | exact ⟨(qY.cell (p := ⟨_, _, _⟩) HB.out.1).trans HC.out.1, (qY.cell (p := ⟨_, _, _⟩) HB.out.2.1).trans HC.out.2.1, (qY.cell (p := ⟨_, _, _⟩) HB.out.2.2).trans HC.out.2.2⟩ | exact ⟨(qX.cell (p := ⟨_, _, _⟩) HB.out.1).trans HC.out.1, (qX.cell (p := ⟨_, _, _⟩) HB.out.2.1).trans HC.out.2.1, (qX.cell (p := ⟨_, _, _⟩) HB.out.2.2).trans HC.out.2.2⟩ | go_keep)
            (first
              | (go_at_call 28; refine (HV.out _ (by first | exact Below.refl _ _ | exact (Below.refl _ _).drew)).mono ?_; rintro e1 wX ⟨rfl, hbX⟩; have qX : Below w4.heap.size w4 wX := (by first | exact hbX | exact (Below.refl _ w4).drew.trans hbX); clear hbX)
              | (go_at_call_of 27 (Value.slice (some ⟨bx, ox, none⟩) m cx); refine (HF1.out _ qX).mono ?_; rintro e2 wY ⟨rfl, hbY⟩; have qY : Below w4.heap.size w4 wY := qX.trans (hbY.mono qX.size); clear hbY)
              | (go_at_call 27; refine (HF2.out _ _ _ _ _).mono ?_; rintro e3 wZ ⟨rfl, hbZ⟩; have qZ : Below w4.heap.size w4 wZ := qY.trans (hbZ.mono qY.size); clear hbZ))
          all_goals
            go_wp2_with fail
            go_ret
            exact ⟨rfl, H4.out.trans (qZ.mono H4.out.size)⟩
        · skip
          have HB := Lib.hid (And.intro hbx (And.intro hba hbb))
          clear hrx hra hrb hbx hba hbb hcx hca hcb
          go_region_held3 (fun w' => w'.cell? ⟨bx, ox + m * 2 + 1, none⟩ = some (.string (ta ++ tb)) ∧ w'.cell? ⟨ba, oa + m * 2 + 1, none⟩ = some (.string ta) ∧ w'.cell? ⟨bb, ob + 1, none⟩ = some (.string tb))
            (first | exact HC.out | exact ⟨(qZ.cell (p := ⟨_, _, _⟩) HB.out.1).trans HC.out.1, (qZ.cell (p := ⟨_, _, _⟩) HB.out.2.1).trans HC.out.2.1, (qZ.cell (p := ⟨_, _, _⟩) HB.out.2.2).trans HC.out.2.2⟩ | exact ⟨(qY.cell (p := ⟨_, _, _⟩) HB.out.1).trans HC.out.1, (qY.cell (p := ⟨_, _, _⟩) HB.out.2.1).trans HC.out.2.1, (qY.cell (p := ⟨_, _, _⟩) HB.out.2.2).trans HC.out.2.2⟩ | exact ⟨(qX.cell (p := ⟨_, _, _⟩) HB.out.1).trans HC.out.1, (qX.cell (p := ⟨_, _, _⟩) HB.out.2.1).trans HC.out.2.1, (qX.cell (p := ⟨_, _, _⟩) HB.out.2.2).trans HC.out.2.2⟩ | go_keep)
            (first
              | (go_at_call 28; refine (HV.out _ (by first | exact Below.refl _ _ | exact (Below.refl _ _).drew)).mono ?_; rintro e1 wX ⟨rfl, hbX⟩; have qX : Below w4.heap.size w4 wX := (by first | exact hbX | exact (Below.refl _ w4).drew.trans hbX); clear hbX)
              | (go_at_call_of 27 (Value.slice (some ⟨bx, ox, none⟩) m cx); refine (HF1.out _ qX).mono ?_; rintro e2 wY ⟨rfl, hbY⟩; have qY : Below w4.heap.size w4 wY := qX.trans (hbY.mono qX.size); clear hbY)
              | (go_at_call 27; refine (HF2.out _ _ _ _ _).mono ?_; rintro e3 wZ ⟨rfl, hbZ⟩; have qZ : Below w4.heap.size w4 wZ := qY.trans (hbZ.mono qY.size); clear hbZ))
          all_goals
            go_wp2_with fail
            go_ret
            exact ⟨rfl, H4.out.trans (qZ.mono H4.out.size)⟩
    · clear HI HS HE
      have HF2 := Lib.hid (fun (W : World) (h : Below w4.heap.size w4 W) => LayR.sameAt (n := j) (c := cx - (m + 1)) (c' := cb - 1) ((hrx.below hbx h).drop (m + 1)) ((hrb.below hbb h).drop 1) (by rw [List.length_drop, HM.out.2.2]; omega) HP.out.2.2.2.2 (by omega) (by omega) (by omega))
      have k1 : ¬ cx = m + 1 := by omega
      have k2 : ¬ cb = 1 := by omega
      have HB := Lib.hid (And.intro hbx (And.intro hba hbb))
      clear hrx hra hrb hbx hba hbb hcx hca hcb
      go_region_held3 (fun w' => w'.cell? ⟨bx, ox + m * 2 + 1, none⟩ = some (.string (ta ++ tb)) ∧ w'.cell? ⟨ba, oa + m * 2 + 1, none⟩ = some (.string ta) ∧ w'.cell? ⟨bb, ob + 1, none⟩ = some (.string tb))
        (first | exact HC.out | exact ⟨(qZ.cell (p := ⟨_, _, _⟩) HB.out.1).trans HC.out.1, (qZ.cell (p := ⟨_, _, _⟩) HB.out.2.1).trans HC.out.2.1, (qZ.cell (p := ⟨_, _, _⟩) HB.out.2.2).trans HC.out.2.2⟩ | exact ⟨(qY.cell (p := ⟨_, _, _⟩) HB.out.1).trans HC.out.1, (qY.cell (p := ⟨_, _, _⟩) HB.out.2.1).trans HC.out.2.1, (qY.cell (p := ⟨_, _, _⟩) HB.out.2.2).trans HC.out.2.2⟩ | exact ⟨(qX.cell (p := ⟨_, _, _⟩) HB.out.1).trans HC.out.1, (qX.cell (p := ⟨_, _, _⟩) HB.out.2.1).trans HC.out.2.1, (qX.cell (p := ⟨_, _, _⟩) HB.out.2.2).trans HC.out.2.2⟩ | go_keep)
        (first
          | (go_at_call 28; refine (HV.out _ (by first | exact Below.refl _ _ | exact (Below.refl _ _).drew)).mono ?_; rintro e1 wX ⟨rfl, hbX⟩; have qX : Below w4.heap.size w4 wX := (by first | exact hbX | exact (Below.refl _ w4).drew.trans hbX); clear hbX)
          | (go_at_call_of 27 (Value.slice (some ⟨bx, ox, none⟩) m cx); refine (HF1.out _ qX).mono ?_; rintro e2 wY ⟨rfl, hbY⟩; have qY : Below w4.heap.size w4 wY := qX.trans (hbY.mono qX.size); clear hbY)
          | (go_at_call 27; refine (HF2.out _ qY).mono ?_; rintro e3 wZ ⟨rfl, hbZ⟩; have qZ : Below w4.heap.size w4 wZ := qY.trans (hbZ.mono qY.size); clear hbZ))
      all_goals
        go_wp2_with fail
        go_ret
        exact ⟨rfl, H4.out.trans (qZ.mono H4.out.size)⟩

set_option maxHeartbeats 800000 in
theorem walk_big (w : World) (a0 : Option Addr) (len0 cap0 : Nat) (hlc0 : len0 ≤ cap0) (hcm0 : cap0 ≤ maxLen) (hbig : 1048576 < len0) :
    Calls Try.prog 3 #[.slice a0 len0 cap0] w fun e w' => e = .returned (.bool true) ∧ Below w.heap.size w w' := by
  unfold maxLen at hcm0
  go_enter Try.func3, Try.ntmps3
  go_wp2_with fail
  go_ret
  exact ⟨rfl, Below.refl _ _⟩

theorem walk (w : World) (a0 : Option Addr) (len0 cap0 : Nat) (hb0 : Bytes w a0 len0) (hlc0 : len0 ≤ cap0) (hcm0 : cap0 ≤ maxLen) :
    Calls Try.prog 3 #[.slice a0 len0 cap0] w fun e w' => e = .returned (.bool true) ∧ Below w.heap.size w w' := by
  by_cases hbig : 1048576 < len0
  · exact walk_big w a0 len0 cap0 hlc0 hcm0 hbig
  · exact walk_good w a0 len0 cap0 hb0 hlc0 hcm0 (by omega)

set_option maxRecDepth 100000 in
theorem lifted (os : Os) (started : os.Started) (H : Type) (enc : TypeId × Value → H) :
    ReturnsInHanded {} Try.checked os 3 .any (Rows.fnCatLayoutsSpec.pre6 enc Try.prog Try.f3 Rows.fnCatLayoutsRow.domain false) (Rows.fnCatLayoutsSpec.post enc Try.prog Try.f3 false true false false) := by
  refine returnsInHanded_of_change (C := Try.checked) Facts.own started (by kernel_rfl) Try.func3
    (ChangeSpec.witness6 (enc := enc) (C := Try.checked) false ⟨#[], #[.slice none 0 0], []⟩ 8 (by kernel_rfl) (by kernel_rfl) (by kernel_rfl) (by kernel_rfl)) ?_
  intro W base args ds gs before hval0 hW hcnd0 _
  clear hcnd0
  have hval : ∀ (j : Nat) t v, Try.f3.params[j]? = some t → args[j]? = some v → Value.okWide Try.prog W .any base t v := hval0
  have hW' := hW
  obtain ⟨p, q, hA0, hV, rfl, hfz, hnd⟩ := hW
  have hA : DataW.TrodAll enc Try.prog W 0 (fun _ => true) true Try.f3.params.toList args.toList ds p := hA0
  rw [Try.params3] at hA hval
  obtain ⟨v0, d0, rfl, rfl, h0⟩ := trodAll_one hA
  obtain ⟨rfl, rfl⟩ := trodVars_none hV
  obtain ⟨a0, len0, cap0, rfl⟩ := okWide_slice Try.underlying22 (hval 0 22 v0 rfl rfl)
  clear hA0 hval0
  simp only [List.append_nil] at hW'
  have hlt : ∀ x ∈ p, x.block < W.heap.size := fun x hx => by simpa using hW'.lt x hx
  obtain ⟨hb0, hlc0, hcm0⟩ := opened h0
  refine (walk W a0 len0 cap0 hb0 hlc0 hcm0).mono fun e W' ⟨he, hb⟩ => ?_
  subst he
  refine ⟨_, rfl, [_], [], p, [], p, [], hW', trodAll_mk1 (shut_bool Try.underlying4 _), ?_, rfl, hb.frame _, fun h => by cases h⟩
  exact trodAll_mk1 (Below.trod Facts.laidOut (by kernel_rfl) (of_decide_eq_true (by kernel_rfl)) h0 hb hlt)

theorem named : Try.prog.funcNamed Rows.fnCatLayoutsRow.func = some 3 := by kernel_rfl
theorem closed : joinedFacts Try.prog 3 Try.f3 Rows.fnCatLayoutsSpec Rows.fnCatLayoutsRow = true :=
  Facts.closed_of rfl rfl rfl rfl (h28b := rfl) (by kernel_rfl) (by kernel_rfl) (by kernel_rfl) (by kernel_rfl) (by kernel_rfl) (by kernel_rfl) (by kernel_rfl) (by kernel_rfl) (by kernel_rfl) (by kernel_rfl) (by kernel_rfl) (by kernel_rfl) (by kernel_rfl) (by kernel_rfl) (by kernel_rfl) (by kernel_rfl) (by kernel_rfl) (by kernel_rfl) (by kernel_rfl) (by kernel_rfl) (by kernel_rfl) (by kernel_rfl) (by kernel_rfl) (by kernel_rfl)
theorem instanced : Try.f3.isInstance Try.prog Rows.fnCatLayoutsRow.origin Rows.fnCatLayoutsRow.targs := of_decide_eq_true (by kernel_rfl)
theorem wrapped : Try.f3.isWrapper Try.prog Rows.fnCatLayoutsRow.wrapper Rows.fnCatLayoutsRow.mainSum := by
  unfold Func.isWrapper
  rw [if_neg (of_decide_eq_false (by kernel_rfl))]
  exact ⟨rfl, rfl⟩

theorem holds : Rows.FnCatLayoutsSaid :=
  OpenClaim.holds_of_wide 3 Try.f3 rfl rfl rfl rfl rfl rfl rfl ⟨rfl, rfl, rfl, rfl, rfl⟩ rfl rfl rfl rfl rfl named Try.func3 closed instanced wrapped
    (fun os started H enc _ => lifted os started H enc)

end Go.Proofs.Ytgnpcfafdjebeaa.lawDCatLayouts
