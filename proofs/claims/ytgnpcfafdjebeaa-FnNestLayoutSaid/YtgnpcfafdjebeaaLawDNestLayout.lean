/-
  Nesting a layout moves each line but the first, and nesting twice is nesting once by the sum: the law FnNestLayout returns true for whatever draws, and its argument reads as it did. No condition of ours.
-/
import Derived.Test.YtgnpcfafdjebeaaDrF
import Derived.Test.YtgnpcfafdjebeaaLayNS
import Derived.Test.YtgnpcfafdjebeaaLaySm
import Derived.Test.YtgnpcfafdjebeaaLayQ2
import Derived.Test.YtgnpcfafdjebeaaLayK
import Derived.Test.YtgnpcfafdjebeaaLayR
import Derived.Deep.RegionHeld3
import Derived.BigQuiet
import Derived.IntWalk
import Derived.Test.YtgnpcfafdjebeaaLawB
import Derived.Test.YtgnpcfafdjebeaaFacts
import Derived.Test.YtgnpcfafdjebeaaRows
set_option linter.unusedVariables false
set_option linter.unusedSimpArgs false
namespace Go.Proofs.Ytgnpcfafdjebeaa.lawDNestLayout
open Go.ChangeShapes Go.WideShapes Go.ChangeAt Go.RowKit P1 Draw6 DrE LawB

set_option maxRecDepth 100000 in
set_option maxHeartbeats 6400000 in
theorem walk_good (w : World) (a0 : Option Addr) (len0 cap0 : Nat) (hb0 : Bytes w a0 len0) (hlc0 : len0 ≤ cap0) (hcm0 : cap0 ≤ maxLen) (hl0 : len0 ≤ 1048576) :
    Calls Try.prog 4 #[.slice a0 len0 cap0] w fun e w' => e = .returned (.bool true) ∧ Below w.heap.size w w' := by
  have HD0 := Lib.hid (fun (W : World) (h : Below w.heap.size w W) => DrF.drawNest W a0 len0 cap0 (bytes_below hb0 h) hlc0 hcm0)
  clear hb0
  unfold maxLen at hcm0
  go_enter Try.func4, Try.ntmps4
  go_wp2_with fail
  refine (HD0.out _ (Below.refl _ _)).mono ?_
  rintro e1 w1 ⟨n, l, pl, cl, ql, rfl, ⟨hn0, hn1⟩, hc, hsm, hs, hb⟩
  have H1 := Lib.hid (show Below w.heap.size w w1 from hb)
  have Kl := Lib.hid hs
  have Cl := Lib.hid hc
  clear hs hc hb
  obtain ⟨⟨X, ok⟩, hr⟩ : ∃ r, nestR n l = r := ⟨_, rfl⟩
  cases ok with
  | false =>
    obtain rfl := nestR_false hr
    have HI := Lib.hid (fun (W : World) (p : Option Addr) (c : Nat) (q : List Nat) (h1 : LaySub W p l q) (h2 : l.length ≤ c) => (LayN.implNestLayout n l W p c q h1 h2 hsm.fits.2 hsm.fits.1 ⟨by omega, by omega⟩).mono fun e w' h => show LayN.LayOut W [] false e w' from by rw [hr] at h; exact h.out)
    have HS := Lib.hid (fun (W : World) (p : Option Addr) (c : Nat) (q : List Nat) (h1 : LaySub W p l q) (h2 : l.length ≤ c) => (LayN.specNestLayout n l W p c q h1 h2 hsm.fits.2 hsm.fits.1 ⟨by omega, by omega⟩).mono fun e w' h => show LayN.LayOut W [] false e w' from by rw [hr] at h; exact h.out)
    have HE := Lib.hid (fun (W : World) (p : Option Addr) (c : Nat) (q : List Nat) (p' : Option Addr) (c' : Nat) (q' : List Nat) (h1 : LaySub W p [] q) (h1' : LaySub W p' [] q') (h2 : [].length ≤ c) (h2' : [].length ≤ c') => (LaySm.implLayoutSame [] [] W p c q h1 p' c' q' h1' h2 h2' Small.nil.fits.2 Small.nil.fits.2).mono fun e w' h => show e = .returned (.bool true) ∧ Below W.heap.size W w' from by rw [decide_eq_true rfl] at h; exact h)
    clear hr hsm
    go_wp2_with fail
    refine (HI.out _ _ _ _ Kl.out Cl.out).mono ?_
    rintro e1 w2 ⟨px, cx, qx, rfl, hc, hs, hfr, hb⟩
    have Klq := Lib.hid (Kl.out.below Kl.out.lt hb)
    clear Kl
    have Kl := Lib.hid Klq.out
    clear Klq
    have H2 := Lib.hid (show Below w.heap.size w w2 from H1.out.trans (hb.mono H1.out.size))
    have Kx := Lib.hid hs
    have Cx := Lib.hid hc
    clear hs hc hfr hb
    go_wp2_with fail
    refine (HS.out _ _ _ _ Kl.out Cl.out).mono ?_
    rintro e1 w3 ⟨pw, cw, qw, rfl, hc, hs, hfr, hb⟩
    have Klq := Lib.hid (Kl.out.below Kl.out.lt hb)
    clear Kl
    have Kl := Lib.hid Klq.out
    clear Klq
    have Kxq := Lib.hid (Kx.out.below Kx.out.lt hb)
    clear Kx
    have Kx := Lib.hid Kxq.out
    clear Kxq
    have H3 := Lib.hid (show Below w.heap.size w w3 from H2.out.trans (hb.mono H2.out.size))
    have Kw := Lib.hid hs
    have Cw := Lib.hid hc
    clear hs hc hfr hb
    go_wp2_with fail
    refine (HE.out _ _ _ _ _ _ _ Kx.out Kw.out Cx.out Cw.out).mono ?_
    rintro e1 w4 ⟨rfl, hb⟩
    have Klq := Lib.hid (Kl.out.below Kl.out.lt hb)
    clear Kl
    have Kl := Lib.hid Klq.out
    clear Klq
    have Kxq := Lib.hid (Kx.out.below Kx.out.lt hb)
    clear Kx
    have Kx := Lib.hid Kxq.out
    clear Kxq
    have Kwq := Lib.hid (Kw.out.below Kw.out.lt hb)
    clear Kw
    have Kw := Lib.hid Kwq.out
    clear Kwq
    have H4 := Lib.hid (show Below w.heap.size w w4 from H3.out.trans (hb.mono H3.out.size))
    clear hb
    go_wp2_with fail
    refine (HE.out _ _ _ _ _ _ _ Kx.out Kw.out Cx.out Cw.out).mono ?_
    rintro e1 w5 ⟨rfl, hb⟩
    have Klq := Lib.hid (Kl.out.below Kl.out.lt hb)
    clear Kl
    have Kl := Lib.hid Klq.out
    clear Klq
    have Kxq := Lib.hid (Kx.out.below Kx.out.lt hb)
    clear Kx
    have Kx := Lib.hid Kxq.out
    clear Kxq
    have Kwq := Lib.hid (Kw.out.below Kw.out.lt hb)
    clear Kw
    have Kw := Lib.hid Kwq.out
    clear Kwq
    have H5 := Lib.hid (show Below w.heap.size w w5 from H4.out.trans (hb.mono H4.out.size))
    clear hb
    go_wp2_with fail
    go_ret
    exact ⟨rfl, H5.out⟩
  | true =>
    obtain ⟨hv, hn2, hn3, hX, hvX⟩ := nestR_true hr
    have hsX := Small.of_lv hvX
    have HI := Lib.hid (fun (W : World) (p : Option Addr) (c : Nat) (q : List Nat) (h1 : LaySub W p l q) (h2 : l.length ≤ c) => (LayN.implNestLayout n l W p c q h1 h2 hsm.fits.2 hsm.fits.1 ⟨by omega, by omega⟩).mono fun e w' h => show LayN.LayOut W X true e w' from by rw [hr] at h; exact h.out)
    have HS := Lib.hid (fun (W : World) (p : Option Addr) (c : Nat) (q : List Nat) (h1 : LaySub W p l q) (h2 : l.length ≤ c) => (LayN.specNestLayout n l W p c q h1 h2 hsm.fits.2 hsm.fits.1 ⟨by omega, by omega⟩).mono fun e w' h => show LayN.LayOut W X true e w' from by rw [hr] at h; exact h.out)
    have HE := Lib.hid (fun (W : World) (p : Option Addr) (c : Nat) (q : List Nat) (p' : Option Addr) (c' : Nat) (q' : List Nat) (h1 : LaySub W p X q) (h1' : LaySub W p' X q') (h2 : X.length ≤ c) (h2' : X.length ≤ c') => (LaySm.implLayoutSame X X W p c q h1 p' c' q' h1' h2 h2' hsX.fits.2 hsX.fits.2).mono fun e w' h => show e = .returned (.bool true) ∧ Below W.heap.size W w' from by rw [decide_eq_true rfl] at h; exact h)
    obtain ⟨⟨Y1, ok1⟩, hr1⟩ : ∃ r, nestR 1 X = r := ⟨_, rfl⟩
    obtain ⟨⟨Y2, ok2⟩, hr2⟩ : ∃ r, nestR (n + 1) l = r := ⟨_, rfl⟩
    have HN1 := Lib.hid (fun (W : World) (p : Option Addr) (c : Nat) (q : List Nat) (h1 : LaySub W p X q) (h2 : X.length ≤ c) => (LayN.implNestLayout 1 X W p c q h1 h2 hsX.fits.2 hsX.fits.1 ⟨by omega, by omega⟩).mono fun e w' h => show LayN.LayOut W Y1 ok1 e w' from by rw [hr1] at h; exact h.out)
    have HN2 := Lib.hid (fun (W : World) (p : Option Addr) (c : Nat) (q : List Nat) (h1 : LaySub W p l q) (h2 : l.length ≤ c) => (LayN.implNestLayout (n + 1) l W p c q h1 h2 hsm.fits.2 hsm.fits.1 ⟨by omega, by omega⟩).mono fun e w' h => show LayN.LayOut W Y2 ok2 e w' from by rw [hr2] at h; exact h.out)
    have HAT := Lib.hid (fun (k : Nat) (hk : k < l.length) => nestL_at (n := n) hX hv hk)
    have HLN := Lib.hid (show X.length = l.length ∧ 0 < l.length ∧ l.length ≤ 200 from ⟨by rw [hX, nestL_length], by have := lv_len hv; omega, (lv_len hv).2⟩)
    have hw1 : IntKind.i64.wrap (n + 1) = n + 1 := IntWalk.i64_in _ ⟨by omega, by omega⟩
    cases ok1 with
    | false =>
      clear hr hsm hv hX hvX hsX hr1 hr2
      go_wp2_with fail
      refine (HI.out _ _ _ _ Kl.out Cl.out).mono ?_
      rintro e1 w2 ⟨px, cx, qx, rfl, hc, hs, hfr, hb⟩
      have Klq := Lib.hid (Kl.out.below Kl.out.lt hb)
      clear Kl
      have Kl := Lib.hid Klq.out
      clear Klq
      have H2 := Lib.hid (show Below w.heap.size w w2 from H1.out.trans (hb.mono H1.out.size))
      have Kx := Lib.hid hs
      have Cx := Lib.hid hc
      clear hs hc hfr hb
      go_wp2_with fail
      refine (HS.out _ _ _ _ Kl.out Cl.out).mono ?_
      rintro e1 w3 ⟨pw, cw, qw, rfl, hc, hs, hfr, hb⟩
      have Klq := Lib.hid (Kl.out.below Kl.out.lt hb)
      clear Kl
      have Kl := Lib.hid Klq.out
      clear Klq
      have Kxq := Lib.hid (Kx.out.below Kx.out.lt hb)
      clear Kx
      have Kx := Lib.hid Kxq.out
      clear Kxq
      have H3 := Lib.hid (show Below w.heap.size w w3 from H2.out.trans (hb.mono H2.out.size))
      have Kw := Lib.hid hs
      have Cw := Lib.hid hc
      clear hs hc hfr hb
      go_wp2_with fail
      refine (HE.out _ _ _ _ _ _ _ Kx.out Kw.out Cx.out Cw.out).mono ?_
      rintro e1 w4 ⟨rfl, hb⟩
      have Klq := Lib.hid (Kl.out.below Kl.out.lt hb)
      clear Kl
      have Kl := Lib.hid Klq.out
      clear Klq
      have Kxq := Lib.hid (Kx.out.below Kx.out.lt hb)
      clear Kx
      have Kx := Lib.hid Kxq.out
      clear Kxq
      have Kwq := Lib.hid (Kw.out.below Kw.out.lt hb)
      clear Kw
      have Kw := Lib.hid Kwq.out
      clear Kwq
      have H4 := Lib.hid (show Below w.heap.size w w4 from H3.out.trans (hb.mono H3.out.size))
      clear hb
      go_wp2_with fail
      refine (HN1.out _ _ _ _ Kx.out Cx.out).mono ?_
      rintro e1 w5 ⟨py1, cy1, qy1, rfl, hc, hs, hfr, hb⟩
      have Klq := Lib.hid (Kl.out.below Kl.out.lt hb)
      clear Kl
      have Kl := Lib.hid Klq.out
      clear Klq
      have Kxq := Lib.hid (Kx.out.below Kx.out.lt hb)
      clear Kx
      have Kx := Lib.hid Kxq.out
      clear Kxq
      have Kwq := Lib.hid (Kw.out.below Kw.out.lt hb)
      clear Kw
      have Kw := Lib.hid Kwq.out
      clear Kwq
      have H5 := Lib.hid (show Below w.heap.size w w5 from H4.out.trans (hb.mono H4.out.size))
      have Ky1 := Lib.hid hs
      have Cy1 := Lib.hid hc
      clear hs hc hfr hb
      go_wp2_with fail
      refine (HN2.out _ _ _ _ Kl.out Cl.out).mono ?_
      rintro e1 w6 ⟨py2, cy2, qy2, rfl, hc, hs, hfr, hb⟩
      have Klq := Lib.hid (Kl.out.below Kl.out.lt hb)
      clear Kl
      have Kl := Lib.hid Klq.out
      clear Klq
      have Kxq := Lib.hid (Kx.out.below Kx.out.lt hb)
      clear Kx
      have Kx := Lib.hid Kxq.out
      clear Kxq
      have Kwq := Lib.hid (Kw.out.below Kw.out.lt hb)
      clear Kw
      have Kw := Lib.hid Kwq.out
      clear Kwq
      have Ky1q := Lib.hid (Ky1.out.below Ky1.out.lt hb)
      clear Ky1
      have Ky1 := Lib.hid Ky1q.out
      clear Ky1q
      have H6 := Lib.hid (show Below w.heap.size w w6 from H5.out.trans (hb.mono H5.out.size))
      have Ky2 := Lib.hid hs
      have Cy2 := Lib.hid hc
      clear hs hc hfr hb
      go_wp2_with fail
      obtain ⟨bx, ox, rfl, hrx, hbx⟩ := Kx.out.at (by have := HLN.out; omega)
      obtain ⟨bl, ol, rfl, hrl, hbl⟩ := Kl.out.at HLN.out.2.1
      have HR := Lib.hid (And.intro hrx (And.intro hbx (And.intro hrl hbl)))
      obtain ⟨m, hm⟩ : ∃ m, l.length = m := ⟨_, rfl⟩
      have hmx : X.length = m := HLN.out.1.trans hm
      have HM := Lib.hid (And.intro hmx hm)
      have hml : m ≤ 200 := by have := HLN.out.2.2; omega
      rw [hmx, hm]
      clear hrx hbx hrl hbl hm hmx
      go_loopw [13] (fun i wr => ∃ k : Nat, k ≤ m ∧ i = .int .i64 k ∧ Below w6.heap.size w6 wr) (fun i _ => m - (intOf i).toNat)
      case atStart => exact ⟨0, by omega, rfl, Below.refl _ _⟩
      case round =>
        obtain ⟨k, hk, rfl, hbw⟩ := hrel
        by_cases hkk : k < m
        · obtain ⟨hkx, i, j, t, hli, hxj, hj, hi0, hi1, hts⟩ := HAT.out k (by have := HM.out; omega)
          have hx := HR.out.1.below HR.out.2.1 hbw
          have hl := HR.out.2.2.1.below HR.out.2.2.2 hbw
          obtain ⟨c0, c1⟩ := hx k hkx
          obtain ⟨d0, d1⟩ := hl k (by have := HM.out; omega)
          rw [hxj] at c0 c1
          rw [hli] at d0 d1
          simp only at c0 c1 d0 d1
          have i0 : (0 : Int) ≤ (k : Int) := Int.natCast_nonneg _
          have i1 : (k : Int) < (m : Int) := by omega
          have hw2 : IntKind.i64.wrap (i + n) = i + n := IntWalk.i64_in _ ⟨by omega, by omega⟩
          have hw3 : IntKind.i64.wrap ((k : Int) + 1) = (k : Int) + 1 := IntWalk.i64_in _ ⟨by omega, by omega⟩
          clear hx hl hkx hli hxj hts
          rcases Nat.eq_zero_or_pos k with rfl | h0
          · have hg : decide ((0 : Int) < ((0 : Nat) : Int)) = false := rfl
            clear hj hw2
            go_wp2_with fail
            go_quiet (skip)
            go_wp2_with fail
            go_roundw
            case rel => exact ⟨1, by omega, rfl, LaySm.below_drewN hbw _⟩
            case measure => simp [intOf]; omega
          · obtain rfl := hj h0
            have hg : decide ((0 : Int) < (k : Int)) = true := by simp; omega
            have hg2 : (0 : Int) < (k : Int) := by omega
            have hnn : ((i + n) != (i + n)) = false := by simp
            go_wp2_with fail
            go_quiet (skip)
            go_wp2_with fail
            go_roundw
            case rel => exact ⟨k + 1, by omega, by go_num, LaySm.below_drewN hbw _⟩
            case measure => simp [intOf]; omega
        · obtain rfl : k = m := by omega
          obtain ⟨w7, hwr⟩ : ∃ W, W = wr := ⟨_, rfl⟩
          subst hwr
          clear hkk
          have Klq := Lib.hid (Kl.out.below Kl.out.lt hbw)
          clear Kl
          have Kl := Lib.hid Klq.out
          clear Klq
          have Kxq := Lib.hid (Kx.out.below Kx.out.lt hbw)
          clear Kx
          have Kx := Lib.hid Kxq.out
          clear Kxq
          have Kwq := Lib.hid (Kw.out.below Kw.out.lt hbw)
          clear Kw
          have Kw := Lib.hid Kwq.out
          clear Kwq
          have Ky1q := Lib.hid (Ky1.out.below Ky1.out.lt hbw)
          clear Ky1
          have Ky1 := Lib.hid Ky1q.out
          clear Ky1q
          have Ky2q := Lib.hid (Ky2.out.below Ky2.out.lt hbw)
          clear Ky2
          have Ky2 := Lib.hid Ky2q.out
          clear Ky2q
          have H7 := Lib.hid (show Below w.heap.size w w7 from H6.out.trans (hbw.mono H6.out.size))
          clear hbw
          go_wp2_with fail
          go_ret
          exact ⟨rfl, H7.out⟩
    | true =>
      cases ok2 with
      | false =>
        clear hr hsm hv hX hvX hsX hr1 hr2
        go_wp2_with fail
        refine (HI.out _ _ _ _ Kl.out Cl.out).mono ?_
        rintro e1 w2 ⟨px, cx, qx, rfl, hc, hs, hfr, hb⟩
        have Klq := Lib.hid (Kl.out.below Kl.out.lt hb)
        clear Kl
        have Kl := Lib.hid Klq.out
        clear Klq
        have H2 := Lib.hid (show Below w.heap.size w w2 from H1.out.trans (hb.mono H1.out.size))
        have Kx := Lib.hid hs
        have Cx := Lib.hid hc
        clear hs hc hfr hb
        go_wp2_with fail
        refine (HS.out _ _ _ _ Kl.out Cl.out).mono ?_
        rintro e1 w3 ⟨pw, cw, qw, rfl, hc, hs, hfr, hb⟩
        have Klq := Lib.hid (Kl.out.below Kl.out.lt hb)
        clear Kl
        have Kl := Lib.hid Klq.out
        clear Klq
        have Kxq := Lib.hid (Kx.out.below Kx.out.lt hb)
        clear Kx
        have Kx := Lib.hid Kxq.out
        clear Kxq
        have H3 := Lib.hid (show Below w.heap.size w w3 from H2.out.trans (hb.mono H2.out.size))
        have Kw := Lib.hid hs
        have Cw := Lib.hid hc
        clear hs hc hfr hb
        go_wp2_with fail
        refine (HE.out _ _ _ _ _ _ _ Kx.out Kw.out Cx.out Cw.out).mono ?_
        rintro e1 w4 ⟨rfl, hb⟩
        have Klq := Lib.hid (Kl.out.below Kl.out.lt hb)
        clear Kl
        have Kl := Lib.hid Klq.out
        clear Klq
        have Kxq := Lib.hid (Kx.out.below Kx.out.lt hb)
        clear Kx
        have Kx := Lib.hid Kxq.out
        clear Kxq
        have Kwq := Lib.hid (Kw.out.below Kw.out.lt hb)
        clear Kw
        have Kw := Lib.hid Kwq.out
        clear Kwq
        have H4 := Lib.hid (show Below w.heap.size w w4 from H3.out.trans (hb.mono H3.out.size))
        clear hb
        go_wp2_with fail
        refine (HN1.out _ _ _ _ Kx.out Cx.out).mono ?_
        rintro e1 w5 ⟨py1, cy1, qy1, rfl, hc, hs, hfr, hb⟩
        have Klq := Lib.hid (Kl.out.below Kl.out.lt hb)
        clear Kl
        have Kl := Lib.hid Klq.out
        clear Klq
        have Kxq := Lib.hid (Kx.out.below Kx.out.lt hb)
        clear Kx
        have Kx := Lib.hid Kxq.out
        clear Kxq
        have Kwq := Lib.hid (Kw.out.below Kw.out.lt hb)
        clear Kw
        have Kw := Lib.hid Kwq.out
        clear Kwq
        have H5 := Lib.hid (show Below w.heap.size w w5 from H4.out.trans (hb.mono H4.out.size))
        have Ky1 := Lib.hid hs
        have Cy1 := Lib.hid hc
        clear hs hc hfr hb
        go_wp2_with fail
        refine (HN2.out _ _ _ _ Kl.out Cl.out).mono ?_
        rintro e1 w6 ⟨py2, cy2, qy2, rfl, hc, hs, hfr, hb⟩
        have Klq := Lib.hid (Kl.out.below Kl.out.lt hb)
        clear Kl
        have Kl := Lib.hid Klq.out
        clear Klq
        have Kxq := Lib.hid (Kx.out.below Kx.out.lt hb)
        clear Kx
        have Kx := Lib.hid Kxq.out
        clear Kxq
        have Kwq := Lib.hid (Kw.out.below Kw.out.lt hb)
        clear Kw
        have Kw := Lib.hid Kwq.out
        clear Kwq
        have Ky1q := Lib.hid (Ky1.out.below Ky1.out.lt hb)
        clear Ky1
        have Ky1 := Lib.hid Ky1q.out
        clear Ky1q
        have H6 := Lib.hid (show Below w.heap.size w w6 from H5.out.trans (hb.mono H5.out.size))
        have Ky2 := Lib.hid hs
        have Cy2 := Lib.hid hc
        clear hs hc hfr hb
        go_wp2_with fail
        obtain ⟨bx, ox, rfl, hrx, hbx⟩ := Kx.out.at (by have := HLN.out; omega)
        obtain ⟨bl, ol, rfl, hrl, hbl⟩ := Kl.out.at HLN.out.2.1
        have HR := Lib.hid (And.intro hrx (And.intro hbx (And.intro hrl hbl)))
        obtain ⟨m, hm⟩ : ∃ m, l.length = m := ⟨_, rfl⟩
        have hmx : X.length = m := HLN.out.1.trans hm
        have HM := Lib.hid (And.intro hmx hm)
        have hml : m ≤ 200 := by have := HLN.out.2.2; omega
        rw [hmx, hm]
        clear hrx hbx hrl hbl hm hmx
        go_loopw [13] (fun i wr => ∃ k : Nat, k ≤ m ∧ i = .int .i64 k ∧ Below w6.heap.size w6 wr) (fun i _ => m - (intOf i).toNat)
        case atStart => exact ⟨0, by omega, rfl, Below.refl _ _⟩
        case round =>
          obtain ⟨k, hk, rfl, hbw⟩ := hrel
          by_cases hkk : k < m
          · obtain ⟨hkx, i, j, t, hli, hxj, hj, hi0, hi1, hts⟩ := HAT.out k (by have := HM.out; omega)
            have hx := HR.out.1.below HR.out.2.1 hbw
            have hl := HR.out.2.2.1.below HR.out.2.2.2 hbw
            obtain ⟨c0, c1⟩ := hx k hkx
            obtain ⟨d0, d1⟩ := hl k (by have := HM.out; omega)
            rw [hxj] at c0 c1
            rw [hli] at d0 d1
            simp only at c0 c1 d0 d1
            have i0 : (0 : Int) ≤ (k : Int) := Int.natCast_nonneg _
            have i1 : (k : Int) < (m : Int) := by omega
            have hw2 : IntKind.i64.wrap (i + n) = i + n := IntWalk.i64_in _ ⟨by omega, by omega⟩
            have hw3 : IntKind.i64.wrap ((k : Int) + 1) = (k : Int) + 1 := IntWalk.i64_in _ ⟨by omega, by omega⟩
            clear hx hl hkx hli hxj hts
            rcases Nat.eq_zero_or_pos k with rfl | h0
            · have hg : decide ((0 : Int) < ((0 : Nat) : Int)) = false := rfl
              clear hj hw2
              go_wp2_with fail
              go_quiet (skip)
              go_wp2_with fail
              go_roundw
              case rel => exact ⟨1, by omega, rfl, LaySm.below_drewN hbw _⟩
              case measure => simp [intOf]; omega
            · obtain rfl := hj h0
              have hg : decide ((0 : Int) < (k : Int)) = true := by simp; omega
              have hg2 : (0 : Int) < (k : Int) := by omega
              have hnn : ((i + n) != (i + n)) = false := by simp
              go_wp2_with fail
              go_quiet (skip)
              go_wp2_with fail
              go_roundw
              case rel => exact ⟨k + 1, by omega, by go_num, LaySm.below_drewN hbw _⟩
              case measure => simp [intOf]; omega
          · obtain rfl : k = m := by omega
            obtain ⟨w7, hwr⟩ : ∃ W, W = wr := ⟨_, rfl⟩
            subst hwr
            clear hkk
            have Klq := Lib.hid (Kl.out.below Kl.out.lt hbw)
            clear Kl
            have Kl := Lib.hid Klq.out
            clear Klq
            have Kxq := Lib.hid (Kx.out.below Kx.out.lt hbw)
            clear Kx
            have Kx := Lib.hid Kxq.out
            clear Kxq
            have Kwq := Lib.hid (Kw.out.below Kw.out.lt hbw)
            clear Kw
            have Kw := Lib.hid Kwq.out
            clear Kwq
            have Ky1q := Lib.hid (Ky1.out.below Ky1.out.lt hbw)
            clear Ky1
            have Ky1 := Lib.hid Ky1q.out
            clear Ky1q
            have Ky2q := Lib.hid (Ky2.out.below Ky2.out.lt hbw)
            clear Ky2
            have Ky2 := Lib.hid Ky2q.out
            clear Ky2q
            have H7 := Lib.hid (show Below w.heap.size w w7 from H6.out.trans (hbw.mono H6.out.size))
            clear hbw
            go_wp2_with fail
            go_ret
            exact ⟨rfl, H7.out⟩
      | true =>
        obtain ⟨_, _, _, hY1, hv1⟩ := nestR_true hr1
        obtain ⟨_, _, _, hY2, hv2⟩ := nestR_true hr2
        have hs1 := Small.of_lv hv1
        have hs2 := Small.of_lv hv2
        have hY : Y1 = Y2 := by rw [hY1, hY2, hX]; exact nestL_add 1 n l
        have HF := Lib.hid (fun (W : World) (p : Option Addr) (c : Nat) (q : List Nat) (p' : Option Addr) (c' : Nat) (q' : List Nat) (h1 : LaySub W p Y1 q) (h1' : LaySub W p' Y2 q') (h2 : Y1.length ≤ c) (h2' : Y2.length ≤ c') => (LaySm.implLayoutSame Y1 Y2 W p c q h1 p' c' q' h1' h2 h2' hs1.fits.2 hs2.fits.2).mono fun e w' h => show e = .returned (.bool true) ∧ Below W.heap.size W w' from by rw [decide_eq_true hY] at h; exact h)
        clear hr hsm hv hX hvX hsX hr1 hr2 hY1 hv1 hY2 hv2 hs1 hs2 hY
        go_wp2_with fail
        refine (HI.out _ _ _ _ Kl.out Cl.out).mono ?_
        rintro e1 w2 ⟨px, cx, qx, rfl, hc, hs, hfr, hb⟩
        have Klq := Lib.hid (Kl.out.below Kl.out.lt hb)
        clear Kl
        have Kl := Lib.hid Klq.out
        clear Klq
        have H2 := Lib.hid (show Below w.heap.size w w2 from H1.out.trans (hb.mono H1.out.size))
        have Kx := Lib.hid hs
        have Cx := Lib.hid hc
        clear hs hc hfr hb
        go_wp2_with fail
        refine (HS.out _ _ _ _ Kl.out Cl.out).mono ?_
        rintro e1 w3 ⟨pw, cw, qw, rfl, hc, hs, hfr, hb⟩
        have Klq := Lib.hid (Kl.out.below Kl.out.lt hb)
        clear Kl
        have Kl := Lib.hid Klq.out
        clear Klq
        have Kxq := Lib.hid (Kx.out.below Kx.out.lt hb)
        clear Kx
        have Kx := Lib.hid Kxq.out
        clear Kxq
        have H3 := Lib.hid (show Below w.heap.size w w3 from H2.out.trans (hb.mono H2.out.size))
        have Kw := Lib.hid hs
        have Cw := Lib.hid hc
        clear hs hc hfr hb
        go_wp2_with fail
        refine (HE.out _ _ _ _ _ _ _ Kx.out Kw.out Cx.out Cw.out).mono ?_
        rintro e1 w4 ⟨rfl, hb⟩
        have Klq := Lib.hid (Kl.out.below Kl.out.lt hb)
        clear Kl
        have Kl := Lib.hid Klq.out
        clear Klq
        have Kxq := Lib.hid (Kx.out.below Kx.out.lt hb)
        clear Kx
        have Kx := Lib.hid Kxq.out
        clear Kxq
        have Kwq := Lib.hid (Kw.out.below Kw.out.lt hb)
        clear Kw
        have Kw := Lib.hid Kwq.out
        clear Kwq
        have H4 := Lib.hid (show Below w.heap.size w w4 from H3.out.trans (hb.mono H3.out.size))
        clear hb
        go_wp2_with fail
        refine (HN1.out _ _ _ _ Kx.out Cx.out).mono ?_
        rintro e1 w5 ⟨py1, cy1, qy1, rfl, hc, hs, hfr, hb⟩
        have Klq := Lib.hid (Kl.out.below Kl.out.lt hb)
        clear Kl
        have Kl := Lib.hid Klq.out
        clear Klq
        have Kxq := Lib.hid (Kx.out.below Kx.out.lt hb)
        clear Kx
        have Kx := Lib.hid Kxq.out
        clear Kxq
        have Kwq := Lib.hid (Kw.out.below Kw.out.lt hb)
        clear Kw
        have Kw := Lib.hid Kwq.out
        clear Kwq
        have H5 := Lib.hid (show Below w.heap.size w w5 from H4.out.trans (hb.mono H4.out.size))
        have Ky1 := Lib.hid hs
        have Cy1 := Lib.hid hc
        clear hs hc hfr hb
        go_wp2_with fail
        refine (HN2.out _ _ _ _ Kl.out Cl.out).mono ?_
        rintro e1 w6 ⟨py2, cy2, qy2, rfl, hc, hs, hfr, hb⟩
        have Klq := Lib.hid (Kl.out.below Kl.out.lt hb)
        clear Kl
        have Kl := Lib.hid Klq.out
        clear Klq
        have Kxq := Lib.hid (Kx.out.below Kx.out.lt hb)
        clear Kx
        have Kx := Lib.hid Kxq.out
        clear Kxq
        have Kwq := Lib.hid (Kw.out.below Kw.out.lt hb)
        clear Kw
        have Kw := Lib.hid Kwq.out
        clear Kwq
        have Ky1q := Lib.hid (Ky1.out.below Ky1.out.lt hb)
        clear Ky1
        have Ky1 := Lib.hid Ky1q.out
        clear Ky1q
        have H6 := Lib.hid (show Below w.heap.size w w6 from H5.out.trans (hb.mono H5.out.size))
        have Ky2 := Lib.hid hs
        have Cy2 := Lib.hid hc
        clear hs hc hfr hb
        go_wp2_with fail
        obtain ⟨bx, ox, rfl, hrx, hbx⟩ := Kx.out.at (by have := HLN.out; omega)
        obtain ⟨bl, ol, rfl, hrl, hbl⟩ := Kl.out.at HLN.out.2.1
        have HR := Lib.hid (And.intro hrx (And.intro hbx (And.intro hrl hbl)))
        obtain ⟨m, hm⟩ : ∃ m, l.length = m := ⟨_, rfl⟩
        have hmx : X.length = m := HLN.out.1.trans hm
        have HM := Lib.hid (And.intro hmx hm)
        have hml : m ≤ 200 := by have := HLN.out.2.2; omega
        rw [hmx, hm]
        clear hrx hbx hrl hbl hm hmx
        go_loopw [13] (fun i wr => ∃ k : Nat, k ≤ m ∧ i = .int .i64 k ∧ Below w6.heap.size w6 wr) (fun i _ => m - (intOf i).toNat)
        case atStart => exact ⟨0, by omega, rfl, Below.refl _ _⟩
        case round =>
          obtain ⟨k, hk, rfl, hbw⟩ := hrel
          by_cases hkk : k < m
          · obtain ⟨hkx, i, j, t, hli, hxj, hj, hi0, hi1, hts⟩ := HAT.out k (by have := HM.out; omega)
            have hx := HR.out.1.below HR.out.2.1 hbw
            have hl := HR.out.2.2.1.below HR.out.2.2.2 hbw
            obtain ⟨c0, c1⟩ := hx k hkx
            obtain ⟨d0, d1⟩ := hl k (by have := HM.out; omega)
            rw [hxj] at c0 c1
            rw [hli] at d0 d1
            simp only at c0 c1 d0 d1
            have i0 : (0 : Int) ≤ (k : Int) := Int.natCast_nonneg _
            have i1 : (k : Int) < (m : Int) := by omega
            have hw2 : IntKind.i64.wrap (i + n) = i + n := IntWalk.i64_in _ ⟨by omega, by omega⟩
            have hw3 : IntKind.i64.wrap ((k : Int) + 1) = (k : Int) + 1 := IntWalk.i64_in _ ⟨by omega, by omega⟩
            clear hx hl hkx hli hxj hts
            rcases Nat.eq_zero_or_pos k with rfl | h0
            · have hg : decide ((0 : Int) < ((0 : Nat) : Int)) = false := rfl
              clear hj hw2
              go_wp2_with fail
              go_quiet (skip)
              go_wp2_with fail
              go_roundw
              case rel => exact ⟨1, by omega, rfl, LaySm.below_drewN hbw _⟩
              case measure => simp [intOf]; omega
            · obtain rfl := hj h0
              have hg : decide ((0 : Int) < (k : Int)) = true := by simp; omega
              have hg2 : (0 : Int) < (k : Int) := by omega
              have hnn : ((i + n) != (i + n)) = false := by simp
              go_wp2_with fail
              go_quiet (skip)
              go_wp2_with fail
              go_roundw
              case rel => exact ⟨k + 1, by omega, by go_num, LaySm.below_drewN hbw _⟩
              case measure => simp [intOf]; omega
          · obtain rfl : k = m := by omega
            obtain ⟨w7, hwr⟩ : ∃ W, W = wr := ⟨_, rfl⟩
            subst hwr
            clear hkk
            have Klq := Lib.hid (Kl.out.below Kl.out.lt hbw)
            clear Kl
            have Kl := Lib.hid Klq.out
            clear Klq
            have Kxq := Lib.hid (Kx.out.below Kx.out.lt hbw)
            clear Kx
            have Kx := Lib.hid Kxq.out
            clear Kxq
            have Kwq := Lib.hid (Kw.out.below Kw.out.lt hbw)
            clear Kw
            have Kw := Lib.hid Kwq.out
            clear Kwq
            have Ky1q := Lib.hid (Ky1.out.below Ky1.out.lt hbw)
            clear Ky1
            have Ky1 := Lib.hid Ky1q.out
            clear Ky1q
            have Ky2q := Lib.hid (Ky2.out.below Ky2.out.lt hbw)
            clear Ky2
            have Ky2 := Lib.hid Ky2q.out
            clear Ky2q
            have H7 := Lib.hid (show Below w.heap.size w w7 from H6.out.trans (hbw.mono H6.out.size))
            clear hbw
            go_wp2_with fail
            refine (HF.out _ _ _ _ _ _ _ Ky1.out Ky2.out Cy1.out Cy2.out).mono ?_
            rintro e1 w8 ⟨rfl, hb⟩
            have Klq := Lib.hid (Kl.out.below Kl.out.lt hb)
            clear Kl
            have Kl := Lib.hid Klq.out
            clear Klq
            have Kxq := Lib.hid (Kx.out.below Kx.out.lt hb)
            clear Kx
            have Kx := Lib.hid Kxq.out
            clear Kxq
            have Kwq := Lib.hid (Kw.out.below Kw.out.lt hb)
            clear Kw
            have Kw := Lib.hid Kwq.out
            clear Kwq
            have Ky1q := Lib.hid (Ky1.out.below Ky1.out.lt hb)
            clear Ky1
            have Ky1 := Lib.hid Ky1q.out
            clear Ky1q
            have Ky2q := Lib.hid (Ky2.out.below Ky2.out.lt hb)
            clear Ky2
            have Ky2 := Lib.hid Ky2q.out
            clear Ky2q
            have H8 := Lib.hid (show Below w.heap.size w w8 from H7.out.trans (hb.mono H7.out.size))
            clear hb
            go_wp2_with fail
            go_ret
            exact ⟨rfl, H8.out⟩

set_option maxHeartbeats 800000 in
theorem walk_big (w : World) (a0 : Option Addr) (len0 cap0 : Nat) (hlc0 : len0 ≤ cap0) (hcm0 : cap0 ≤ maxLen) (hbig : 1048576 < len0) :
    Calls Try.prog 4 #[.slice a0 len0 cap0] w fun e w' => e = .returned (.bool true) ∧ Below w.heap.size w w' := by
  unfold maxLen at hcm0
  go_enter Try.func4, Try.ntmps4
  go_wp2_with fail
  go_ret
  exact ⟨rfl, Below.refl _ _⟩

theorem walk (w : World) (a0 : Option Addr) (len0 cap0 : Nat) (hb0 : Bytes w a0 len0) (hlc0 : len0 ≤ cap0) (hcm0 : cap0 ≤ maxLen) :
    Calls Try.prog 4 #[.slice a0 len0 cap0] w fun e w' => e = .returned (.bool true) ∧ Below w.heap.size w w' := by
  by_cases hbig : 1048576 < len0
  · exact walk_big w a0 len0 cap0 hlc0 hcm0 hbig
  · exact walk_good w a0 len0 cap0 hb0 hlc0 hcm0 (by omega)

set_option maxRecDepth 100000 in
theorem lifted (os : Os) (started : os.Started) (H : Type) (enc : TypeId × Value → H) :
    ReturnsInHanded {} Try.checked os 4 .any (Rows.fnNestLayoutSpec.pre6 enc Try.prog Try.f4 Rows.fnNestLayoutRow.domain false) (Rows.fnNestLayoutSpec.post enc Try.prog Try.f4 false true false false) := by
  refine returnsInHanded_of_change (C := Try.checked) Facts.own started (by kernel_rfl) Try.func4
    (ChangeSpec.witness6 (enc := enc) (C := Try.checked) false ⟨#[], #[.slice none 0 0], []⟩ 8 (by kernel_rfl) (by kernel_rfl) (by kernel_rfl) (by kernel_rfl)) ?_
  intro W base args ds gs before hval0 hW hcnd0 _
  clear hcnd0
  have hval : ∀ (j : Nat) t v, Try.f4.params[j]? = some t → args[j]? = some v → Value.okWide Try.prog W .any base t v := hval0
  have hW' := hW
  obtain ⟨p, q, hA0, hV, rfl, hfz, hnd⟩ := hW
  have hA : DataW.TrodAll enc Try.prog W 0 (fun _ => true) true Try.f4.params.toList args.toList ds p := hA0
  rw [Try.params4] at hA hval
  obtain ⟨v0, d0, rfl, rfl, h0⟩ := trodAll_one hA
  obtain ⟨rfl, rfl⟩ := trodVars_none hV
  obtain ⟨a0, len0, cap0, rfl⟩ := okWide_slice Try.underlying22 (hval 0 22 v0 rfl rfl)
  clear hA0 hval0
  simp only [List.append_nil] at hW'
  have hlt : ∀ x ∈ p, x.block < W.heap.size := fun x hx => by simpa using hW'.lt x hx
  obtain ⟨hb0, hlc0, hcm0⟩ := opened h0
  refine (walk W a0 len0 cap0 hb0 hlc0 hcm0).mono fun e W' ⟨he, hb⟩ => ?_
  subst he
  refine ⟨_, rfl, [_], [], p, [], p, [], hW', trodAll_mk1 (shut_bool Try.underlying4 _), ?_, rfl, hb.frame _, fun h => by cases h⟩
  exact trodAll_mk1 (Below.trod Facts.laidOut (by kernel_rfl) (of_decide_eq_true (by kernel_rfl)) h0 hb hlt)

theorem named : Try.prog.funcNamed Rows.fnNestLayoutRow.func = some 4 := by kernel_rfl
theorem closed : joinedFacts Try.prog 4 Try.f4 Rows.fnNestLayoutSpec Rows.fnNestLayoutRow = true :=
  Facts.closed_of rfl rfl rfl rfl (h28b := rfl) (by kernel_rfl) (by kernel_rfl) (by kernel_rfl) (by kernel_rfl) (by kernel_rfl) (by kernel_rfl) (by kernel_rfl) (by kernel_rfl) (by kernel_rfl) (by kernel_rfl) (by kernel_rfl) (by kernel_rfl) (by kernel_rfl) (by kernel_rfl) (by kernel_rfl) (by kernel_rfl) (by kernel_rfl) (by kernel_rfl) (by kernel_rfl) (by kernel_rfl) (by kernel_rfl) (by kernel_rfl) (by kernel_rfl) (by kernel_rfl)
theorem instanced : Try.f4.isInstance Try.prog Rows.fnNestLayoutRow.origin Rows.fnNestLayoutRow.targs := of_decide_eq_true (by kernel_rfl)
theorem wrapped : Try.f4.isWrapper Try.prog Rows.fnNestLayoutRow.wrapper Rows.fnNestLayoutRow.mainSum := by
  unfold Func.isWrapper
  rw [if_neg (of_decide_eq_false (by kernel_rfl))]
  exact ⟨rfl, rfl⟩

theorem holds : Rows.FnNestLayoutSaid :=
  OpenClaim.holds_of_wide 4 Try.f4 rfl rfl rfl rfl rfl rfl rfl ⟨rfl, rfl, rfl, rfl, rfl⟩ rfl rfl rfl rfl rfl named Try.func4 closed instanced wrapped
    (fun os started H enc _ => lifted os started H enc)

end Go.Proofs.Ytgnpcfafdjebeaa.lawDNestLayout
