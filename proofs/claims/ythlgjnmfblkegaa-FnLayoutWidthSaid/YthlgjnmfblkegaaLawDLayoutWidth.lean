import Derived.Test.YthlgjnmfblkegaaDrG
import Derived.Test.YthlgjnmfblkegaaLayO
import Derived.Test.YthlgjnmfblkegaaLayW2
import Derived.Test.YthlgjnmfblkegaaLayT
import Derived.Test.YthlgjnmfblkegaaLayZP
import Derived.Test.YthlgjnmfblkegaaLyA
import Derived.Test.YthlgjnmfblkegaaLayQ
import Derived.Test.YthlgjnmfblkegaaLawB
import Derived.IntWalk
import Derived.Test.YthlgjnmfblkegaaFacts
import Derived.Test.YthlgjnmfblkegaaRows
/-
  Some bytes lie beyond a width exactly where the longest line is longer, and the text of a layout has a newline between two lines: the law FnLayoutWidth returns true for whatever draws, and its argument reads as it did. No condition of ours.
-/
set_option linter.unusedVariables false
set_option linter.unusedSimpArgs false
namespace Go.Proofs.Ythlgjnmfblkegaa.lawDLayoutWidth
open Go.ChangeShapes Go.WideShapes Go.ChangeAt Go.RowKit P1 Draw6 DrE LawB

theorem lo_x {l : List (Int × ByteArray)} (h : lv l = true) {x : Int} (hx : 0 ≤ x) {N Wd : Int} (hN : lo l x = N) (hW : lw l = Wd) : decide (0 < N) = decide (x < Wd) := by
  rw [← hN, ← hW, lo_yes h hx, lw_yes h]; exact over_wide hx l

set_option maxRecDepth 100000 in
set_option maxHeartbeats 12800000 in
theorem walk_good (w : World) (a0 : Option Addr) (len0 cap0 : Nat) (hb0 : Bytes w a0 len0) (hlc0 : len0 ≤ cap0) (hcm0 : cap0 ≤ maxLen) (hl0 : len0 ≤ 1048576) :
    Calls Try.prog 3 #[.slice a0 len0 cap0] w fun e w' => e = .returned (.bool true) ∧ Below w.heap.size w w' := by
  have HD0 := Lib.hid (fun (W : World) (h : Below w.heap.size w W) => DrG.drawOver W a0 len0 cap0 (bytes_below hb0 h) hlc0 hcm0)
  clear hb0
  unfold maxLen at hcm0
  go_enter Try.func3, Try.ntmps3
  go_wp2_with fail
  refine (HD0.out _ (Below.refl _ _)).mono ?_
  rintro e1 w1 ⟨x, l, pl, cl, ql, rfl, ⟨hx0, hx1⟩, hc, hsm, hs, hb⟩
  have H1 := Lib.hid (show Below w.heap.size w w1 from hb)
  have Kl := Lib.hid hs
  have Cl := Lib.hid hc
  clear hs hc hb
  obtain ⟨N, hN⟩ : ∃ N, lo l x = N := ⟨_, rfl⟩
  obtain ⟨Wd, hW⟩ : ∃ N, lw l = N := ⟨_, rfl⟩
  obtain ⟨T, hT⟩ : ∃ T, lt8 l = T := ⟨_, rfl⟩
  have hTs : T.size ≤ 480000 := hT ▸ lt8_size
  have hNN : (N != N) = false := by simp
  have hNe : (N == N) = true := by simp
  have hWW : (Wd != Wd) = false := by simp
  have hWe : (Wd == Wd) = true := by simp
  have hTT : (T.toList == T.toList) = true := by simp
  have HO := Lib.hid (fun (W : World) (p : Option Addr) (c : Nat) (q : List Nat) (h1 : LaySub W p l q) (h2 : l.length ≤ c) => (LayW.implOverflow l x W p c q h1 h2 hsm.fits.2 hsm.fits.1 ⟨by omega, by omega⟩).mono fun e w' h => show e = .returned (.int .i64 N) ∧ Below W.heap.size W w' from by rw [hN] at h; exact h)
  have HOS := Lib.hid (fun (W : World) (p : Option Addr) (c : Nat) (q : List Nat) (h1 : LaySub W p l q) (h2 : l.length ≤ c) => (LayW.specOverflow l x W p c q h1 h2 hsm.fits.2 hsm.fits.1 ⟨by omega, by omega⟩).mono fun e w' h => show e = .returned (.int .i64 N) ∧ Below W.heap.size W w' from by rw [hN] at h; exact h)
  have HW := Lib.hid (fun (W : World) (p : Option Addr) (c : Nat) (q : List Nat) (h1 : LaySub W p l q) (h2 : l.length ≤ c) => (LayW.implLayoutWidth l W p c q h1 h2 hsm.fits.2 hsm.fits.1).mono fun e w' h => show e = .returned (.int .i64 Wd) ∧ Below W.heap.size W w' from by rw [hW] at h; exact h)
  have HWS := Lib.hid (fun (W : World) (p : Option Addr) (c : Nat) (q : List Nat) (h1 : LaySub W p l q) (h2 : l.length ≤ c) => (LayW.specLayoutWidth l W p c q h1 h2 hsm.fits.2 hsm.fits.1).mono fun e w' h => show e = .returned (.int .i64 Wd) ∧ Below W.heap.size W w' from by rw [hW] at h; exact h)
  have HT := Lib.hid (fun (W : World) (p : Option Addr) (c : Nat) (q : List Nat) (h1 : LaySub W p l q) (h2 : l.length ≤ c) => (LayT.implLayoutText l W p c q h1 h2 hsm.fits.2 hsm.fits.1).mono fun e w' h => show e = .returned (.string T) ∧ Below W.heap.size W w' from by rw [hT] at h; exact h)
  have HTS := Lib.hid (fun (W : World) (p : Option Addr) (c : Nat) (q : List Nat) (h1 : LaySub W p l q) (h2 : l.length ≤ c) => (LayT.specLayoutText l W p c q h1 h2 hsm.fits.2 hsm.fits.1).mono fun e w' h => show e = .returned (.string T) ∧ Below W.heap.size W w' from by rw [hT] at h; exact h)
  cases hv : lv l with
  | false =>
    have HV := Lib.hid (fun (W : World) (p : Option Addr) (c : Nat) (q : List Nat) (h1 : LaySub W p l q) (h2 : l.length ≤ c) => (LayV.implLayoutValid l W p c q h1 h2 hsm.fits.2 hsm.fits.1).mono fun e w' h => show e = .returned (.bool false) ∧ Below W.heap.size W w' from by rw [hv] at h; exact h)
    clear hv hN hW hT hsm
    go_wp2_with fail
    refine (HO.out _ _ _ _ Kl.out Cl.out).mono ?_
    rintro e1 w2 ⟨rfl, hb⟩
    have Klq := Lib.hid (Kl.out.below Kl.out.lt hb)
    clear Kl
    have Kl := Lib.hid Klq.out
    clear Klq
    have H2 := Lib.hid (show Below w.heap.size w w2 from H1.out.trans (hb.mono H1.out.size))
    clear hb
    go_wp2_with fail
    refine (HW.out _ _ _ _ Kl.out Cl.out).mono ?_
    rintro e1 w3 ⟨rfl, hb⟩
    have Klq := Lib.hid (Kl.out.below Kl.out.lt hb)
    clear Kl
    have Kl := Lib.hid Klq.out
    clear Klq
    have H3 := Lib.hid (show Below w.heap.size w w3 from H2.out.trans (hb.mono H2.out.size))
    clear hb
    go_wp2_with fail
    refine (HT.out _ _ _ _ Kl.out Cl.out).mono ?_
    rintro e1 w4 ⟨rfl, hb⟩
    have Klq := Lib.hid (Kl.out.below Kl.out.lt hb)
    clear Kl
    have Kl := Lib.hid Klq.out
    clear Klq
    have H4 := Lib.hid (show Below w.heap.size w w4 from H3.out.trans (hb.mono H3.out.size))
    clear hb
    go_wp2_with fail
    refine (HOS.out _ _ _ _ Kl.out Cl.out).mono ?_
    rintro e1 w5 ⟨rfl, hb⟩
    have Klq := Lib.hid (Kl.out.below Kl.out.lt hb)
    clear Kl
    have Kl := Lib.hid Klq.out
    clear Klq
    have H5 := Lib.hid (show Below w.heap.size w w5 from H4.out.trans (hb.mono H4.out.size))
    clear hb
    go_wp2_with fail
    refine (HWS.out _ _ _ _ Kl.out Cl.out).mono ?_
    rintro e1 w6 ⟨rfl, hb⟩
    have Klq := Lib.hid (Kl.out.below Kl.out.lt hb)
    clear Kl
    have Kl := Lib.hid Klq.out
    clear Klq
    have H6 := Lib.hid (show Below w.heap.size w w6 from H5.out.trans (hb.mono H5.out.size))
    clear hb
    go_wp2_with fail
    refine (HTS.out _ _ _ _ Kl.out Cl.out).mono ?_
    rintro e1 w7 ⟨rfl, hb⟩
    have Klq := Lib.hid (Kl.out.below Kl.out.lt hb)
    clear Kl
    have Kl := Lib.hid Klq.out
    clear Klq
    have H7 := Lib.hid (show Below w.heap.size w w7 from H6.out.trans (hb.mono H6.out.size))
    clear hb
    go_wp2_with fail
    refine (HV.out _ _ _ _ Kl.out Cl.out).mono ?_
    rintro e1 w8 ⟨rfl, hb⟩
    have Klq := Lib.hid (Kl.out.below Kl.out.lt hb)
    clear Kl
    have Kl := Lib.hid Klq.out
    clear Klq
    have H8 := Lib.hid (show Below w.heap.size w w8 from H7.out.trans (hb.mono H7.out.size))
    clear hb
    go_wp2_with fail
    refine (HOS.out _ _ _ _ Kl.out Cl.out).mono ?_
    rintro e1 w9 ⟨rfl, hb⟩
    have Klq := Lib.hid (Kl.out.below Kl.out.lt hb)
    clear Kl
    have Kl := Lib.hid Klq.out
    clear Klq
    have H9 := Lib.hid (show Below w.heap.size w w9 from H8.out.trans (hb.mono H8.out.size))
    clear hb
    go_wp2_with fail
    refine (HWS.out _ _ _ _ Kl.out Cl.out).mono ?_
    rintro e1 w10 ⟨rfl, hb⟩
    have Klq := Lib.hid (Kl.out.below Kl.out.lt hb)
    clear Kl
    have Kl := Lib.hid Klq.out
    clear Klq
    have H10 := Lib.hid (show Below w.heap.size w w10 from H9.out.trans (hb.mono H9.out.size))
    clear hb
    go_wp2_with fail
    refine (HTS.out _ _ _ _ Kl.out Cl.out).mono ?_
    rintro e1 w11 ⟨rfl, hb⟩
    have Klq := Lib.hid (Kl.out.below Kl.out.lt hb)
    clear Kl
    have Kl := Lib.hid Klq.out
    clear Klq
    have H11 := Lib.hid (show Below w.heap.size w w11 from H10.out.trans (hb.mono H10.out.size))
    clear hb
    go_wp2_with fail
    go_ret
    exact ⟨rfl, H11.out⟩
  | true =>
    have HV := Lib.hid (fun (W : World) (p : Option Addr) (c : Nat) (q : List Nat) (h1 : LaySub W p l q) (h2 : l.length ≤ c) => (LayV.implLayoutValid l W p c q h1 h2 hsm.fits.2 hsm.fits.1).mono fun e w' h => show e = .returned (.bool true) ∧ Below W.heap.size W w' from by rw [hv] at h; exact h)
    by_cases hxn : x < 0
    · clear hv hN hW hT hsm
      go_wp2_with fail
      refine (HO.out _ _ _ _ Kl.out Cl.out).mono ?_
      rintro e1 w2 ⟨rfl, hb⟩
      have Klq := Lib.hid (Kl.out.below Kl.out.lt hb)
      clear Kl
      have Kl := Lib.hid Klq.out
      clear Klq
      have H2 := Lib.hid (show Below w.heap.size w w2 from H1.out.trans (hb.mono H1.out.size))
      clear hb
      go_wp2_with fail
      refine (HW.out _ _ _ _ Kl.out Cl.out).mono ?_
      rintro e1 w3 ⟨rfl, hb⟩
      have Klq := Lib.hid (Kl.out.below Kl.out.lt hb)
      clear Kl
      have Kl := Lib.hid Klq.out
      clear Klq
      have H3 := Lib.hid (show Below w.heap.size w w3 from H2.out.trans (hb.mono H2.out.size))
      clear hb
      go_wp2_with fail
      refine (HT.out _ _ _ _ Kl.out Cl.out).mono ?_
      rintro e1 w4 ⟨rfl, hb⟩
      have Klq := Lib.hid (Kl.out.below Kl.out.lt hb)
      clear Kl
      have Kl := Lib.hid Klq.out
      clear Klq
      have H4 := Lib.hid (show Below w.heap.size w w4 from H3.out.trans (hb.mono H3.out.size))
      clear hb
      go_wp2_with fail
      refine (HOS.out _ _ _ _ Kl.out Cl.out).mono ?_
      rintro e1 w5 ⟨rfl, hb⟩
      have Klq := Lib.hid (Kl.out.below Kl.out.lt hb)
      clear Kl
      have Kl := Lib.hid Klq.out
      clear Klq
      have H5 := Lib.hid (show Below w.heap.size w w5 from H4.out.trans (hb.mono H4.out.size))
      clear hb
      go_wp2_with fail
      refine (HWS.out _ _ _ _ Kl.out Cl.out).mono ?_
      rintro e1 w6 ⟨rfl, hb⟩
      have Klq := Lib.hid (Kl.out.below Kl.out.lt hb)
      clear Kl
      have Kl := Lib.hid Klq.out
      clear Klq
      have H6 := Lib.hid (show Below w.heap.size w w6 from H5.out.trans (hb.mono H5.out.size))
      clear hb
      go_wp2_with fail
      refine (HTS.out _ _ _ _ Kl.out Cl.out).mono ?_
      rintro e1 w7 ⟨rfl, hb⟩
      have Klq := Lib.hid (Kl.out.below Kl.out.lt hb)
      clear Kl
      have Kl := Lib.hid Klq.out
      clear Klq
      have H7 := Lib.hid (show Below w.heap.size w w7 from H6.out.trans (hb.mono H6.out.size))
      clear hb
      go_wp2_with fail
      refine (HV.out _ _ _ _ Kl.out Cl.out).mono ?_
      rintro e1 w8 ⟨rfl, hb⟩
      have Klq := Lib.hid (Kl.out.below Kl.out.lt hb)
      clear Kl
      have Kl := Lib.hid Klq.out
      clear Klq
      have H8 := Lib.hid (show Below w.heap.size w w8 from H7.out.trans (hb.mono H7.out.size))
      clear hb
      go_wp2_with fail
      refine (HOS.out _ _ _ _ Kl.out Cl.out).mono ?_
      rintro e1 w9 ⟨rfl, hb⟩
      have Klq := Lib.hid (Kl.out.below Kl.out.lt hb)
      clear Kl
      have Kl := Lib.hid Klq.out
      clear Klq
      have H9 := Lib.hid (show Below w.heap.size w w9 from H8.out.trans (hb.mono H8.out.size))
      clear hb
      go_wp2_with fail
      refine (HWS.out _ _ _ _ Kl.out Cl.out).mono ?_
      rintro e1 w10 ⟨rfl, hb⟩
      have Klq := Lib.hid (Kl.out.below Kl.out.lt hb)
      clear Kl
      have Kl := Lib.hid Klq.out
      clear Klq
      have H10 := Lib.hid (show Below w.heap.size w w10 from H9.out.trans (hb.mono H9.out.size))
      clear hb
      go_wp2_with fail
      refine (HTS.out _ _ _ _ Kl.out Cl.out).mono ?_
      rintro e1 w11 ⟨rfl, hb⟩
      have Klq := Lib.hid (Kl.out.below Kl.out.lt hb)
      clear Kl
      have Kl := Lib.hid Klq.out
      clear Klq
      have H11 := Lib.hid (show Below w.heap.size w w11 from H10.out.trans (hb.mono H10.out.size))
      clear hb
      go_wp2_with fail
      go_ret
      exact ⟨rfl, H11.out⟩
    · have hcmp := lo_x hv (x := x) (by omega) hN hW
      have HNL := Lib.hid (show nl T.data.toList + 1 = l.length from by rw [← hT, lt8_yes hv]; have := nl_text hv; simpa [tx] using this)
      have hll := (lv_len hv).2
      have hxd : decide (x < 0) = false := by simp; omega
      clear hv hN hW hT hsm
      go_wp2_with fail
      refine (HO.out _ _ _ _ Kl.out Cl.out).mono ?_
      rintro e1 w2 ⟨rfl, hb⟩
      have Klq := Lib.hid (Kl.out.below Kl.out.lt hb)
      clear Kl
      have Kl := Lib.hid Klq.out
      clear Klq
      have H2 := Lib.hid (show Below w.heap.size w w2 from H1.out.trans (hb.mono H1.out.size))
      clear hb
      go_wp2_with fail
      refine (HW.out _ _ _ _ Kl.out Cl.out).mono ?_
      rintro e1 w3 ⟨rfl, hb⟩
      have Klq := Lib.hid (Kl.out.below Kl.out.lt hb)
      clear Kl
      have Kl := Lib.hid Klq.out
      clear Klq
      have H3 := Lib.hid (show Below w.heap.size w w3 from H2.out.trans (hb.mono H2.out.size))
      clear hb
      go_wp2_with fail
      refine (HT.out _ _ _ _ Kl.out Cl.out).mono ?_
      rintro e1 w4 ⟨rfl, hb⟩
      have Klq := Lib.hid (Kl.out.below Kl.out.lt hb)
      clear Kl
      have Kl := Lib.hid Klq.out
      clear Klq
      have H4 := Lib.hid (show Below w.heap.size w w4 from H3.out.trans (hb.mono H3.out.size))
      clear hb
      go_wp2_with fail
      refine (HOS.out _ _ _ _ Kl.out Cl.out).mono ?_
      rintro e1 w5 ⟨rfl, hb⟩
      have Klq := Lib.hid (Kl.out.below Kl.out.lt hb)
      clear Kl
      have Kl := Lib.hid Klq.out
      clear Klq
      have H5 := Lib.hid (show Below w.heap.size w w5 from H4.out.trans (hb.mono H4.out.size))
      clear hb
      go_wp2_with fail
      refine (HWS.out _ _ _ _ Kl.out Cl.out).mono ?_
      rintro e1 w6 ⟨rfl, hb⟩
      have Klq := Lib.hid (Kl.out.below Kl.out.lt hb)
      clear Kl
      have Kl := Lib.hid Klq.out
      clear Klq
      have H6 := Lib.hid (show Below w.heap.size w w6 from H5.out.trans (hb.mono H5.out.size))
      clear hb
      go_wp2_with fail
      refine (HTS.out _ _ _ _ Kl.out Cl.out).mono ?_
      rintro e1 w7 ⟨rfl, hb⟩
      have Klq := Lib.hid (Kl.out.below Kl.out.lt hb)
      clear Kl
      have Kl := Lib.hid Klq.out
      clear Klq
      have H7 := Lib.hid (show Below w.heap.size w w7 from H6.out.trans (hb.mono H6.out.size))
      clear hb
      go_wp2_with fail
      refine (HV.out _ _ _ _ Kl.out Cl.out).mono ?_
      rintro e1 w8 ⟨rfl, hb⟩
      have Klq := Lib.hid (Kl.out.below Kl.out.lt hb)
      clear Kl
      have Kl := Lib.hid Klq.out
      clear Klq
      have H8 := Lib.hid (show Below w.heap.size w w8 from H7.out.trans (hb.mono H7.out.size))
      clear hb
      go_wp2_with fail
      go_loopw [9, 8] (fun i s wr => ∃ k c : Nat, k ≤ T.size ∧ i = .int .i64 k ∧ s = .int .i64 c ∧ Hid (c = nl (T.data.toList.take k) + 1) ∧ c ≤ 500000 ∧ wr = w8) (fun i _ _ => T.size - (intOf i).toNat)
      case atStart => exact ⟨0, 1, by omega, rfl, rfl, Lib.hid rfl, by omega, rfl⟩
      case round =>
        obtain ⟨k, c, hk, rfl, rfl, HC, hc5, rfl⟩ := hrel
        by_cases hkk : k < T.size
        · have hna := nl_at hkk
          have i0 : (0 : Int) ≤ (k : Int) := Int.natCast_nonneg _
          have i1 : (k : Int) < (T.size : Int) := by omega
          have hle : nl (T.data.toList.take (k + 1)) ≤ 480000 := by
            have := nl_le (T.data.toList.take (k + 1)); simp at this; omega
          obtain ⟨b, hb⟩ : ∃ b, T[k] = b := ⟨_, rfl⟩
          rw [hb] at hna
          by_cases h10 : b = 10
          · subst h10
            rw [if_pos rfl] at hna
            have HA := Lib.hid (And.intro hna hle)
            have hten : (((10 : UInt8).toNat : Int) == 10) = true := by decide
            clear hna hle
            go_wp2_with fail
            go_roundw
            case rel => exact ⟨k + 1, c + 1, by omega, by go_num, by go_num, Lib.hid (by rw [HA.out.1, ← HC.out]), by have := HA.out; have := HC.out; omega, trivial⟩
            case measure => simp [intOf]; omega
          · rw [if_neg h10] at hna
            have HA := Lib.hid hna
            have hten : ((b.toNat : Int) == 10) = false := by
              have := u8_beq b 10
              rw [show ((10 : UInt8).toNat : Int) = 10 from rfl] at this
              rw [← this]; exact beq_eq_false_iff_ne.2 h10
            have hten2 : ¬ ((b.toNat : Int) = 10) := by simpa using hten
            clear hna hle h10
            go_wp2_with fail
            go_roundw
            case rel => exact ⟨k + 1, c, by omega, by go_num, rfl, Lib.hid (by rw [HA.out, ← HC.out]), hc5, trivial⟩
            case measure => simp [intOf]; omega
        · have hcl : c = l.length := by
            rw [HC.out, List.take_of_length_le (by simp; omega)]; exact HNL.out
          subst hcl
          have hle1 : ((l.length : Int) == (l.length : Int)) = true := by simp
          have hdd : (decide (x < Wd) == decide (x < Wd)) = true := by simp
          have i1 : ¬ ((k : Int) < (T.size : Int)) := by omega
          clear hkk
          go_wp2_with fail
          go_ret
          exact ⟨rfl, H8.out⟩

set_option maxHeartbeats 800000 in
theorem walk_big (w : World) (a0 : Option Addr) (len0 cap0 : Nat) (hlc0 : len0 ≤ cap0) (hcm0 : cap0 ≤ maxLen) (hbig : 1048576 < len0) :
    Calls Try.prog 3 #[.slice a0 len0 cap0] w fun e w' => e = .returned (.bool true) ∧ Below w.heap.size w w' := by
  unfold maxLen at hcm0
  go_enter Try.func3, Try.ntmps3
  go_wp2_with fail
  go_ret
  exact ⟨rfl, Below.refl _ _⟩

theorem walk (w : World) (a0 : Option Addr) (len0 cap0 : Nat) (hb0 : Bytes w a0 len0) (hlc0 : len0 ≤ cap0) (hcm0 : cap0 ≤ maxLen) :
    Calls Try.prog 3 #[.slice a0 len0 cap0] w fun e w' => e = .returned (.bool true) ∧ Below w.heap.size w w' := by
  by_cases hbig : 1048576 < len0
  · exact walk_big w a0 len0 cap0 hlc0 hcm0 hbig
  · exact walk_good w a0 len0 cap0 hb0 hlc0 hcm0 (by omega)

set_option maxRecDepth 100000 in
theorem lifted (os : Os) (started : os.Started) (H : Type) (enc : TypeId × Value → H) :
    ReturnsInHanded {} Try.checked os 3 .any (Rows.fnLayoutWidthSpec.pre6 enc Try.prog Try.f3 Rows.fnLayoutWidthRow.domain false) (Rows.fnLayoutWidthSpec.post enc Try.prog Try.f3 false true false false) := by
  refine returnsInHanded_of_change (C := Try.checked) Facts.own started (by kernel_rfl) Try.func3
    (ChangeSpec.witness6 (enc := enc) (C := Try.checked) false ⟨#[], #[.slice none 0 0], []⟩ 8 (by kernel_rfl) (by kernel_rfl) (by kernel_rfl) (by kernel_rfl)) ?_
  intro W base args ds gs before hval0 hW hcnd0 _
  clear hcnd0
  have hval : ∀ (j : Nat) t v, Try.f3.params[j]? = some t → args[j]? = some v → Value.okWide Try.prog W .any base t v := hval0
  have hW' := hW
  obtain ⟨p, q, hA0, hV, rfl, hfz, hnd⟩ := hW
  have hA : DataW.TrodAll enc Try.prog W 0 (fun _ => true) true Try.f3.params.toList args.toList ds p := hA0
  rw [Try.params3] at hA hval
  obtain ⟨v0, d0, rfl, rfl, h0⟩ := trodAll_one hA
  obtain ⟨rfl, rfl⟩ := trodVars_none hV
  obtain ⟨a0, len0, cap0, rfl⟩ := okWide_slice Try.underlying22 (hval 0 22 v0 rfl rfl)
  clear hA0 hval0
  simp only [List.append_nil] at hW'
  have hlt : ∀ x ∈ p, x.block < W.heap.size := fun x hx => by simpa using hW'.lt x hx
  obtain ⟨hb0, hlc0, hcm0⟩ := opened h0
  refine (walk W a0 len0 cap0 hb0 hlc0 hcm0).mono fun e W' ⟨he, hb⟩ => ?_
  subst he
  refine ⟨_, rfl, [_], [], p, [], p, [], hW', trodAll_mk1 (shut_bool Try.underlying4 _), ?_, rfl, hb.frame _, fun h => by cases h⟩
  exact trodAll_mk1 (Below.trod Facts.laidOut (by kernel_rfl) (of_decide_eq_true (by kernel_rfl)) h0 hb hlt)

theorem named : Try.prog.funcNamed Rows.fnLayoutWidthRow.func = some 3 := by kernel_rfl
theorem closed : joinedFacts Try.prog 3 Try.f3 Rows.fnLayoutWidthSpec Rows.fnLayoutWidthRow = true :=
  Facts.closed_of rfl rfl rfl rfl (h28b := rfl) (by kernel_rfl) (by kernel_rfl) (by kernel_rfl) (by kernel_rfl) (by kernel_rfl) (by kernel_rfl) (by kernel_rfl) (by kernel_rfl) (by kernel_rfl) (by kernel_rfl) (by kernel_rfl) (by kernel_rfl) (by kernel_rfl) (by kernel_rfl) (by kernel_rfl) (by kernel_rfl) (by kernel_rfl) (by kernel_rfl) (by kernel_rfl) (by kernel_rfl) (by kernel_rfl) (by kernel_rfl) (by kernel_rfl) (by kernel_rfl)
theorem instanced : Try.f3.isInstance Try.prog Rows.fnLayoutWidthRow.origin Rows.fnLayoutWidthRow.targs := of_decide_eq_true (by kernel_rfl)
theorem wrapped : Try.f3.isWrapper Try.prog Rows.fnLayoutWidthRow.wrapper Rows.fnLayoutWidthRow.mainSum := by
  unfold Func.isWrapper
  rw [if_neg (of_decide_eq_false (by kernel_rfl))]
  exact ⟨rfl, rfl⟩

theorem holds : Rows.FnLayoutWidthSaid :=
  OpenClaim.holds_of_wide 3 Try.f3 rfl rfl rfl rfl rfl rfl rfl ⟨rfl, rfl, rfl, rfl, rfl⟩ rfl rfl rfl rfl rfl named Try.func3 closed instanced wrapped
    (fun os started H enc _ => lifted os started H enc)

end Go.Proofs.Ythlgjnmfblkegaa.lawDLayoutWidth

