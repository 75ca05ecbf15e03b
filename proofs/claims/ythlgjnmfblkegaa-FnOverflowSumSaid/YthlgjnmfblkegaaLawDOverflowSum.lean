import Derived.Test.YthlgjnmfblkegaaDrG
import Derived.Test.YthlgjnmfblkegaaLayO
import Derived.Test.YthlgjnmfblkegaaLayT
import Derived.Test.YthlgjnmfblkegaaLayZP
import Derived.Test.YthlgjnmfblkegaaLyA
import Derived.Test.YthlgjnmfblkegaaLawB
import Derived.IntWalk
import Derived.Test.YthlgjnmfblkegaaFacts
import Derived.Test.YthlgjnmfblkegaaRows
/-
  The bytes beyond a width are those of each line, summed, and a greater width has no more: the law FnOverflowSum returns true for whatever draws, and its argument reads as it did. No condition of ours.
-/
set_option linter.unusedVariables false
set_option linter.unusedSimpArgs false
namespace Go.Proofs.Ythlgjnmfblkegaa.lawDOverflowSum
open Go.ChangeShapes Go.WideShapes Go.ChangeAt Go.RowKit P1 Draw6 DrE LawB

theorem one_row (w : World) (t : ByteArray) : LaySub (w.alloc (.cells #[.int .i64 0, .string t] 32)) (some ⟨w.heap.size, 0, none⟩) [(0, t)] [w.heap.size] :=
  .inr ⟨w.heap.size, 0, rfl, by simp, rfl, fun i hi => by
    have : i = 0 := by simpa using hi
    subst this
    exact ⟨by rw [World.cell?_alloc_new]; rfl, by rw [World.cell?_alloc_new]; rfl⟩⟩
theorem sub_at {w : World} {a : Option Addr} {l : List (Int × ByteArray)} {fs : List Nat} (h : LaySub w a l fs) (hl : 0 < l.length) : ∃ b off, a = some ⟨b, off, none⟩ ∧ LayAt w l b off ∧ b < w.heap.size := by
  rcases h with ⟨rfl, _⟩ | ⟨b, off, ha, hn, _, hr⟩
  · simp at hl
  · exact ⟨b, off, ha, hr, hr.lt hn⟩
theorem LayZ0 {n x : Int} {t : ByteArray} (h : t.size = 0) (hx : 0 ≤ x) : max 0 (rowW (n, t) - x) = 0 := by rw [rowW_no h]; omega

set_option maxRecDepth 100000 in
set_option maxHeartbeats 12800000 in
theorem walk_good (w : World) (a0 : Option Addr) (len0 cap0 : Nat) (hb0 : Bytes w a0 len0) (hlc0 : len0 ≤ cap0) (hcm0 : cap0 ≤ maxLen) (hl0 : len0 ≤ 1048576) :
    Calls Try.prog 4 #[.slice a0 len0 cap0] w fun e w' => e = .returned (.bool true) ∧ Below w.heap.size w w' := by
  have HD0 := Lib.hid (fun (W : World) (h : Below w.heap.size w W) => DrG.drawOver W a0 len0 cap0 (bytes_below hb0 h) hlc0 hcm0)
  clear hb0
  unfold maxLen at hcm0
  go_enter Try.func4, Try.ntmps4
  go_wp2_with fail
  refine (HD0.out _ (Below.refl _ _)).mono ?_
  rintro e1 w1 ⟨x, l, pl, cl, ql, rfl, ⟨hx0, hx1⟩, hc, hsm, hs, hb⟩
  have H1 := Lib.hid (show Below w.heap.size w w1 from hb)
  have Kl := Lib.hid hs
  have Cl := Lib.hid hc
  clear hs hc hb
  obtain ⟨N, hN⟩ : ∃ N, lo l x = N := ⟨_, rfl⟩
  have hNN : (N != N) = false := by simp
  have hNe : (N == N) = true := by simp
  have HO := Lib.hid (fun (W : World) (p : Option Addr) (c : Nat) (q : List Nat) (h1 : LaySub W p l q) (h2 : l.length ≤ c) => (LayW.implOverflow l x W p c q h1 h2 hsm.fits.2 hsm.fits.1 ⟨by omega, by omega⟩).mono fun e w' h => show e = .returned (.int .i64 N) ∧ Below W.heap.size W w' from by rw [hN] at h; exact h)
  have HOS := Lib.hid (fun (W : World) (p : Option Addr) (c : Nat) (q : List Nat) (h1 : LaySub W p l q) (h2 : l.length ≤ c) => (LayW.specOverflow l x W p c q h1 h2 hsm.fits.2 hsm.fits.1 ⟨by omega, by omega⟩).mono fun e w' h => show e = .returned (.int .i64 N) ∧ Below W.heap.size W w' from by rw [hN] at h; exact h)
  cases hv : lv l with
  | false =>
    have HV := Lib.hid (fun (W : World) (p : Option Addr) (c : Nat) (q : List Nat) (h1 : LaySub W p l q) (h2 : l.length ≤ c) => (LayV.implLayoutValid l W p c q h1 h2 hsm.fits.2 hsm.fits.1).mono fun e w' h => show e = .returned (.bool false) ∧ Below W.heap.size W w' from by rw [hv] at h; exact h)
    clear hv hN hsm
    go_wp2_with fail
    refine (HO.out _ _ _ _ Kl.out Cl.out).mono ?_
    rintro e1 w2 ⟨rfl, hb⟩
    have Klq := Lib.hid (Kl.out.below Kl.out.lt hb)
    clear Kl
    have Kl := Lib.hid Klq.out
    clear Klq
    have H2 := Lib.hid (show Below w.heap.size w w2 from H1.out.trans (hb.mono H1.out.size))
    clear hb
    go_wp2_with fail
    refine (HOS.out _ _ _ _ Kl.out Cl.out).mono ?_
    rintro e1 w3 ⟨rfl, hb⟩
    have Klq := Lib.hid (Kl.out.below Kl.out.lt hb)
    clear Kl
    have Kl := Lib.hid Klq.out
    clear Klq
    have H3 := Lib.hid (show Below w.heap.size w w3 from H2.out.trans (hb.mono H2.out.size))
    clear hb
    go_wp2_with fail
    refine (HV.out _ _ _ _ Kl.out Cl.out).mono ?_
    rintro e1 w4 ⟨rfl, hb⟩
    have Klq := Lib.hid (Kl.out.below Kl.out.lt hb)
    clear Kl
    have Kl := Lib.hid Klq.out
    clear Klq
    have H4 := Lib.hid (show Below w.heap.size w w4 from H3.out.trans (hb.mono H3.out.size))
    clear hb
    go_wp2_with fail
    refine (HOS.out _ _ _ _ Kl.out Cl.out).mono ?_
    rintro e1 w5 ⟨rfl, hb⟩
    have Klq := Lib.hid (Kl.out.below Kl.out.lt hb)
    clear Kl
    have Kl := Lib.hid Klq.out
    clear Klq
    have H5 := Lib.hid (show Below w.heap.size w w5 from H4.out.trans (hb.mono H4.out.size))
    clear hb
    go_wp2_with fail
    go_ret
    exact ⟨rfl, H5.out⟩
  | true =>
    have HV := Lib.hid (fun (W : World) (p : Option Addr) (c : Nat) (q : List Nat) (h1 : LaySub W p l q) (h2 : l.length ≤ c) => (LayV.implLayoutValid l W p c q h1 h2 hsm.fits.2 hsm.fits.1).mono fun e w' h => show e = .returned (.bool true) ∧ Below W.heap.size W w' from by rw [hv] at h; exact h)
    by_cases hxn : x < 0
    · clear hv hN hsm
      go_wp2_with fail
      refine (HO.out _ _ _ _ Kl.out Cl.out).mono ?_
      rintro e1 w2 ⟨rfl, hb⟩
      have Klq := Lib.hid (Kl.out.below Kl.out.lt hb)
      clear Kl
      have Kl := Lib.hid Klq.out
      clear Klq
      have H2 := Lib.hid (show Below w.heap.size w w2 from H1.out.trans (hb.mono H1.out.size))
      clear hb
      go_wp2_with fail
      refine (HOS.out _ _ _ _ Kl.out Cl.out).mono ?_
      rintro e1 w3 ⟨rfl, hb⟩
      have Klq := Lib.hid (Kl.out.below Kl.out.lt hb)
      clear Kl
      have Kl := Lib.hid Klq.out
      clear Klq
      have H3 := Lib.hid (show Below w.heap.size w w3 from H2.out.trans (hb.mono H2.out.size))
      clear hb
      go_wp2_with fail
      refine (HV.out _ _ _ _ Kl.out Cl.out).mono ?_
      rintro e1 w4 ⟨rfl, hb⟩
      have Klq := Lib.hid (Kl.out.below Kl.out.lt hb)
      clear Kl
      have Kl := Lib.hid Klq.out
      clear Klq
      have H4 := Lib.hid (show Below w.heap.size w w4 from H3.out.trans (hb.mono H3.out.size))
      clear hb
      go_wp2_with fail
      refine (HOS.out _ _ _ _ Kl.out Cl.out).mono ?_
      rintro e1 w5 ⟨rfl, hb⟩
      have Klq := Lib.hid (Kl.out.below Kl.out.lt hb)
      clear Kl
      have Kl := Lib.hid Klq.out
      clear Klq
      have H5 := Lib.hid (show Below w.heap.size w w5 from H4.out.trans (hb.mono H4.out.size))
      clear hb
      go_wp2_with fail
      go_ret
      exact ⟨rfl, H5.out⟩
    · obtain ⟨N2, hN2⟩ : ∃ N, lo l (x + 1) = N := ⟨_, rfl⟩
      have hle : N2 ≤ N := by rw [← hN, ← hN2, lo_yes hv (by omega), lo_yes hv (by omega)]; exact ov_less x l
      have hwx : IntKind.i64.wrap (x + 1) = x + 1 := IntWalk.i64_in _ ⟨by omega, by omega⟩
      have HOV := Lib.hid (show ov x l = N from by rw [← lo_yes hv (by omega)]; exact hN)
      have HLV := Lib.hid hv
      have hll := (lv_len hv).2
      have hl0' := (lv_len hv).1
      have hxd : decide (x < 0) = false := by simp; omega
      have HO2 := Lib.hid (fun (W : World) (p : Option Addr) (c : Nat) (q : List Nat) (h1 : LaySub W p l q) (h2 : l.length ≤ c) => (LayW.implOverflow l (x + 1) W p c q h1 h2 hsm.fits.2 hsm.fits.1 ⟨by omega, by omega⟩).mono fun e w' h => show e = .returned (.int .i64 N2) ∧ Below W.heap.size W w' from by rw [hN2] at h; exact h)
      clear hv hN hN2 hsm
      go_wp2_with fail
      refine (HO.out _ _ _ _ Kl.out Cl.out).mono ?_
      rintro e1 w2 ⟨rfl, hb⟩
      have Klq := Lib.hid (Kl.out.below Kl.out.lt hb)
      clear Kl
      have Kl := Lib.hid Klq.out
      clear Klq
      have H2 := Lib.hid (show Below w.heap.size w w2 from H1.out.trans (hb.mono H1.out.size))
      clear hb
      go_wp2_with fail
      refine (HOS.out _ _ _ _ Kl.out Cl.out).mono ?_
      rintro e1 w3 ⟨rfl, hb⟩
      have Klq := Lib.hid (Kl.out.below Kl.out.lt hb)
      clear Kl
      have Kl := Lib.hid Klq.out
      clear Klq
      have H3 := Lib.hid (show Below w.heap.size w w3 from H2.out.trans (hb.mono H2.out.size))
      clear hb
      go_wp2_with fail
      refine (HV.out _ _ _ _ Kl.out Cl.out).mono ?_
      rintro e1 w4 ⟨rfl, hb⟩
      have Klq := Lib.hid (Kl.out.below Kl.out.lt hb)
      clear Kl
      have Kl := Lib.hid Klq.out
      clear Klq
      have H4 := Lib.hid (show Below w.heap.size w w4 from H3.out.trans (hb.mono H3.out.size))
      clear hb
      go_wp2_with fail
      obtain ⟨b, off, rfl, hrow, hb⟩ := sub_at Kl.out hl0'
      have HR := Lib.hid (And.intro hrow hb)
      obtain ⟨m, hm⟩ : ∃ m, l.length = m := ⟨_, rfl⟩
      have HM := Lib.hid hm
      rw [hm] at hll
      rw [hm]
      clear hrow hb hl0' hm
      go_loopw [7, 6] (fun i s wr => ∃ (k : Nat) (c : Int), k ≤ m ∧ i = .int .i64 k ∧ s = .int .i64 c ∧ Hid (c = ov x (l.take k)) ∧ 0 ≤ c ∧ c ≤ 2399 * k ∧ Below w4.heap.size w4 wr) (fun i _ _ => m - (intOf i).toNat)
      case atStart => exact ⟨0, 0, by omega, rfl, rfl, Lib.hid rfl, by omega, by omega, Below.refl _ _⟩
      case round =>
        obtain ⟨k, c, hk, rfl, rfl, HC, hc0, hc1, hbw⟩ := hrel
        by_cases hkk : k < m
        · have hkl : k < l.length := by rw [HM.out]; exact hkk
          obtain ⟨c0, c1⟩ := (HR.out.1.below HR.out.2 hbw) k hkl
          have hrv := lv_get HLV.out hkl
          have hot := ov_take (x := x) hkl
          obtain ⟨⟨n, t⟩, hnt⟩ : ∃ r, l[k] = r := ⟨_, rfl⟩
          rw [hnt] at c0 c1 hrv hot
          simp only at c0 c1
          have hrl := rv_len hrv
          simp only at hrl
          obtain ⟨hn0, hn4, hts⟩ := hrl
          have hone := text_one hrv
          have HT := Lib.hid (fun (W : World) (h : LaySub W (some ⟨wr.heap.size, 0, none⟩) [(0, t)] [wr.heap.size]) => (LayT.implLayoutText [(0, t)] W (some ⟨wr.heap.size, 0, none⟩) 1 [wr.heap.size] h (Nat.le_refl _) (by simp [maxLen]) (fun r hr => by simp only [List.mem_singleton] at hr; subst hr; unfold maxLen; simp only; omega)).mono fun e w' h' => show e = .returned (.string t) ∧ Below W.heap.size W w' from by rw [hone] at h'; exact h')
          have HNW := Lib.hid (one_row wr t)
          have HAL := Lib.hid (show ∀ o, Below w4.heap.size w4 (wr.alloc o) from fun o => hbw.alloc hbw.size o)
          have HCC := Lib.hid (And.intro c0 (World.block_lt_of_cell? wr _ c0))
          have HOT := Lib.hid hot
          have i0 : (0 : Int) ≤ (k : Int) := Int.natCast_nonneg _
          have i1 : (k : Int) < (m : Int) := by omega
          clear hrv hot hnt hone hkl
          by_cases hz : t.size = 0
          · have HRW := Lib.hid (LayZ0 (n := n) hz (x := x) (by omega))
            have e := LayW.bytes_none hz
            subst e
            clear hz hts
            go_wp2_with fail
            refine (HT.out _ (HNW.out)).mono ?_
            rintro e w' ⟨rfl, hb⟩
            have HB := Lib.hid ((HAL.out _).trans (hb.mono (HAL.out _).size))
            clear hb
            go_wp2_with fail
            go_roundw
            case rel => exact ⟨k + 1, c, by omega, by go_num, rfl, Lib.hid (by rw [HOT.out, HRW.out, ← HC.out, Int.add_zero]), by omega, by omega, HB.out⟩
            case measure => simp [intOf]; omega
          · have HRW := Lib.hid (rowW_yes (n := n) hz)
            obtain ⟨e1, e2⟩ := LayW.bytes_some hz
            have hw1 : IntKind.i64.wrap (n + (t.size : Int)) = n + (t.size : Int) := IntWalk.i64_in _ ⟨by omega, by omega⟩
            have hw2 : IntKind.i64.wrap (n + (t.size : Int) - x) = n + (t.size : Int) - x := IntWalk.i64_in _ ⟨by omega, by omega⟩
            clear hz
            go_wp2_with fail
            refine (HT.out _ (HNW.out)).mono ?_
            rintro e w' ⟨rfl, hb⟩
            have HB := Lib.hid ((HAL.out _).trans (hb.mono (HAL.out _).size))
            have d0 : w'.cell? ⟨b, off + k * 2, none⟩ = some (.int .i64 n) := (hb.cell (p := ⟨_, _, _⟩) (by have := HCC.out.2; simp; omega)).trans ((World.cell?_alloc_lt _ _ _ HCC.out.2).trans HCC.out.1)
            clear hb
            by_cases hgt : 0 < n + (t.size : Int) - x
            · have hw3 : IntKind.i64.wrap (c + (n + (t.size : Int) - x)) = c + (n + (t.size : Int) - x) := IntWalk.i64_in _ ⟨by omega, by omega⟩
              have HG := Lib.hid (show max 0 (n + (t.size : Int) - x) = n + (t.size : Int) - x from by omega)
              go_wp2_with fail
              go_roundw
              case rel => exact ⟨k + 1, c + (n + (t.size : Int) - x), by omega, by go_num, rfl, Lib.hid (by rw [HOT.out, HRW.out, ← HC.out, HG.out]), by omega, by omega, HB.out⟩
              case measure => simp [intOf]; omega
            · have HG := Lib.hid (show max 0 (n + (t.size : Int) - x) = 0 from by omega)
              go_wp2_with fail
              go_roundw
              case rel => exact ⟨k + 1, c, by omega, by go_num, rfl, Lib.hid (by rw [HOT.out, HRW.out, ← HC.out, HG.out, Int.add_zero]), by omega, by omega, HB.out⟩
              case measure => simp [intOf]; omega
        · obtain rfl : k = m := by omega
          obtain rfl : c = N := by rw [HC.out, List.take_of_length_le (by have := HM.out; omega)]; exact HOV.out
          obtain ⟨w5, hwr⟩ : ∃ W, W = wr := ⟨_, rfl⟩
          subst hwr
          clear hkk
          have Klq := Lib.hid (Kl.out.below Kl.out.lt hbw)
          clear Kl
          have Kl := Lib.hid Klq.out
          clear Klq
          have H5 := Lib.hid (show Below w.heap.size w w5 from H4.out.trans (hbw.mono H4.out.size))
          clear hbw
          have HK := Lib.hid (show ∀ W, LaySub W (some ⟨b, off, none⟩) l ql → l.length ≤ cl → Calls Try.prog 11 #[.slice (some ⟨b, off, none⟩) k cl, .int .i64 (x + 1)] W fun e w' => e = .returned (.int .i64 N2) ∧ Below W.heap.size W w' from fun W h1 h2 => by have := HO2.out W _ _ _ h1 h2; rw [HM.out] at this; exact this)
          go_wp2_with fail
          refine (HK.out _ Kl.out Cl.out).mono ?_
          rintro e1 w6 ⟨rfl, hb⟩
          have Klq := Lib.hid (Kl.out.below Kl.out.lt hb)
          clear Kl
          have Kl := Lib.hid Klq.out
          clear Klq
          have H6 := Lib.hid (show Below w.heap.size w w6 from H5.out.trans (hb.mono H5.out.size))
          clear hb
          go_wp2_with fail
          go_ret
          exact ⟨rfl, H6.out⟩

set_option maxHeartbeats 800000 in
theorem walk_big (w : World) (a0 : Option Addr) (len0 cap0 : Nat) (hlc0 : len0 ≤ cap0) (hcm0 : cap0 ≤ maxLen) (hbig : 1048576 < len0) :
    Calls Try.prog 4 #[.slice a0 len0 cap0] w fun e w' => e = .returned (.bool true) ∧ Below w.heap.size w w' := by
  unfold maxLen at hcm0
  go_enter Try.func4, Try.ntmps4
  go_wp2_with fail
  go_ret
  exact ⟨rfl, Below.refl _ _⟩

theorem walk (w : World) (a0 : Option Addr) (len0 cap0 : Nat) (hb0 : Bytes w a0 len0) (hlc0 : len0 ≤ cap0) (hcm0 : cap0 ≤ maxLen) :
    Calls Try.prog 4 #[.slice a0 len0 cap0] w fun e w' => e = .returned (.bool true) ∧ Below w.heap.size w w' := by
  by_cases hbig : 1048576 < len0
  · exact walk_big w a0 len0 cap0 hlc0 hcm0 hbig
  · exact walk_good w a0 len0 cap0 hb0 hlc0 hcm0 (by omega)

set_option maxRecDepth 100000 in
theorem lifted (os : Os) (started : os.Started) (H : Type) (enc : TypeId × Value → H) :
    ReturnsInHanded {} Try.checked os 4 .any (Rows.fnOverflowSumSpec.pre6 enc Try.prog Try.f4 Rows.fnOverflowSumRow.domain false) (Rows.fnOverflowSumSpec.post enc Try.prog Try.f4 false true false false) := by
  refine returnsInHanded_of_change (C := Try.checked) Facts.own started (by kernel_rfl) Try.func4
    (ChangeSpec.witness6 (enc := enc) (C := Try.checked) false ⟨#[], #[.slice none 0 0], []⟩ 8 (by kernel_rfl) (by kernel_rfl) (by kernel_rfl) (by kernel_rfl)) ?_
  intro W base args ds gs before hval0 hW hcnd0 _
  clear hcnd0
  have hval : ∀ (j : Nat) t v, Try.f4.params[j]? = some t → args[j]? = some v → Value.okWide Try.prog W .any base t v := hval0
  have hW' := hW
  obtain ⟨p, q, hA0, hV, rfl, hfz, hnd⟩ := hW
  have hA : DataW.TrodAll enc Try.prog W 0 (fun _ => true) true Try.f4.params.toList args.toList ds p := hA0
  rw [Try.params4] at hA hval
  obtain ⟨v0, d0, rfl, rfl, h0⟩ := trodAll_one hA
  obtain ⟨rfl, rfl⟩ := trodVars_none hV
  obtain ⟨a0, len0, cap0, rfl⟩ := okWide_slice Try.underlying22 (hval 0 22 v0 rfl rfl)
  clear hA0 hval0
  simp only [List.append_nil] at hW'
  have hlt : ∀ x ∈ p, x.block < W.heap.size := fun x hx => by simpa using hW'.lt x hx
  obtain ⟨hb0, hlc0, hcm0⟩ := opened h0
  refine (walk W a0 len0 cap0 hb0 hlc0 hcm0).mono fun e W' ⟨he, hb⟩ => ?_
  subst he
  refine ⟨_, rfl, [_], [], p, [], p, [], hW', trodAll_mk1 (shut_bool Try.underlying4 _), ?_, rfl, hb.frame _, fun h => by cases h⟩
  exact trodAll_mk1 (Below.trod Facts.laidOut (by kernel_rfl) (of_decide_eq_true (by kernel_rfl)) h0 hb hlt)

theorem named : Try.prog.funcNamed Rows.fnOverflowSumRow.func = some 4 := by kernel_rfl
theorem closed : joinedFacts Try.prog 4 Try.f4 Rows.fnOverflowSumSpec Rows.fnOverflowSumRow = true :=
  Facts.closed_of rfl rfl rfl rfl (h28b := rfl) (by kernel_rfl) (by kernel_rfl) (by kernel_rfl) (by kernel_rfl) (by kernel_rfl) (by kernel_rfl) (by kernel_rfl) (by kernel_rfl) (by kernel_rfl) (by kernel_rfl) (by kernel_rfl) (by kernel_rfl) (by kernel_rfl) (by kernel_rfl) (by kernel_rfl) (by kernel_rfl) (by kernel_rfl) (by kernel_rfl) (by kernel_rfl) (by kernel_rfl) (by kernel_rfl) (by kernel_rfl) (by kernel_rfl) (by kernel_rfl)
theorem instanced : Try.f4.isInstance Try.prog Rows.fnOverflowSumRow.origin Rows.fnOverflowSumRow.targs := of_decide_eq_true (by kernel_rfl)
theorem wrapped : Try.f4.isWrapper Try.prog Rows.fnOverflowSumRow.wrapper Rows.fnOverflowSumRow.mainSum := by
  unfold Func.isWrapper
  rw [if_neg (of_decide_eq_false (by kernel_rfl))]
  exact ⟨rfl, rfl⟩

theorem holds : Rows.FnOverflowSumSaid :=
  OpenClaim.holds_of_wide 4 Try.f4 rfl rfl rfl rfl rfl rfl rfl ⟨rfl, rfl, rfl, rfl, rfl⟩ rfl rfl rfl rfl rfl named Try.func4 closed instanced wrapped
    (fun os started H enc _ => lifted os started H enc)

end Go.Proofs.Ythlgjnmfblkegaa.lawDOverflowSum

