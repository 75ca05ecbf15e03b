import Derived.Test.YthlgjnmfblkegaaLayW2
/-
  What Overflow of the program and of the model comes to.
-/
set_option linter.unusedVariables false
set_option linter.unusedSimpArgs false
namespace Go.Proofs.Ythlgjnmfblkegaa.LayW
open Go.RowKit P1 TextV LayV

set_option maxRecDepth 100000 in
set_option maxHeartbeats 1600000 in
theorem rowsOver (l : List (Int × ByteArray)) (x : Int) (w : World) (a : Option Addr) (cap : Nat) (fs : List Nat) (hs : LaySub w a l fs) (hc : l.length ≤ cap) (hlv : lv l = true) (hx0 : 0 ≤ x) (hx1 : x ≤ 9223372036854775807) :
    Calls Try.prog 32 #[.slice a l.length cap, .int .i64 x] w fun e w' => e = .returned (.int .i64 (ov x l)) ∧ Below w.heap.size w w' := by
  have HR := Lib.hid (show ∀ k, (h : k < l.length) → ∃ b off, a = some ⟨b, off, none⟩ ∧ b < w.heap.size ∧ LayAt w l b off from fun k h => by
    rcases hs with ⟨rfl, _⟩ | ⟨b, off, ha, hn, _, hr⟩
    · simp at h
    · exact ⟨b, off, ha, hr.lt hn, hr⟩)
  have hm2 := (lv_len hlv).2
  obtain ⟨m, hm⟩ : ∃ m, l.length = m := ⟨_, rfl⟩
  have HM := Lib.hid hm
  have HLV := Lib.hid hlv
  rw [hm] at hc hm2 ⊢
  clear hm hs hlv
  go_enter Try.func32, Try.ntmps32
  go_wp2_with fail
  go_loopw [10, 5] (fun i s wr => ∃ (k : Nat) (c : Int), k ≤ m ∧ i = .int .i64 k ∧ s = .int .i64 c ∧ Hid (c = ov x (l.take k)) ∧ 0 ≤ c ∧ c ≤ 2399 * k ∧ Below w.heap.size w wr) (fun i _ _ => m - (intOf i).toNat)
  case atStart => exact ⟨0, 0, by omega, rfl, rfl, Lib.hid rfl, by omega, by omega, Below.refl _ _⟩
  case round =>
    obtain ⟨k, c, hk, rfl, rfl, HC, hc0, hc1, hbw⟩ := hrel
    by_cases hkm : k < m
    · have hkl : k < l.length := by rw [HM.out]; exact hkm
      obtain ⟨b, off, rfl, hb, hrow⟩ := HR.out k hkl
      obtain ⟨c0, c1⟩ := (hrow.below hb hbw) k hkl
      have hrv := rv_len (lv_get HLV.out hkl)
      have hbd := rowW_bd (lv_get HLV.out hkl)
      have hwt := ov_take (x := x) hkl
      obtain ⟨⟨n, t⟩, hnt⟩ : ∃ r, l[k] = r := ⟨_, rfl⟩
      rw [hnt] at c0 c1 hrv hbd hwt
      have hrw := fun W => rowWidth n t hrv.1 (by have := hrv.2.1; simp only at this; omega) (by have := hrv.2.2; simp only at this; omega) W
      obtain ⟨z, hz⟩ : ∃ z, rowW (n, t) = z := ⟨_, rfl⟩
      rw [hz] at hrw hbd hwt
      obtain ⟨hz0, hz1⟩ := hbd
      have HWT := Lib.hid hwt
      have HRW := Lib.hid hrw
      have HA := Lib.hid (show ∀ ob, Below w.heap.size w (wr.alloc ob) from fun ob => hbw.alloc hbw.size _)
      clear hrow hnt hrv hwt hz hrw
      have hmx0 : 0 ≤ max 0 (z - x) := by omega
      have hmx1 : max 0 (z - x) ≤ 2399 := by omega
      have hmx2 : c + max 0 (z - x) ≤ 1000000 := by omega
      go_wp2_with (go_at_call 33; refine (HRW.out _).mono ?_; rintro e w' ⟨rfl, hb1⟩)
      go_roundw
      case rel => exact ⟨k + 1, c + max 0 (z - x), by omega, by go_num, rfl, Lib.hid (by rw [HWT.out, ← HC.out]), by omega, by omega, (HA.out _).trans (hb1.mono (HA.out _).size)⟩
      case measure => simp [intOf]; omega
    · go_wp2_with fail
      go_ret
      exact ⟨ret_int (by rw [HC.out, List.take_of_length_le (by have := HM.out; omega)]), hbw⟩

set_option maxRecDepth 100000 in
set_option maxHeartbeats 1600000 in
theorem implOverflow (l : List (Int × ByteArray)) (x : Int) (w : World) (a : Option Addr) (cap : Nat) (fs : List Nat) (hs : LaySub w a l fs) (hc : l.length ≤ cap) (hl : l.length ≤ maxLen) (hft : L.Fits l) (hx : -9223372036854775808 ≤ x ∧ x ≤ 9223372036854775807) :
    Calls Try.prog 11 #[.slice a l.length cap, .int .i64 x] w fun e w' => e = .returned (.int .i64 (lo l x)) ∧ Below w.heap.size w w' := by
  have hv := implLayoutValid l w a cap fs hs hc hl hft
  have ho := fun (W : World) (hW : Below w.heap.size w W) (h1 : lv l = true) (h2 : 0 ≤ x) => rowsOver l x W a cap fs (hs.below hs.lt hW) hc h1 h2 hx.2
  obtain ⟨m, hm⟩ : ∃ m, l.length = m := ⟨_, rfl⟩
  rw [hm] at hc hl hv ho ⊢
  clear hm hs hft
  by_cases hxn : x < 0
  · have HFin := Lib.hid (lo_neg l hxn)
    clear hv ho
    go_enter Try.func11, Try.ntmps11
    go_wp2_with fail
    go_ret
    exact ⟨ret_int HFin.out.symm, Below.refl _ _⟩
  · cases hlv : lv l with
    | false =>
      rw [hlv] at hv
      have HV := Lib.hid hv
      have HFin := Lib.hid (lo_no hlv x)
      clear hv hlv ho
      go_enter Try.func11, Try.ntmps11
      go_wp2_with fail
      refine HV.out.mono ?_
      rintro e1 w1 ⟨rfl, hb1⟩
      have HB := Lib.hid hb1
      clear hb1
      go_wp2_with fail
      go_ret
      exact ⟨ret_int HFin.out.symm, HB.out⟩
    | true =>
      rw [hlv] at hv
      have HV := Lib.hid hv
      have HLV := Lib.hid hlv
      have HO := Lib.hid ho
      have HFin := Lib.hid (lo_yes HLV.out (x := x) (by omega))
      clear hv hlv ho
      go_enter Try.func11, Try.ntmps11
      go_wp2_with fail
      refine HV.out.mono ?_
      rintro e1 w1 ⟨rfl, hb1⟩
      have HB := Lib.hid hb1
      clear hb1
      go_wp2_with fail
      refine (HO.out _ HB.out HLV.out (by omega)).mono ?_
      rintro e1 w2 ⟨rfl, hb2⟩
      have HB2 := Lib.hid (HB.out.trans (hb2.mono HB.out.size))
      clear hb2
      go_wp2_with fail
      go_ret
      exact ⟨ret_int HFin.out.symm, HB2.out⟩

set_option maxRecDepth 100000 in
set_option maxHeartbeats 1600000 in
theorem l2Over (l : List (Int × ByteArray)) (x : Int) (w : World) (a : Option Addr) (cap : Nat) (fs : List Nat) (hs : LaySub w a l fs) (hc : l.length ≤ cap) (hlv : lv l = true) (hx0 : 0 ≤ x) (hx1 : x ≤ 9223372036854775807) :
    Calls Try.prog 38 #[.slice a l.length cap, .int .i64 x] w fun e w' => e = .returned (.int .i64 (ov x l)) ∧ Below w.heap.size w w' := by
  have HR := Lib.hid (show ∀ k, (h : k < l.length) → ∃ b off, a = some ⟨b, off, none⟩ ∧ b < w.heap.size ∧ LayAt w l b off from fun k h => by
    rcases hs with ⟨rfl, _⟩ | ⟨b, off, ha, hn, _, hr⟩
    · simp at h
    · exact ⟨b, off, ha, hr.lt hn, hr⟩)
  have hm2 := (lv_len hlv).2
  obtain ⟨m, hm⟩ : ∃ m, l.length = m := ⟨_, rfl⟩
  have HM := Lib.hid hm
  have HLV := Lib.hid hlv
  rw [hm] at hc hm2 ⊢
  clear hm hs hlv
  go_enter Try.func38, Try.ntmps38
  go_wp2_with fail
  go_loopw [6, 5] (fun i s wr => ∃ (k : Nat) (c : Int), k ≤ m ∧ i = .int .i64 k ∧ s = .int .i64 c ∧ Hid (c = ov x (l.take k)) ∧ 0 ≤ c ∧ c ≤ 2399 * k ∧ Below w.heap.size w wr) (fun i _ _ => m - (intOf i).toNat)
  case atStart => exact ⟨0, 0, by omega, rfl, rfl, Lib.hid rfl, by omega, by omega, Below.refl _ _⟩
  case round =>
    obtain ⟨k, c, hk, rfl, rfl, HC, hc0, hc1, hbw⟩ := hrel
    by_cases hkm : k < m
    · have hkl : k < l.length := by rw [HM.out]; exact hkm
      obtain ⟨b, off, rfl, hb, hrow⟩ := HR.out k hkl
      have hrv := rv_len (lv_get HLV.out hkl)
      have hwt := ov_take (x := x) hkl
      obtain ⟨⟨n, t⟩, hnt⟩ : ∃ r, l[k] = r := ⟨_, rfl⟩
      obtain ⟨c0, c1⟩ := (hrow.below hb hbw) k hkl
      rw [hnt] at hrv hwt c0 c1
      obtain ⟨s, z, hz, hsz, hz0, hz1, hs2, hline⟩ := lineW n t hrv.1 hrv.2.1 hrv.2.2
      rw [hz] at hwt
      have HWT := Lib.hid hwt
      have HLN := Lib.hid hline
      have HBW := Lib.hid hbw
      have HSZ := Lib.hid hsz
      have hsl : (s.size : Int) ≤ 2399 := by omega
      have hsg : 0 ≤ (s.size : Int) := by omega
      by_cases hzc : 0 < z - x
      · have hlt : 0 < (s.size : Int) - x := by rw [hsz]; exact hzc
        clear hrow hnt hrv hwt hz hline hbw hsz
        go_wp2_with fail
        refine (HLN.out _).mono ?_
        rintro e1 w2 ⟨rfl, hb2⟩
        have HB2 := Lib.hid (HBW.out.trans (hb2.mono HBW.out.size))
        clear hb2 c0 c1
        go_wp2_with fail
        go_roundw
        case rel => exact ⟨k + 1, c + ((s.size : Int) - x), by omega, by go_num, rfl, Lib.hid (by rw [HWT.out, ← HC.out, HSZ.out]; omega), by omega, by omega, HB2.out⟩
        case measure => simp [intOf]; omega
      · have hlt : (s.size : Int) - x ≤ 0 := by rw [hsz]; omega
        clear hrow hnt hrv hwt hz hline hbw hsz
        go_wp2_with fail
        refine (HLN.out _).mono ?_
        rintro e1 w2 ⟨rfl, hb2⟩
        have HB2 := Lib.hid (HBW.out.trans (hb2.mono HBW.out.size))
        clear hb2 c0 c1
        go_wp2_with fail
        go_roundw
        case rel => exact ⟨k + 1, c, by omega, by go_num, rfl, Lib.hid (by rw [HWT.out, ← HC.out]; omega), by omega, by omega, HB2.out⟩
        case measure => simp [intOf]; omega
    · go_wp2_with fail
      go_ret
      exact ⟨ret_int (by rw [HC.out, List.take_of_length_le (by have := HM.out; omega)]), hbw⟩

set_option maxRecDepth 100000 in
set_option maxHeartbeats 1600000 in
theorem specOverflow (l : List (Int × ByteArray)) (x : Int) (w : World) (a : Option Addr) (cap : Nat) (fs : List Nat) (hs : LaySub w a l fs) (hc : l.length ≤ cap) (hl : l.length ≤ maxLen) (hft : L.Fits l) (hx : -9223372036854775808 ≤ x ∧ x ≤ 9223372036854775807) :
    Calls Try.prog 14 #[.slice a l.length cap, .int .i64 x] w fun e w' => e = .returned (.int .i64 (lo l x)) ∧ Below w.heap.size w w' := by
  have HR := Lib.hid (show ∀ k, (h : k < l.length) → ∃ b off, a = some ⟨b, off, none⟩ ∧ b < w.heap.size ∧ LayAt w l b off from fun k h => by
    rcases hs with ⟨rfl, _⟩ | ⟨b, off, ha, hn, _, hr⟩
    · simp at h
    · exact ⟨b, off, ha, hr.lt hn, hr⟩)
  have hv := specLayoutValid l w a cap fs hs hc hl hft
  have ho := fun (W : World) (hW : Below w.heap.size w W) (h1 : lv l = true) (h2 : 0 ≤ x) => l2Over l x W a cap fs (hs.below hs.lt hW) hc h1 h2 hx.2
  obtain ⟨m, hm⟩ : ∃ m, l.length = m := ⟨_, rfl⟩
  rw [hm] at hc hl hv ho ⊢
  clear hm hs hft HR
  cases hlv : lv l with
  | false =>
    rw [hlv] at hv
    have HV := Lib.hid hv
    have HFin := Lib.hid (lo_no hlv x)
    clear hv hlv ho
    go_enter Try.func14, Try.ntmps14
    go_wp2_with fail
    refine HV.out.mono ?_
    rintro e1 w1 ⟨rfl, hb1⟩
    have HB := Lib.hid hb1
    clear hb1
    go_wp2_with fail
    go_ret
    exact ⟨ret_int HFin.out.symm, HB.out⟩
  | true =>
    rw [hlv] at hv
    have HV := Lib.hid hv
    have HLV := Lib.hid hlv
    have HO := Lib.hid ho
    clear hv hlv ho
    by_cases hxn : x < 0
    · have HFin := Lib.hid (lo_neg l hxn)
      go_enter Try.func14, Try.ntmps14
      go_wp2_with fail
      refine HV.out.mono ?_
      rintro e1 w1 ⟨rfl, hb1⟩
      have HB := Lib.hid hb1
      clear hb1
      go_wp2_with fail
      go_ret
      exact ⟨ret_int HFin.out.symm, HB.out⟩
    · have HFin := Lib.hid (lo_yes HLV.out (x := x) (by omega))
      go_enter Try.func14, Try.ntmps14
      go_wp2_with fail
      refine HV.out.mono ?_
      rintro e1 w1 ⟨rfl, hb1⟩
      have HB := Lib.hid hb1
      clear hb1
      go_wp2_with fail
      refine (HO.out _ HB.out HLV.out (by omega)).mono ?_
      rintro e1 w2 ⟨rfl, hb2⟩
      have HB2 := Lib.hid (HB.out.trans (hb2.mono HB.out.size))
      clear hb2
      go_wp2_with fail
      go_ret
      exact ⟨ret_int HFin.out.symm, HB2.out⟩

end Go.Proofs.Ythlgjnmfblkegaa.LayW

