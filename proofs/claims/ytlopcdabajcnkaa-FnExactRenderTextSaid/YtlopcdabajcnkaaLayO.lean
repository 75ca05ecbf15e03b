import Derived.Test.YtlopcdabajcnkaaLayW2
/-
  What Overflow of the program and of the model comes to.
-/
set_option linter.unusedVariables false
set_option linter.unusedSimpArgs false
namespace Go.Proofs.Ytlopcdabajcnkaa.LayW
open Go.RowKit P1 TextV LayV

set_option maxRecDepth 100000 in
set_option maxHeartbeats 1600000 in
theorem rowsOver (l : List (Int × ByteArray)) (x : Int) (w : World) (a : Option Addr) (cap : Nat) (fs : List Nat) (hs : LaySub w a l fs) (hc : l.length ≤ cap) (hlv : lv l = true) (hx0 : 0 ≤ x) (hx1 : x ≤ 9223372036854775807) :
    Calls Try.prog 146 #[.slice a l.length cap, .int .i64 x] w fun e w' => e = .returned (.int .i64 (ov x l)) ∧ Below w.heap.size w w' := by
  have HR := Lib.hid (show ∀ k, (h : k < l.length) → ∃ b off, a = some ⟨b, off, none⟩ ∧ b < w.heap.size ∧ LayAt w l b off from fun k h => by
    rcases hs with ⟨rfl, _⟩ | ⟨b, off, ha, hn, _, hr⟩
    · simp at h
    · exact ⟨b, off, ha, hr.lt hn, hr⟩)
  have hm2 := (lv_len hlv).2
  obtain ⟨m, hm⟩ : ∃ m, l.length = m := ⟨_, rfl⟩
  have HM := Lib.hid hm
  have HLV := Lib.hid hlv
  rw [hm] at hc hm2 ⊢
  clear hm hs hlv
  go_enter Try.func146, Try.ntmps146
  go_wp2_with fail
  go_loopw [10, 5] (fun i s wr => ∃ (k : Nat) (c : Int), k ≤ m ∧ i = .int .i64 k ∧ s = .int .i64 c ∧ Hid (c = ov x (l.take k)) ∧ 0 ≤ c ∧ c ≤ 2399 * k ∧ Below w.heap.size w wr) (fun i _ _ => m - (intOf i).toNat)
  case atStart => exact ⟨0, 0, by omega, rfl, rfl, Lib.hid rfl, by omega, by omega, Below.refl _ _⟩
  case round =>
    obtain ⟨k, c, hk, rfl, rfl, HC, hc0, hc1, hbw⟩ := hrel
    by_cases hkm : k < m
    · have hkl : k < l.length := by rw [HM.out]; exact hkm
      obtain ⟨b, off, rfl, hb, hrow⟩ := HR.out k hkl
      obtain ⟨c0, c1⟩ := (hrow.below hb hbw) k hkl
      have hrv := rv_len (lv_get HLV.out hkl)
      have hbd := rowW_bd (lv_get HLV.out hkl)
      have hwt := ov_take (x := x) hkl
      obtain ⟨⟨n, t⟩, hnt⟩ : ∃ r, l[k] = r := ⟨_, rfl⟩
      rw [hnt] at c0 c1 hrv hbd hwt
      have hrw := fun W => rowWidth n t hrv.1 (by have := hrv.2.1; simp only at this; omega) (by have := hrv.2.2; simp only at this; omega) W
      obtain ⟨z, hz⟩ : ∃ z, rowW (n, t) = z := ⟨_, rfl⟩
      rw [hz] at hrw hbd hwt
      obtain ⟨hz0, hz1⟩ := hbd
      have HWT := Lib.hid hwt
      have HRW := Lib.hid hrw
      have HA := Lib.hid (show ∀ ob, Below w.heap.size w (wr.alloc ob) from fun ob => hbw.alloc hbw.size _)
      clear hrow hnt hrv hwt hz hrw
      have hmx0 : 0 ≤ max 0 (z - x) := by omega
      have hmx1 : max 0 (z - x) ≤ 2399 := by omega
      have hmx2 : c + max 0 (z - x) ≤ 1000000 := by omega
      go_wp2_with (go_at_call 112; refine (HRW.out _).mono ?_; rintro e w' ⟨rfl, hb1⟩)
      go_roundw
      case rel => exact ⟨k + 1, c + max 0 (z - x), by omega, by go_num, rfl, Lib.hid (by rw [HWT.out, ← HC.out]), by omega, by omega, (HA.out _).trans (hb1.mono (HA.out _).size)⟩
      case measure => simp [intOf]; omega
    · go_wp2_with fail
      go_ret
      exact ⟨ret_int (by rw [HC.out, List.take_of_length_le (by have := HM.out; omega)]), hbw⟩

set_option maxRecDepth 100000 in
set_option maxHeartbeats 1600000 in
theorem l2Over (l : List (Int × ByteArray)) (x : Int) (w : World) (a : Option Addr) (cap : Nat) (fs : List Nat) (hs : LaySub w a l fs) (hc : l.length ≤ cap) (hlv : lv l = true) (hx0 : 0 ≤ x) (hx1 : x ≤ 9223372036854775807) :
    Calls Try.prog 145 #[.slice a l.length cap, .int .i64 x] w fun e w' => e = .returned (.int .i64 (ov x l)) ∧ Below w.heap.size w w' := by
  have HR := Lib.hid (show ∀ k, (h : k < l.length) → ∃ b off, a = some ⟨b, off, none⟩ ∧ b < w.heap.size ∧ LayAt w l b off from fun k h => by
    rcases hs with ⟨rfl, _⟩ | ⟨b, off, ha, hn, _, hr⟩
    · simp at h
    · exact ⟨b, off, ha, hr.lt hn, hr⟩)
  have hm2 := (lv_len hlv).2
  obtain ⟨m, hm⟩ : ∃ m, l.length = m := ⟨_, rfl⟩
  have HM := Lib.hid hm
  have HLV := Lib.hid hlv
  rw [hm] at hc hm2 ⊢
  clear hm hs hlv
  go_enter Try.func145, Try.ntmps145
  go_wp2_with fail
  go_loopw [6, 5] (fun i s wr => ∃ (k : Nat) (c : Int), k ≤ m ∧ i = .int .i64 k ∧ s = .int .i64 c ∧ Hid (c = ov x (l.take k)) ∧ 0 ≤ c ∧ c ≤ 2399 * k ∧ Below w.heap.size w wr) (fun i _ _ => m - (intOf i).toNat)
  case atStart => exact ⟨0, 0, by omega, rfl, rfl, Lib.hid rfl, by omega, by omega, Below.refl _ _⟩
  case round =>
    obtain ⟨k, c, hk, rfl, rfl, HC, hc0, hc1, hbw⟩ := hrel
    by_cases hkm : k < m
    · have hkl : k < l.length := by rw [HM.out]; exact hkm
      obtain ⟨b, off, rfl, hb, hrow⟩ := HR.out k hkl
      have hrv := rv_len (lv_get HLV.out hkl)
      have hwt := ov_take (x := x) hkl
      obtain ⟨⟨n, t⟩, hnt⟩ : ∃ r, l[k] = r := ⟨_, rfl⟩
      obtain ⟨c0, c1⟩ := (hrow.below hb hbw) k hkl
      rw [hnt] at hrv hwt c0 c1
      obtain ⟨s, z, hz, hsz, hz0, hz1, hs2, hline⟩ := lineW n t hrv.1 hrv.2.1 hrv.2.2
      rw [hz] at hwt
      have HWT := Lib.hid hwt
      have HLN := Lib.hid hline
      have HBW := Lib.hid hbw
      have HSZ := Lib.hid hsz
      have hsl : (s.size : Int) ≤ 2399 := by omega
      have hsg : 0 ≤ (s.size : Int) := by omega
      by_cases hzc : 0 < z - x
      · have hlt : 0 < (s.size : Int) - x := by rw [hsz]; exact hzc
        clear hrow hnt hrv hwt hz hline hbw hsz
        go_wp2_with fail
        refine (HLN.out _).mono ?_
        rintro e1 w2 ⟨rfl, hb2⟩
        have HB2 := Lib.hid (HBW.out.trans (hb2.mono HBW.out.size))
        clear hb2 c0 c1
        go_wp2_with fail
        go_roundw
        case rel => exact ⟨k + 1, c + ((s.size : Int) - x), by omega, by go_num, rfl, Lib.hid (by rw [HWT.out, ← HC.out, HSZ.out]; omega), by omega, by omega, HB2.out⟩
        case measure => simp [intOf]; omega
      · have hlt : (s.size : Int) - x ≤ 0 := by rw [hsz]; omega
        clear hrow hnt hrv hwt hz hline hbw hsz
        go_wp2_with fail
        refine (HLN.out _).mono ?_
        rintro e1 w2 ⟨rfl, hb2⟩
        have HB2 := Lib.hid (HBW.out.trans (hb2.mono HBW.out.size))
        clear hb2 c0 c1
        go_wp2_with fail
        go_roundw
        case rel => exact ⟨k + 1, c, by omega, by go_num, rfl, Lib.hid (by rw [HWT.out, ← HC.out]; omega), by omega, by omega, HB2.out⟩
        case measure => simp [intOf]; omega
    · go_wp2_with fail
      go_ret
      exact ⟨ret_int (by rw [HC.out, List.take_of_length_le (by have := HM.out; omega)]), hbw⟩

end Go.Proofs.Ytlopcdabajcnkaa.LayW

