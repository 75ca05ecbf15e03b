import Derived.Test.YtlopcdabajcnkaaLayW
/-
  What LayoutWidth and Overflow of the program and of the model come to, over the lines.
-/
set_option linter.unusedVariables false
set_option linter.unusedSimpArgs false
namespace Go.Proofs.Ytlopcdabajcnkaa.LayW
open Go.RowKit P1 TextV LayV

set_option maxRecDepth 100000 in
set_option maxHeartbeats 800000 in
theorem rowWidth (n : Int) (t : ByteArray) (h0 : 0 ≤ n) (h1 : n ≤ 100000) (ht : t.size ≤ 100000) (w : World) :
    Calls Try.prog 112 #[.agg #[.int .i64 n, .string t]] w fun e w' => e = .returned (.int .i64 (rowW (n, t))) ∧ Below w.heap.size w w' := by
  have B1 : ∀ ob, Below w.heap.size w (w.alloc ob) := fun ob => (Below.refl _ _).alloc (Nat.le_refl _) _
  by_cases hz : t.size = 0
  · have HL := Lib.hid (rowW_no (n := n) hz)
    have e := bytes_none hz
    subst e
    clear hz
    go_enter Try.func112, Try.ntmps112
    go_wp2_with fail
    go_ret
    exact ⟨ret_int HL.out.symm, B1 _⟩
  · have HL := Lib.hid (rowW_yes (n := n) hz)
    obtain ⟨e1, e2⟩ := bytes_some hz
    clear hz
    go_enter Try.func112, Try.ntmps112
    go_wp2_with fail
    go_ret
    exact ⟨ret_int HL.out.symm, B1 _⟩

/-- the text of a line, by its bytes alone -/
theorem lineW (n : Int) (t : ByteArray) (h0 : 0 ≤ n) (h1 : n ≤ 400) (ht : t.size < 2000) : ∃ (s : ByteArray) (z : Int), rowW (n, t) = z ∧ (s.size : Int) = z ∧ 0 ≤ z ∧ z ≤ 2399 ∧ s.size ≤ 2399 ∧ ∀ W : World, Calls Try.prog 121 #[.agg #[.int .i64 n, .string t]] W fun e w' => e = .returned (.string s) ∧ Below W.heap.size W w' := by
  have hs := ln_size (t := t) h0
  have hb : 0 ≤ rowW (n, t) ∧ rowW (n, t) ≤ 2399 := by unfold rowW; split <;> simp <;> omega
  exact ⟨ln n t, rowW (n, t), rfl, hs, hb.1, hb.2, by omega, fun W => l2Line n t h0 (by omega) (by omega) W⟩

set_option maxRecDepth 100000 in
set_option maxHeartbeats 1600000 in
theorem implLayoutWidth (l : List (Int × ByteArray)) (w : World) (a : Option Addr) (cap : Nat) (fs : List Nat) (hs : LaySub w a l fs) (hc : l.length ≤ cap) (hl : l.length ≤ maxLen) (hft : L.Fits l) :
    Calls Try.prog 68 #[.slice a l.length cap] w fun e w' => e = .returned (.int .i64 (lw l)) ∧ Below w.heap.size w w' := by
  have HR := Lib.hid (show ∀ k, (h : k < l.length) → ∃ b off, a = some ⟨b, off, none⟩ ∧ b < w.heap.size ∧ LayAt w l b off from fun k h => by
    rcases hs with ⟨rfl, _⟩ | ⟨b, off, ha, hn, _, hr⟩
    · simp at h
    · exact ⟨b, off, ha, hr.lt hn, hr⟩)
  have hv := implLayoutValid l w a cap fs hs hc hl hft
  obtain ⟨m, hm⟩ : ∃ m, l.length = m := ⟨_, rfl⟩
  have HM := Lib.hid hm
  rw [hm] at hc hl hv ⊢
  unfold maxLen at hl
  clear hm hs hft
  cases hlv : lv l with
  | false =>
    rw [hlv] at hv
    have HV := Lib.hid hv
    have HFin := Lib.hid (lw_no hlv)
    clear hv hlv
    go_enter Try.func68, Try.ntmps68
    go_wp2_with fail
    refine HV.out.mono ?_
    rintro e1 w1 ⟨rfl, hb1⟩
    have HB := Lib.hid hb1
    clear hb1
    go_wp2_with fail
    go_ret
    exact ⟨ret_int HFin.out.symm, HB.out⟩
  | true =>
    rw [hlv] at hv
    have HV := Lib.hid hv
    have HLV := Lib.hid hlv
    clear hv hlv
    go_enter Try.func68, Try.ntmps68
    go_wp2_with fail
    refine HV.out.mono ?_
    rintro e1 w1 ⟨rfl, hb1⟩
    have HB := Lib.hid hb1
    clear hb1
    go_wp2_with fail
    go_loopw [11, 3] (fun i s wr => ∃ (k : Nat) (c : Int), k ≤ m ∧ i = .int .i64 k ∧ s = .int .i64 c ∧ Hid (c = wid (l.take k)) ∧ 0 ≤ c ∧ c ≤ 2399 ∧ Below w.heap.size w wr) (fun i _ _ => m - (intOf i).toNat)
    case atStart => exact ⟨0, 0, by omega, rfl, rfl, Lib.hid rfl, by omega, by omega, HB.out⟩
    case round =>
      obtain ⟨k, c, hk, rfl, rfl, HC, hc0, hc1, hbw⟩ := hrel
      by_cases hkm : k < m
      · have hkl : k < l.length := by rw [HM.out]; exact hkm
        obtain ⟨b, off, rfl, hb, hrow⟩ := HR.out k hkl
        obtain ⟨c0, c1⟩ := (hrow.below hb hbw) k hkl
        have hrv := rv_len (lv_get HLV.out hkl)
        have hbd := rowW_bd (lv_get HLV.out hkl)
        have hwt := wid_take hkl
        obtain ⟨⟨n, t⟩, hnt⟩ : ∃ r, l[k] = r := ⟨_, rfl⟩
        rw [hnt] at c0 c1 hrv hbd hwt
        have hrw := fun W => rowWidth n t hrv.1 (by have := hrv.2.1; simp only at this; omega) (by have := hrv.2.2; simp only at this; omega) W
        obtain ⟨z, hz⟩ : ∃ z, rowW (n, t) = z := ⟨_, rfl⟩
        rw [hz] at hrw hbd hwt
        obtain ⟨hz0, hz1⟩ := hbd
        have HWT := Lib.hid hwt
        have HRW := Lib.hid hrw
        have HA := Lib.hid (show ∀ ob, Below w.heap.size w (wr.alloc ob) from fun ob => hbw.alloc hbw.size _)
        clear hrow hnt hrv hwt hz hrw
        go_wp2_with (go_at_call 112; refine (HRW.out _).mono ?_; rintro e w' ⟨rfl, hb1⟩)
        go_roundw
        case rel => exact ⟨k + 1, max c z, by omega, by go_num, rfl, Lib.hid (by rw [HWT.out, ← HC.out]), by omega, by omega, (HA.out _).trans (hb1.mono (HA.out _).size)⟩
        case measure => simp [intOf]; omega
      · go_wp2_with fail
        go_ret
        exact ⟨ret_int (by rw [lw_yes HLV.out, HC.out, List.take_of_length_le (by have := HM.out; omega)]), hbw⟩

set_option maxRecDepth 100000 in
set_option maxHeartbeats 1600000 in
theorem specLayoutWidth (l : List (Int × ByteArray)) (w : World) (a : Option Addr) (cap : Nat) (fs : List Nat) (hs : LaySub w a l fs) (hc : l.length ≤ cap) (hl : l.length ≤ maxLen) (hft : L.Fits l) :
    Calls Try.prog 148 #[.slice a l.length cap] w fun e w' => e = .returned (.int .i64 (lw l)) ∧ Below w.heap.size w w' := by
  have HR := Lib.hid (show ∀ k, (h : k < l.length) → ∃ b off, a = some ⟨b, off, none⟩ ∧ b < w.heap.size ∧ LayAt w l b off from fun k h => by
    rcases hs with ⟨rfl, _⟩ | ⟨b, off, ha, hn, _, hr⟩
    · simp at h
    · exact ⟨b, off, ha, hr.lt hn, hr⟩)
  have hv := fun (W : World) (hW : Below w.heap.size w W) => specLayoutValid l W a cap fs (hs.below hs.lt hW) hc hl hft
  obtain ⟨m, hm⟩ : ∃ m, l.length = m := ⟨_, rfl⟩
  have HM := Lib.hid hm
  rw [hm] at hc hl hv ⊢
  unfold maxLen at hl
  clear hm hs hft
  cases hlv : lv l with
  | false =>
    rw [hlv] at hv
    have HV := Lib.hid hv
    have HFin := Lib.hid (lw_no hlv)
    clear hv hlv
    go_enter Try.func148, Try.ntmps148
    go_wp2_with fail
    go_loopw [4, 3] (fun i s wr => i = .int .i64 0 ∧ s = .int .i64 0 ∧ wr = w) (fun _ _ _ => 0)
    case atStart => exact ⟨rfl, rfl, rfl⟩
    case round =>
      obtain ⟨rfl, rfl, rfl⟩ := hrel
      by_cases h0 : 0 < m
      · go_wp2_with fail
        refine (HV.out _ (Below.refl _ _)).mono ?_
        rintro e1 w1 ⟨rfl, hb1⟩
        have HB := Lib.hid hb1
        clear hb1
        go_wp2_with fail
        go_ret
        exact ⟨ret_int HFin.out.symm, HB.out⟩
      · go_wp2_with fail
        go_ret
        exact ⟨ret_int HFin.out.symm, Below.refl _ _⟩
  | true =>
    rw [hlv] at hv
    have HV := Lib.hid hv
    have HLV := Lib.hid hlv
    clear hv hlv
    go_enter Try.func148, Try.ntmps148
    go_wp2_with fail
    go_loopw [4, 3] (fun i s wr => ∃ (k : Nat) (c : Int), k ≤ m ∧ i = .int .i64 k ∧ s = .int .i64 c ∧ Hid (c = wid (l.take k)) ∧ 0 ≤ c ∧ c ≤ 2399 ∧ Below w.heap.size w wr) (fun i _ _ => m - (intOf i).toNat)
    case atStart => exact ⟨0, 0, by omega, rfl, rfl, Lib.hid rfl, by omega, by omega, Below.refl _ _⟩
    case round =>
      obtain ⟨k, c, hk, rfl, rfl, HC, hc0, hc1, hbw⟩ := hrel
      by_cases hkm : k < m
      · have hkl : k < l.length := by rw [HM.out]; exact hkm
        obtain ⟨b, off, rfl, hb, hrow⟩ := HR.out k hkl
        have hrv := rv_len (lv_get HLV.out hkl)
        have hwt := wid_take hkl
        obtain ⟨⟨n, t⟩, hnt⟩ : ∃ r, l[k] = r := ⟨_, rfl⟩
        have HROW := Lib.hid (show ∀ W, Below w.heap.size w W → W.cell? ⟨b, off + k * 2, none⟩ = some (.int .i64 n) ∧ W.cell? ⟨b, off + k * 2 + 1, none⟩ = some (.string t) from fun W hW => by
          have := (hrow.below hb hW) k hkl
          rwa [hnt] at this)
        rw [hnt] at hrv hwt
        obtain ⟨s, z, hz, hsz, hz0, hz1, hs2, hline⟩ := lineW n t hrv.1 hrv.2.1 hrv.2.2
        rw [hz] at hwt
        have HWT := Lib.hid hwt
        have HLN := Lib.hid hline
        have HBW := Lib.hid hbw
        clear hrow hnt hrv hwt hz hline hbw
        go_wp2_with fail
        refine (HV.out _ HBW.out).mono ?_
        rintro e1 w1 ⟨rfl, hb1⟩
        have HB1 := Lib.hid (HBW.out.trans (hb1.mono HBW.out.size))
        clear hb1
        obtain ⟨c0, c1⟩ := HROW.out w1 HB1.out
        have HSZ := Lib.hid hsz
        clear hsz
        go_wp2_with fail
        refine (HLN.out _).mono ?_
        rintro e1 w2 ⟨rfl, hb2⟩
        have HB2 := Lib.hid (HB1.out.trans (hb2.mono HB1.out.size))
        clear hb2 c0 c1
        obtain ⟨c0, c1⟩ := HROW.out w2 HB2.out
        by_cases hzc : c < z
        · have hlt : c < (s.size : Int) := by rw [HSZ.out]; exact hzc
          go_wp2_with fail
          refine (HLN.out _).mono ?_
          rintro e1 w3 ⟨rfl, hb3⟩
          have HB3 := Lib.hid (HB2.out.trans (hb3.mono HB2.out.size))
          clear hb3 c0 c1
          go_wp2_with fail
          go_roundw
          case rel => exact ⟨k + 1, (s.size : Int), by omega, by go_num, rfl, Lib.hid (by rw [HWT.out, ← HC.out, HSZ.out]; omega), by omega, by omega, HB3.out⟩
          case measure => simp [intOf]; omega
        · have hlt : ¬ c < (s.size : Int) := by rw [HSZ.out]; exact hzc
          go_wp2_with fail
          go_roundw
          case rel => exact ⟨k + 1, c, by omega, by go_num, rfl, Lib.hid (by rw [HWT.out, ← HC.out]; omega), by omega, by omega, HB2.out⟩
          case measure => simp [intOf]; omega
      · go_wp2_with fail
        go_ret
        exact ⟨ret_int (by rw [lw_yes HLV.out, HC.out, List.take_of_length_le (by have := HM.out; omega)]), hbw⟩

end Go.Proofs.Ytlopcdabajcnkaa.LayW

