/-
  What LayoutValid of the model comes to.
-/
import Derived.Test.YtgnpcfafdjebeaaLayV
set_option linter.unusedVariables false
set_option linter.unusedSimpArgs false
namespace Go.Proofs.Ytgnpcfafdjebeaa.LayV
open Go.RowKit P1 TextV

theorem tv_one (c : UInt8) : tv [c] = tb c := by simp [tv]
theorem one_of (t : ByteArray) (k : Nat) (h : k < t.size) : (t.extract k (k + 1)).data.toList = [t[k]] := by
  have h1 : k < t.data.toList.length := by simpa using h
  have e : (t.extract k (k + 1)).data.toList = (t.data.toList.drop k).take 1 := by
    simp [ByteArray.data_extract, List.take_drop]
  rw [e, List.drop_eq_getElem_cons h1]
  rfl

set_option maxRecDepth 100000 in
set_option maxHeartbeats 1600000 in
theorem l2Text (t : ByteArray) (ht : t.size ≤ maxLen) (w : World) :
    Calls Try.prog 87 #[.string t] w fun e w' => e = .returned (.bool (lt t.data.toList)) ∧ w = w' := by
  unfold maxLen at ht
  have hsz : t.data.toList.length = t.size := by simp
  have HSZ := Lib.hid hsz
  have d1 : 2000 ≤ t.size → decide (2000 ≤ (t.size : Int)) = true := fun h => by simp; omega
  clear hsz
  go_enter Try.func87, Try.ntmps87
  go_wp2_with fail
  go_loop [3] (fun i => ∃ k : Nat, k ≤ t.size ∧ k ≤ 2000 ∧ i = .int .i64 k ∧ Hid ((t.data.toList.take k).all lb = true)) (fun i => t.size - (intOf i).toNat)
  case atStart => exact ⟨0, Nat.zero_le _, by omega, rfl, Lib.hid rfl⟩
  case round =>
    obtain ⟨k, hk, hk2, rfl, Hal⟩ := hrel
    clear d1
    by_cases hlt : k < t.size
    · by_cases hl2 : k < 2000
      · by_cases h32 : (t[k].toNat : Int) = 32
        · have Hc := Lib.hid (show lb t[k] = true by rw [lb_num, h32]; rfl)
          have hb32 : ((t[k].toNat : Int) != 32) = false := by rw [h32]; rfl
          clear h32
          go_wp2_with fail
          go_round
          case rel => exact ⟨k + 1, by omega, by omega, by go_num, Lib.hid (by rw [take_all_snoc t k hlt, Hal.out, Hc.out]; rfl)⟩
          case measure => simp [intOf]; omega
        · have hb32 : ((t[k].toNat : Int) != 32) = true := by rw [bne_iff_ne]; exact h32
          have hlb : lb t[k] = tb t[k] := by
            rw [lb_num, show ((t[k].toNat : Int) == 32) = false by rw [beq_eq_false_iff_ne]; exact h32]; rfl
          have HLB := Lib.hid hlb
          have hv := fun W => specTextValid (t.extract k (k + 1)) (by rw [ByteArray.size_extract]; unfold maxLen; omega) W
          rw [one_of t k hlt, tv_one] at hv
          have HV := Lib.hid hv
          have hsl : ∀ W, (Instr.slice 9 (.string t) (some (.int .i64 (k : Int))) (some (.int .i64 ((k : Int) + 1))) none).run Try.prog W = .ok (.string (t.extract k (k + 1))) W := fun W => run_slice_string W _ t _ _ _ _ Try.underlying9 (by omega) (by omega) (by omega)
          clear h32 hlb hv
          cases hc : tb t[k] with
          | true =>
            have Hc := Lib.hid hc
            clear hc
            go_wp2_with (go_at_call 113; refine (HV.out _).mono ?_; rw [Hc.out]; rintro e w' ⟨rfl, rfl⟩)
            go_round
            case rel => exact ⟨k + 1, by omega, by omega, by go_num, Lib.hid (by rw [take_all_snoc t k hlt, Hal.out, HLB.out, Hc.out]; rfl)⟩
            case measure => simp [intOf]; omega
          | false =>
            have Hc := Lib.hid hc
            clear hc
            go_wp2_with (go_at_call 113; refine (HV.out _).mono ?_; rw [Hc.out]; rintro e w' ⟨rfl, rfl⟩)
            go_ret
            exact ⟨ret_bool (by rw [lt_stop t k hlt (by rw [HLB.out, Hc.out])]), rfl⟩
      · have HFin := Lib.hid (lt_long (l := t.data.toList) (by have := HSZ.out; omega))
        go_wp2_with fail
        go_ret
        exact ⟨ret_bool (by rw [HFin.out]; first | rfl | (simp; done) | (simp; omega)), rfl⟩
    · have HAll := Lib.hid (show t.data.toList.all lb = true by have := Hal.out; rwa [List.take_of_length_le (by have := HSZ.out; omega)] at this)
      by_cases h2 : t.size < 2000
      · have HFin := Lib.hid (lt_of (l := t.data.toList) (by have := HSZ.out; omega))
        go_wp2_with fail
        go_ret
        exact ⟨ret_bool (by rw [HFin.out, HAll.out]; first | rfl | (simp; done) | (simp; omega)), rfl⟩
      · have HFin := Lib.hid (lt_long (l := t.data.toList) (by have := HSZ.out; omega))
        go_wp2_with fail
        go_ret
        exact ⟨ret_bool (by rw [HFin.out]; first | rfl | (simp; done) | (simp; omega)), rfl⟩

set_option maxRecDepth 100000 in
set_option maxHeartbeats 3200000 in
theorem specLayoutValid (l : List (Int × ByteArray)) (w : World) (a : Option Addr) (cap : Nat) (fs : List Nat) (hs : LaySub w a l fs) (hc : l.length ≤ cap) (hl : l.length ≤ maxLen) (hft : L.Fits l) :
    Calls Try.prog 48 #[.slice a l.length cap] w fun e w' => e = .returned (.bool (lv l)) ∧ Below w.heap.size w w' := by
  have HR := Lib.hid (show ∀ k, (h : k < l.length) → ∃ b off, a = some ⟨b, off, none⟩ ∧ b < w.heap.size ∧ LayAt w l b off from fun k h => by
    rcases hs with ⟨rfl, _⟩ | ⟨b, off, ha, hn, _, hr⟩
    · simp at h
    · exact ⟨b, off, ha, hr.lt hn, hr⟩)
  obtain ⟨m, hm⟩ : ∃ m, l.length = m := ⟨_, rfl⟩
  have HM := Lib.hid hm
  have HF := Lib.hid hft
  rw [hm] at hc hl ⊢
  unfold maxLen at hl
  clear hm hs hft
  go_enter Try.func48, Try.ntmps48
  go_wp2_with fail
  go_loopw [3] (fun i wr => ∃ k : Nat, k ≤ m ∧ k ≤ 201 ∧ i = .int .i64 k ∧ Hid ((l.take k).all rv = true) ∧ Hid ((h : 0 < l.length) → 0 < k → l[0].1 = 0) ∧ Below w.heap.size w wr) (fun i _ => m - (intOf i).toNat)
  case atStart => exact ⟨0, Nat.zero_le _, by omega, rfl, Lib.hid rfl, Lib.hid (fun _ h => by omega), Below.refl _ _⟩
  case round =>
    obtain ⟨k, hk, hk2, rfl, Hal, Hz, hbw⟩ := hrel
    by_cases hkm : k < m
    · by_cases hk3 : k ≤ 200
      · have hkl : k < l.length := by rw [HM.out]; exact hkm
        obtain ⟨b, off, rfl, hb, hrow⟩ := HR.out k hkl
        obtain ⟨⟨n, t⟩, hnt⟩ : ∃ r, l[k] = r := ⟨_, rfl⟩
        obtain ⟨c0, c1⟩ := (hrow.below hb hbw) k hkl
        rw [hnt] at c0 c1
        have ht : t.size ≤ maxLen := by have := HF.out.get hkl; rw [hnt] at this; exact this
        have HN := Lib.hid hnt
        have HT := Lib.hid (l2Text t ht)
        have hbr : b < wr.heap.size := Nat.lt_of_lt_of_le hb hbw.size
        clear hrow hnt ht
        by_cases h1 : n < 0
        · have HFin := Lib.hid (lv_bad hkl (by rw [HN.out]; exact rv_no1 h1))
          go_wp2_with fail
          go_ret
          exact ⟨ret_bool HFin.out.symm, hbw⟩
        · by_cases h2 : 400 < n
          · have HFin := Lib.hid (lv_bad hkl (by rw [HN.out]; exact rv_no2 h2))
            go_wp2_with fail
            go_ret
            exact ⟨ret_bool HFin.out.symm, hbw⟩
          · by_cases h3 : k = 0 ∧ n ≠ 0
            · obtain ⟨rfl, hn0⟩ := h3
              have HFin := Lib.hid (lv_head hkl (by rw [HN.out]; exact hn0))
              have hnb : (n != 0) = true := by rw [bne_iff_ne]; exact hn0
              rw [Nat.zero_mul, Nat.add_zero] at c0 c1
              clear hn0
              go_wp2_with fail
              go_ret
              exact ⟨ret_bool HFin.out.symm, hbw⟩
            · have HZ2 := Lib.hid (show (h : 0 < l.length) → 0 < k + 1 → l[0].1 = 0 from fun h _ => by
                by_cases hk0 : k = 0
                · subst hk0
                  have : n = 0 := by omega
                  have h4 := HN.out
                  rw [h4]; exact this
                · exact Hz.out h (by omega))
              have hrv : rv (n, t) = lt t.data.toList := rv_yes (by omega) (by omega)
              have HRV := Lib.hid hrv
              have hkz : k = 0 ∨ 0 < k := by omega
              clear hrv
              cases hv : lt t.data.toList with
              | true =>
                have HV := Lib.hid hv
                clear hv
                rcases hkz with rfl | hkz
                · obtain rfl : n = 0 := by omega
                  rw [Nat.zero_mul, Nat.add_zero] at c0 c1
                  clear h3
                  go_wp2_with (go_at_call 87; refine (HT.out _).mono ?_; rw [HV.out]; rintro e w' ⟨rfl, rfl⟩)
                  go_roundw
                  case rel => exact ⟨0 + 1, by omega, by omega, by go_num, Lib.hid (by rw [all_take hkl, Hal.out, HN.out, HRV.out, HV.out]; rfl), HZ2, hbw⟩
                  case measure => simp [intOf]; omega
                · have hk0 : ((k : Int) == 0) = false := by rw [beq_eq_false_iff_ne]; omega
                  clear h3
                  go_wp2_with (go_at_call 87; refine (HT.out _).mono ?_; rw [HV.out]; rintro e w' ⟨rfl, rfl⟩)
                  go_roundw
                  case rel => exact ⟨k + 1, by omega, by omega, by go_num, Lib.hid (by rw [all_take hkl, Hal.out, HN.out, HRV.out, HV.out]; rfl), HZ2, hbw⟩
                  case measure => simp [intOf]; omega
              | false =>
                have HV := Lib.hid hv
                have HFin := Lib.hid (lv_bad hkl (by rw [HN.out, HRV.out]; exact hv))
                clear hv
                rcases hkz with rfl | hkz
                · obtain rfl : n = 0 := by omega
                  rw [Nat.zero_mul, Nat.add_zero] at c0 c1
                  clear h3
                  go_wp2_with (go_at_call 87; refine (HT.out _).mono ?_; rw [HV.out]; rintro e w' ⟨rfl, rfl⟩)
                  go_ret
                  exact ⟨ret_bool HFin.out.symm, hbw⟩
                · have hk0 : ((k : Int) == 0) = false := by rw [beq_eq_false_iff_ne]; omega
                  clear h3
                  go_wp2_with (go_at_call 87; refine (HT.out _).mono ?_; rw [HV.out]; rintro e w' ⟨rfl, rfl⟩)
                  go_ret
                  exact ⟨ret_bool HFin.out.symm, hbw⟩
      · have HFin := Lib.hid (lv_long (l := l) (by have := HM.out; omega))
        go_wp2_with fail
        go_ret
        exact ⟨ret_bool (by rw [HFin.out]; first | rfl | (simp; done) | (simp; omega)), hbw⟩
    · by_cases h2 : 200 < m
      · have HFin := Lib.hid (lv_long (l := l) (by have := HM.out; omega))
        go_wp2_with fail
        go_ret
        exact ⟨ret_bool (by rw [HFin.out]; first | rfl | (simp; done) | (simp; omega)), hbw⟩
      · have hkm' : k = m := by omega
        by_cases h0 : 0 < m
        · have HFin := Lib.hid (show lv l = true by
            have e := HM.out
            rw [lv_of (by omega) (by omega) (Hz.out (by omega) (by omega)), ← Hal.out, List.take_of_length_le (by omega)])
          clear hkm'
          go_wp2_with fail
          go_ret
          exact ⟨ret_bool (by rw [HFin.out]; first | rfl | (simp; done) | (simp; omega)), hbw⟩
        · have HFin := Lib.hid (show lv l = false by
            have e := HM.out
            have : l = [] := List.eq_nil_of_length_eq_zero (by omega)
            rw [this]; rfl)
          clear hkm'
          go_wp2_with fail
          go_ret
          exact ⟨ret_bool (by rw [HFin.out] <;> first | rfl | (simp; done) | (simp; omega)), hbw⟩

end Go.Proofs.Ytgnpcfafdjebeaa.LayV
