/-
  What LayoutValid of the program and of the model come to.
-/
import Derived.Test.YtjpgnhpfmdjamaaLay
import Derived.Test.YtjpgnhpfmdjamaaText
set_option linter.unusedVariables false
set_option linter.unusedSimpArgs false
namespace Go.Proofs.Ytjpgnhpfmdjamaa.LayV
open Go.RowKit P1 TextV

theorem rv_no1 {n : Int} {t : ByteArray} (h : n < 0) : rv (n, t) = false := by simp [rv]; omega
theorem rv_no2 {n : Int} {t : ByteArray} (h : 400 < n) : rv (n, t) = false := by simp [rv]; omega
theorem rv_no3 {n : Int} {t : ByteArray} (h : lt t.data.toList = false) : rv (n, t) = false := by simp [rv, h]
theorem rv_yes {n : Int} {t : ByteArray} (h0 : 0 ≤ n) (h1 : n ≤ 400) : rv (n, t) = lt t.data.toList := by simp [rv, h0, h1]

theorem row_cells {W w1 : World} {n : Int} {t : ByteArray} {T : TypeId} (hb : Below (W.alloc (.cells #[.int .i64 n, .string t] T)).heap.size (W.alloc (.cells #[.int .i64 n, .string t] T)) w1) :
    w1.cell? ⟨W.heap.size, 0, none⟩ = some (.int .i64 n) ∧ w1.cell? ⟨W.heap.size, 1, none⟩ = some (.string t) := by
  refine ⟨?_, ?_⟩ <;> (rw [hb.cell (p := ⟨_, _, _⟩) (by simp), World.cell?_alloc_new]; rfl)

set_option maxRecDepth 100000 in
set_option maxHeartbeats 1600000 in
theorem rowValid (n : Int) (t : ByteArray) (ht : t.size ≤ maxLen) (w : World) :
    Calls Try.prog 74 #[.agg #[.int .i64 n, .string t]] w fun e w' => e = .returned (.bool (rv (n, t))) ∧ Below w.heap.size w w' := by
  unfold maxLen at ht
  have hsz : t.data.toList.length = t.size := by simp
  have B1 : ∀ ob, Below w.heap.size w (w.alloc ob) := fun ob => (Below.refl _ _).alloc (Nat.le_refl _) _
  by_cases h1 : n < 0
  · have Hb := Lib.hid (rv_no1 (t := t) h1)
    go_enter Try.func74, Try.ntmps74
    go_wp2_with fail
    go_ret
    exact ⟨ret_bool Hb.out.symm, B1 _⟩
  · by_cases h2 : 400 < n
    · have Hb := Lib.hid (rv_no2 (t := t) h2)
      go_enter Try.func74, Try.ntmps74
      go_wp2_with fail
      go_ret
      exact ⟨ret_bool Hb.out.symm, B1 _⟩
    · by_cases h3 : 1999 < t.size
      · have Hb := Lib.hid (rv_no3 (n := n) (lt_long (l := t.data.toList) (by omega)))
        clear hsz
        go_enter Try.func74, Try.ntmps74
        go_wp2_with fail
        go_ret
        exact ⟨ret_bool Hb.out.symm, B1 _⟩
      · have Hb := Lib.hid ((rv_yes (n := n) (t := t) (by omega) (by omega)).trans (lt_of (l := t.data.toList) (by omega)))
        clear hsz B1
        go_enter Try.func74, Try.ntmps74
        go_wp2_with fail
        go_loop [21] (fun i => ∃ k : Nat, k ≤ t.size ∧ i = .int .i64 k ∧ Hid ((t.data.toList.take k).all lb = true)) (fun i => t.size - (intOf i).toNat)
        case atStart => exact ⟨0, Nat.zero_le _, rfl, Lib.hid rfl⟩
        case round =>
          obtain ⟨k, hk, rfl, Hal⟩ := hrel
          by_cases hlt : k < t.size
          · by_cases h32 : (t[k].toNat : Int) = 32
            · have Hc := Lib.hid (show lb t[k] = true by rw [lb_num, h32]; rfl)
              have hb32 : ((t[k].toNat : Int) != 32) = false := by rw [h32]; rfl
              clear h32
              go_wp2_with fail
              go_round
              case rel => exact ⟨k + 1, by omega, by go_num, Lib.hid (by rw [take_all_snoc t k hlt, Hal.out, Hc.out]; rfl)⟩
              case measure => simp [intOf]; omega
            · have hb32 : ((t[k].toNat : Int) != 32) = true := by rw [bne_iff_ne]; exact h32
              have hlb : lb t[k] = tb t[k] := by
                rw [lb_num, show ((t[k].toNat : Int) == 32) = false by rw [beq_eq_false_iff_ne]; exact h32]; rfl
              have HLB := Lib.hid hlb
              clear h32 hlb
              cases hc : tb t[k] with
              | true =>
                have Hc := Lib.hid hc
                clear hc
                go_wp2_with (go_at_call 98; refine (isTextByte _ _).mono ?_; rw [Hc.out]; rintro e w' ⟨rfl, rfl⟩)
                go_round
                case rel => exact ⟨k + 1, by omega, by go_num, Lib.hid (by rw [take_all_snoc t k hlt, Hal.out, HLB.out, Hc.out]; rfl)⟩
                case measure => simp [intOf]; omega
              | false =>
                have Hc := Lib.hid hc
                clear hc
                go_wp2_with (go_at_call 98; refine (isTextByte _ _).mono ?_; rw [Hc.out]; rintro e w' ⟨rfl, rfl⟩)
                go_ret
                exact ⟨ret_bool (by rw [Hb.out, all_stop t k hlt lb (by rw [HLB.out, Hc.out])]), (Below.refl _ _).alloc (Nat.le_refl _) _⟩
          · go_wp2_with fail
            go_ret
            exact ⟨ret_bool (by rw [Hb.out, ← Hal.out, List.take_of_length_le (by simp; omega)]), (Below.refl _ _).alloc (Nat.le_refl _) _⟩

set_option maxRecDepth 100000 in
set_option maxHeartbeats 1600000 in
theorem implLayoutValid (l : List (Int × ByteArray)) (w : World) (a : Option Addr) (cap : Nat) (fs : List Nat) (hs : LaySub w a l fs) (hc : l.length ≤ cap) (hl : l.length ≤ maxLen) (hft : L.Fits l) :
    Calls Try.prog 41 #[.slice a l.length cap] w fun e w' => e = .returned (.bool (lv l)) ∧ Below w.heap.size w w' := by
  rcases hs with ⟨rfl, _⟩ | ⟨b, off, rfl, hne, _, hrow⟩
  · go_enter Try.func41, Try.ntmps41
    go_wp2_with fail
    go_ret
    exact ⟨rfl, Below.refl _ _⟩
  · have hb := hrow.lt hne
    have h0 : 0 < l.length := List.length_pos_iff.2 hne
    obtain ⟨⟨n0, t0⟩, hnt0⟩ : ∃ r, l[0] = r := ⟨_, rfl⟩
    have z0 := (hrow 0 h0).1
    rw [hnt0, Nat.zero_mul, Nat.add_zero] at z0
    obtain ⟨m, hm⟩ : ∃ m, l.length = m := ⟨_, rfl⟩
    have HM := Lib.hid hm
    have HR := Lib.hid hrow
    have HF := Lib.hid hft
    have hm0 : 0 < m := by omega
    rw [hm] at hc hl ⊢
    unfold maxLen at hl
    by_cases h2 : 200 < m
    · have HFin := Lib.hid (lv_long (l := l) (by omega))
      clear hm hrow hft hnt0 hne h0
      go_enter Try.func41, Try.ntmps41
      go_wp2_with fail
      go_ret
      exact ⟨ret_bool HFin.out.symm, Below.refl _ _⟩
    · by_cases h3 : n0 = 0
      · subst h3
        have HFin := Lib.hid (lv_of (l := l) h0 (by omega) (by rw [hnt0]))
        clear hm hrow hft hnt0 hne h0
        go_enter Try.func41, Try.ntmps41
        go_wp2_with fail
        go_loopw [22] (fun i wr => ∃ k : Nat, k ≤ m ∧ i = .int .i64 k ∧ Hid ((l.take k).all rv = true) ∧ Below w.heap.size w wr) (fun i _ => m - (intOf i).toNat)
        case atStart => exact ⟨0, Nat.zero_le _, rfl, Lib.hid rfl, Below.refl _ _⟩
        case round =>
          obtain ⟨k, hk, rfl, Hal, hbw⟩ := hrel
          clear z0
          by_cases hkm : k < m
          · have hkl : k < l.length := by rw [HM.out]; exact hkm
            obtain ⟨⟨n, t⟩, hnt⟩ : ∃ r, l[k] = r := ⟨_, rfl⟩
            obtain ⟨c0, c1⟩ := (HR.out.below hb hbw) k hkl
            rw [hnt] at c0 c1
            have ht : t.size ≤ maxLen := by have := HF.out.get hkl; rw [hnt] at this; exact this
            have HN := Lib.hid hnt
            have hbr : b < wr.heap.size := Nat.lt_of_lt_of_le hb hbw.size
            have HRV := Lib.hid (rowValid n t ht)
            have HB1 := Lib.hid (show ∀ ob, Below w.heap.size w (wr.alloc ob) from fun ob => hbw.alloc hbw.size _)
            clear hnt ht
            cases hv : rv (n, t) with
            | true =>
              have HV := Lib.hid hv
              clear hv
              go_wp2_with (go_at_call 74; refine (HRV.out _).mono ?_; rw [HV.out]; rintro e w' ⟨rfl, hb1⟩)
              go_roundw
              case rel => exact ⟨k + 1, by omega, by go_num, Lib.hid (by rw [all_take hkl, Hal.out, HN.out, HV.out]; rfl), (HB1.out _).trans (hb1.mono (HB1.out _).size)⟩
              case measure => simp [intOf]; omega
            | false =>
              have HV := Lib.hid hv
              clear hv
              go_wp2_with (go_at_call 74; refine (HRV.out _).mono ?_; rw [HV.out]; rintro e w' ⟨rfl, hb1⟩)
              go_ret
              exact ⟨ret_bool (by rw [lv_bad hkl (by rw [HN.out]; exact HV.out)]), (HB1.out _).trans (hb1.mono (HB1.out _).size)⟩
          · go_wp2_with fail
            go_ret
            exact ⟨ret_bool (by rw [HFin.out, ← Hal.out, List.take_of_length_le (by have := HM.out; omega)]), hbw⟩
      · have HFin := Lib.hid (lv_head (l := l) h0 (by rw [hnt0]; exact h3))
        have hnb : (n0 != 0) = true := by rw [bne_iff_ne]; exact h3
        clear hm hrow hft hnt0 hne h0
        go_enter Try.func41, Try.ntmps41
        go_wp2_with fail
        go_ret
        exact ⟨ret_bool HFin.out.symm, Below.refl _ _⟩

end Go.Proofs.Ytjpgnhpfmdjamaa.LayV
