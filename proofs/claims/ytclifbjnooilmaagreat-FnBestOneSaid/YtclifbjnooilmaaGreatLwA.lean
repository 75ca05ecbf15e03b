import Derived.Test.YtclifbjnooilmaaGreatLyX
/-
 What LayoutWidth and Overflow of the program and of the model come to.
-/
set_option linter.unusedVariables false
set_option linter.unusedSimpArgs false
set_option maxRecDepth 100000
set_option maxHeartbeats 1600000
namespace Go.Proofs.YtclifbjnooilmaaGreat.LayW
open Go.RowKit P1 TextV LayV
theorem ret_int {k : IntKind} {a b : Int} (h : a = b) : Ending.returned (.int k a) = .returned (.int k b) := by rw [h]
theorem ret_str {a b : ByteArray} (h : a = b) : Ending.returned (.string a) = .returned (.string b) := by rw [h]
theorem bytes_none {t : ByteArray} (h : t.size = 0) : t = ⟨#[]⟩ := by
 apply ByteArray.ext
 apply Array.eq_empty_of_size_eq_zero
 exact h
theorem bytes_some {t : ByteArray} (h : t.size ≠ 0) : (t.toList == ([] : List UInt8)) = false ∧ t.toList.isEmpty = false := by
 have e : t.toList ≠ [] := by
  rw [Lib.toList_data]
  intro e
  have := congrArg List.length e
  simp at this
  exact h (by rw [this]; rfl)
 exact ⟨by simpa using e, by simpa using e⟩
theorem below_drewN' {B : Nat} {a w : World} (h : Below B a w) (n : Nat) : Below B a (w.drewN n) := by
 induction n with
 | zero => exact h
 | succ n ih => exact ih.drew
theorem l2Spaces (n : Int) (h0 : 0 ≤ n) (h1 : n ≤ 100000) (w : World) :
  Calls Tryz.prog 151 #[.int .i64 n] w fun e w' => e = .returned (.string (sp n.toNat)) ∧ w = w' := by
 obtain ⟨m, rfl⟩ := Int.eq_ofNat_of_zero_le h0
 clear h0
 go_enter Tryz.func151, Tryz.ntmps151
 go_wp2_with fail
 go_loop [3, 4] (fun s i => ∃ (k : Nat) (u : ByteArray), k ≤ m ∧ i = .int .i64 k ∧ s = .string u ∧ Hid (u = sp k)) (fun _ i => m - (intOf i).toNat)
 case atStart => exact ⟨0, ⟨#[]⟩, by omega, rfl, rfl, Lib.hid rfl⟩
 case round =>
  obtain ⟨k, u, hk, rfl, rfl, HU⟩ := hrel
  have hus : u.size ≤ 100000 := by have e := HU.out; rw [e, sp_size]; omega
  by_cases hkm : k < m
  ·go_wp2_with fail
   go_round
   case rel => exact ⟨k + 1, _, by omega, by go_num, rfl, Lib.hid (by rw [HU.out, ← sp_succ])⟩
   case measure => simp [intOf]; omega
  ·obtain rfl : k = m := by omega
   go_wp2_with fail
   go_ret
   exact ⟨by rw [HU.out]; simp, rfl⟩
theorem l2Line (n : Int) (t : ByteArray) (h0 : 0 ≤ n) (h1 : n ≤ 100000) (ht : t.size ≤ 100000) (w : World) :
  Calls Tryz.prog 127 #[.agg #[.int .i64 n, .string t]] w fun e w' => e = .returned (.string (ln n t)) ∧ Below w.heap.size w w' := by
 have B1 : ∀ ob, Below w.heap.size w (w.alloc ob) := fun ob => (Below.refl _ _).alloc (Nat.le_refl _) _
 by_cases hz : t.size = 0
 ·have HL := Lib.hid (ln_no (n := n) hz)
  have e := bytes_none hz
  subst e
  clear hz
  go_enter Tryz.func127, Tryz.ntmps127
  go_wp2_with fail
  go_ret
  exact ⟨ret_str HL.out.symm, B1 _⟩
 ·have HL := Lib.hid (ln_yes (n := n) hz)
  obtain ⟨e1, e2⟩ := bytes_some hz
  obtain ⟨s, hs⟩ : ∃ s, sp n.toNat = s := ⟨_, rfl⟩
  have hss : s.size ≤ 100000 := by rw [← hs, sp_size]; omega
  have hsp := fun W => l2Spaces n h0 h1 W
  rw [hs] at hsp
  have HSP := Lib.hid hsp
  have HS := Lib.hid hs
  have hsum : ¬ (9223372036854775807 < s.size + t.size) := by omega
  clear hz hsp hs
  go_enter Tryz.func127, Tryz.ntmps127
  go_wp2_with fail
  go_quiet ((go_at_call 151; exact Calls.quiet_of_same ((HSP.out _).mono (fun _ _ q => ⟨q.1, q.2.symm⟩))))
  go_wp2_with fail
  go_ret
  exact ⟨ret_str (by rw [HL.out, HS.out]), below_drewN' (B1 _) _⟩
end Go.Proofs.YtclifbjnooilmaaGreat.LayW
namespace Go.Proofs.YtclifbjnooilmaaGreat.LayW
open Go.RowKit P1 TextV LayV
theorem rowWidth (n : Int) (t : ByteArray) (h0 : 0 ≤ n) (h1 : n ≤ 100000) (ht : t.size ≤ 100000) (w : World) :
  Calls Tryz.prog 62 #[.agg #[.int .i64 n, .string t]] w fun e w' => e = .returned (.int .i64 (rowW (n, t))) ∧ Below w.heap.size w w' := by
 have B1 : ∀ ob, Below w.heap.size w (w.alloc ob) := fun ob => (Below.refl _ _).alloc (Nat.le_refl _) _
 by_cases hz : t.size = 0
 ·have HL := Lib.hid (rowW_no (n := n) hz)
  have e := bytes_none hz
  subst e
  clear hz
  go_enter Tryz.func62, Tryz.ntmps62
  go_wp2_with fail
  go_ret
  exact ⟨ret_int HL.out.symm, B1 _⟩
 ·have HL := Lib.hid (rowW_yes (n := n) hz)
  obtain ⟨e1, e2⟩ := bytes_some hz
  clear hz
  go_enter Tryz.func62, Tryz.ntmps62
  go_wp2_with fail
  go_ret
  exact ⟨ret_int HL.out.symm, B1 _⟩
theorem lineW (n : Int) (t : ByteArray) (h0 : 0 ≤ n) (h1 : n ≤ 400) (ht : t.size < 2000) : ∃ (s : ByteArray) (z : Int), rowW (n, t) = z ∧ (s.size : Int) = z ∧ 0 ≤ z ∧ z ≤ 2399 ∧ s.size ≤ 2399 ∧ ∀ W : World, Calls Tryz.prog 127 #[.agg #[.int .i64 n, .string t]] W fun e w' => e = .returned (.string s) ∧ Below W.heap.size W w' := by
 have hs := ln_size (t := t) h0
 have hb : 0 ≤ rowW (n, t) ∧ rowW (n, t) ≤ 2399 := by unfold rowW; split <;> simp <;> omega
 exact ⟨ln n t, rowW (n, t), rfl, hs, hb.1, hb.2, by omega, fun W => l2Line n t h0 (by omega) (by omega) W⟩
end Go.Proofs.YtclifbjnooilmaaGreat.LayW
namespace Go.Proofs.YtclifbjnooilmaaGreat.LayW
open Go.RowKit P1 TextV LayV
theorem rowsOver (l : List (Int × ByteArray)) (x : Int) (w : World) (a : Option Addr) (cap : Nat) (fs : List Nat) (hs : LaySub w a l fs) (hc : l.length ≤ cap) (hlv : lv l = true) (hx0 : 0 ≤ x) (hx1 : x ≤ 9223372036854775807) :
  Calls Tryz.prog 79 #[.slice a l.length cap, .int .i64 x] w fun e w' => e = .returned (.int .i64 (ov x l)) ∧ Below w.heap.size w w' := by
 have HR := Lib.hid (show ∀ k, (h : k < l.length) → ∃ b off, a = some ⟨b, off, none⟩ ∧ b < w.heap.size ∧ LayAt w l b off from fun k h => by
  rcases hs with ⟨rfl, _⟩ | ⟨b, off, ha, hn, _, hr⟩
  ·simp at h
  ·exact ⟨b, off, ha, hr.lt hn, hr⟩)
 have hm2 := (lv_len hlv).2
 obtain ⟨m, hm⟩ : ∃ m, l.length = m := ⟨_, rfl⟩
 have HM := Lib.hid hm
 have HLV := Lib.hid hlv
 rw [hm] at hc hm2 ⊢
 clear hm hs hlv
 go_enter Tryz.func79, Tryz.ntmps79
 go_wp2_with fail
 go_loopw [10, 5] (fun i s wr => ∃ (k : Nat) (c : Int), k ≤ m ∧ i = .int .i64 k ∧ s = .int .i64 c ∧ Hid (c = ov x (l.take k)) ∧ 0 ≤ c ∧ c ≤ 2399 * k ∧ Below w.heap.size w wr) (fun i _ _ => m - (intOf i).toNat)
 case atStart => exact ⟨0, 0, by omega, rfl, rfl, Lib.hid rfl, by omega, by omega, Below.refl _ _⟩
 case round =>
  obtain ⟨k, c, hk, rfl, rfl, HC, hc0, hc1, hbw⟩ := hrel
  by_cases hkm : k < m
  ·have hkl : k < l.length := by rw [HM.out]; exact hkm
   obtain ⟨b, off, rfl, hb, hrow⟩ := HR.out k hkl
   obtain ⟨c0, c1⟩ := (hrow.below hb hbw) k hkl
   have hrv := rv_len (lv_get HLV.out hkl)
   have hbd := rowW_bd (lv_get HLV.out hkl)
   have hwt := ov_take (x := x) hkl
   obtain ⟨⟨n, t⟩, hnt⟩ : ∃ r, l[k] = r := ⟨_, rfl⟩
   rw [hnt] at c0 c1 hrv hbd hwt
   have hrw := fun W => rowWidth n t hrv.1 (by have := hrv.2.1; simp only at this; omega) (by have := hrv.2.2; simp only at this; omega) W
   obtain ⟨z, hz⟩ : ∃ z, rowW (n, t) = z := ⟨_, rfl⟩
   rw [hz] at hrw hbd hwt
   obtain ⟨hz0, hz1⟩ := hbd
   have HWT := Lib.hid hwt
   have HRW := Lib.hid hrw
   have HA := Lib.hid (show ∀ ob, Below w.heap.size w (wr.alloc ob) from fun ob => hbw.alloc hbw.size _)
   clear hrow hnt hrv hwt hz hrw
   have hmx0 : 0 ≤ max 0 (z - x) := by omega
   have hmx1 : max 0 (z - x) ≤ 2399 := by omega
   have hmx2 : c + max 0 (z - x) ≤ 1000000 := by omega
   go_wp2_with (go_at_call 62; refine (HRW.out _).mono ?_; rintro e w' ⟨rfl, hb1⟩)
   go_roundw
   case rel => exact ⟨k + 1, c + max 0 (z - x), by omega, by go_num, rfl, Lib.hid (by rw [HWT.out, ← HC.out]), by omega, by omega, (HA.out _).trans (hb1.mono (HA.out _).size)⟩
   case measure => simp [intOf]; omega
  ·go_wp2_with fail
   go_ret
   exact ⟨ret_int (by rw [HC.out, List.take_of_length_le (by have := HM.out; omega)]), hbw⟩
theorem l2Over (l : List (Int × ByteArray)) (x : Int) (w : World) (a : Option Addr) (cap : Nat) (fs : List Nat) (hs : LaySub w a l fs) (hc : l.length ≤ cap) (hlv : lv l = true) (hx0 : 0 ≤ x) (hx1 : x ≤ 9223372036854775807) :
  Calls Tryz.prog 91 #[.slice a l.length cap, .int .i64 x] w fun e w' => e = .returned (.int .i64 (ov x l)) ∧ Below w.heap.size w w' := by
 have HR := Lib.hid (show ∀ k, (h : k < l.length) → ∃ b off, a = some ⟨b, off, none⟩ ∧ b < w.heap.size ∧ LayAt w l b off from fun k h => by
  rcases hs with ⟨rfl, _⟩ | ⟨b, off, ha, hn, _, hr⟩
  ·simp at h
  ·exact ⟨b, off, ha, hr.lt hn, hr⟩)
 have hm2 := (lv_len hlv).2
 obtain ⟨m, hm⟩ : ∃ m, l.length = m := ⟨_, rfl⟩
 have HM := Lib.hid hm
 have HLV := Lib.hid hlv
 rw [hm] at hc hm2 ⊢
 clear hm hs hlv
 go_enter Tryz.func91, Tryz.ntmps91
 go_wp2_with fail
 go_loopw [6, 5] (fun i s wr => ∃ (k : Nat) (c : Int), k ≤ m ∧ i = .int .i64 k ∧ s = .int .i64 c ∧ Hid (c = ov x (l.take k)) ∧ 0 ≤ c ∧ c ≤ 2399 * k ∧ Below w.heap.size w wr) (fun i _ _ => m - (intOf i).toNat)
 case atStart => exact ⟨0, 0, by omega, rfl, rfl, Lib.hid rfl, by omega, by omega, Below.refl _ _⟩
 case round =>
  obtain ⟨k, c, hk, rfl, rfl, HC, hc0, hc1, hbw⟩ := hrel
  by_cases hkm : k < m
  ·have hkl : k < l.length := by rw [HM.out]; exact hkm
   obtain ⟨b, off, rfl, hb, hrow⟩ := HR.out k hkl
   have hrv := rv_len (lv_get HLV.out hkl)
   have hwt := ov_take (x := x) hkl
   obtain ⟨⟨n, t⟩, hnt⟩ : ∃ r, l[k] = r := ⟨_, rfl⟩
   obtain ⟨c0, c1⟩ := (hrow.below hb hbw) k hkl
   rw [hnt] at hrv hwt c0 c1
   obtain ⟨s, z, hz, hsz, hz0, hz1, hs2, hline⟩ := lineW n t hrv.1 hrv.2.1 hrv.2.2
   rw [hz] at hwt
   have HWT := Lib.hid hwt
   have HLN := Lib.hid hline
   have HBW := Lib.hid hbw
   have HSZ := Lib.hid hsz
   have hsl : (s.size : Int) ≤ 2399 := by omega
   have hsg : 0 ≤ (s.size : Int) := by omega
   by_cases hzc : 0 < z - x
   ·have hlt : 0 < (s.size : Int) - x := by rw [hsz]; exact hzc
    clear hrow hnt hrv hwt hz hline hbw hsz
    go_wp2_with fail
    refine (HLN.out _).mono ?_
    rintro e1 w2 ⟨rfl, hb2⟩
    have HB2 := Lib.hid (HBW.out.trans (hb2.mono HBW.out.size))
    clear hb2 c0 c1
    go_wp2_with fail
    go_roundw
    case rel => exact ⟨k + 1, c + ((s.size : Int) - x), by omega, by go_num, rfl, Lib.hid (by rw [HWT.out, ← HC.out, HSZ.out]; omega), by omega, by omega, HB2.out⟩
    case measure => simp [intOf]; omega
   ·have hlt : (s.size : Int) - x ≤ 0 := by rw [hsz]; omega
    clear hrow hnt hrv hwt hz hline hbw hsz
    go_wp2_with fail
    refine (HLN.out _).mono ?_
    rintro e1 w2 ⟨rfl, hb2⟩
    have HB2 := Lib.hid (HBW.out.trans (hb2.mono HBW.out.size))
    clear hb2 c0 c1
    go_wp2_with fail
    go_roundw
    case rel => exact ⟨k + 1, c, by omega, by go_num, rfl, Lib.hid (by rw [HWT.out, ← HC.out]; omega), by omega, by omega, HB2.out⟩
    case measure => simp [intOf]; omega
  ·go_wp2_with fail
   go_ret
   exact ⟨ret_int (by rw [HC.out, List.take_of_length_le (by have := HM.out; omega)]), hbw⟩
end Go.Proofs.YtclifbjnooilmaaGreat.LayW
