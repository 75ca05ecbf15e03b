import Derived.Test.YtjcaiecapapceaaGreatBuf
/-
 What LayoutText of the program and of the model come to, over the lines.
-/
set_option linter.unusedVariables false
set_option linter.unusedSimpArgs false
set_option maxRecDepth 100000
set_option maxHeartbeats 3200000
namespace Go.Proofs.YtjcaiecapapceaaGreat.LayT
open Go.RowKit P1 TextV LayV LayW Buf BufB
theorem ret_str {s s' : ByteArray} (h : s = s') : Ending.returned (.string s) = .returned (.string s') := by rw [h]
theorem implLayoutText (l : List (Int × ByteArray)) (w : World) (a : Option Addr) (cap : Nat) (fs : List Nat) (hs : LaySub w a l fs) (hc : l.length ≤ cap) (hl : l.length ≤ maxLen) (hft : L.Fits l) :
  Calls Tryz.prog 19 #[.slice a l.length cap] w fun e w' => e = .returned (.string (lt8 l)) ∧ Below w.heap.size w w' := by
 have HR := Lib.hid (show ∀ k, (h : k < l.length) → ∃ b off, a = some ⟨b, off, none⟩ ∧ b < w.heap.size ∧ LayAt w l b off from fun k h => by
  rcases hs with ⟨rfl, _⟩ | ⟨b, off, ha, hn, _, hr⟩
  ·simp at h
  ·exact ⟨b, off, ha, hr.lt hn, hr⟩)
 have hv := implLayoutValid l w a cap fs hs hc hl hft
 obtain ⟨m, hm⟩ : ∃ m, l.length = m := ⟨_, rfl⟩
 have HM := Lib.hid hm
 rw [hm] at hc hl hv ⊢
 unfold maxLen at hl
 clear hm hs hft
 cases hlv : lv l with
 | false =>
   rw [hlv] at hv
   have HV := Lib.hid hv
   have HFin := Lib.hid (lt8_no hlv)
   clear hv hlv
   go_enter Tryz.func19, Tryz.ntmps19
   go_wp2_with fail
   refine HV.out.mono ?_
   rintro e1 w1 ⟨rfl, hb1⟩
   have HB := Lib.hid hb1
   clear hb1
   go_wp2_with fail
   go_ret
   exact ⟨ret_str HFin.out.symm, HB.out⟩
 | true =>
   rw [hlv] at hv
   have HV := Lib.hid hv
   have HLV := Lib.hid hlv
   have hm2 : m ≤ 200 := by have := (lv_len hlv).2; have := HM.out; omega
   clear hv hlv
   go_enter Tryz.func19, Tryz.ntmps19
   go_wp2_with fail
   refine HV.out.mono ?_
   rintro e1 w1 ⟨rfl, hb1⟩
   have HB := Lib.hid hb1
   have HN := Lib.hid (Holds.new w1)
   have HNB := Lib.hid (show ∀ o, Below w1.heap.size w1 (w1.alloc o) from fun o => (Below.refl _ _).alloc (Nat.le_refl _) _)
   clear hb1
   go_wp2_with fail
   go_loopw [11] (fun i wr => ∃ (k : Nat), k ≤ m ∧ i = .int .i64 k ∧ Holds w1.heap.size w1.heap.size (txB (l.take k)) wr ∧ Below w1.heap.size w1 wr ∧ w1.heap.size < wr.heap.size) (fun i _ => m - (intOf i).toNat)
   case atStart => exact ⟨0, by omega, rfl, HN.out, HNB.out _, by simp⟩
   case round =>
    obtain ⟨k, hk, rfl, hH, hbw, hsz⟩ := hrel
    by_cases hkm : k < m
    ·have hkl : k < l.length := by rw [HM.out]; exact hkm
     obtain ⟨b, off, rfl, hb, hrow⟩ := HR.out k hkl
     have hwr : Below w.heap.size w wr := HB.out.trans (hbw.mono HB.out.size)
     obtain ⟨c0, c1⟩ := (hrow.below hb hwr) k hkl
     have hrv := rv_len (lv_get HLV.out hkl)
     have hlen := txB_len HLV.out k (by omega)
     have HT1 := Lib.hid (fun (h0 : 0 < k) => txB_take hkl h0)
     have HT0 := Lib.hid (show k = 0 → txB (l.take (k + 1)) = lnB l[k] from fun h0 => by subst h0; exact txB_first (by omega))
     obtain ⟨⟨n, t⟩, hnt⟩ : ∃ r, l[k] = r := ⟨_, rfl⟩
     rw [hnt] at c0 c1 hrv HT1 HT0
     simp only [lnB] at hrv HT1 HT0
     obtain ⟨c, rfl⟩ := Int.eq_ofNat_of_zero_le hrv.1
     have hw400 : c ≤ 400 := by have := hrv.2.1; omega
     have ht2 : t.size ≤ 2000 := by have := hrv.2.2; omega
     have HAL := Lib.hid (fun o => hH.alloc o)
     have HBL := Lib.hid (fun o => (show Below w1.heap.size w1 (wr.alloc o) from hbw.alloc (Nat.le_of_lt hsz) o))
     have HNW := Lib.hid (heap_new wr #[.int .i64 c, .string t] 67)
     have i0 : (0 : Int) ≤ (k : Int) := Int.natCast_nonneg _
     have i1 : (k : Int) < (m : Int) := by omega
     clear hrow hnt hrv hwr hH
     rcases Nat.eq_zero_or_pos k with rfl | h0
     ·rw [Nat.zero_mul, Nat.add_zero] at c0 c1
      have HW := Lib.hid (fun o => writeRow w1.heap.size w1.heap.size (txB (l.take 0)) c t hw400 ht2 (by omega) (wr.alloc o) (HAL.out o) (by simp; omega) (by simp; omega))
      go_wp2_with fail
      refine (HW.out _).mono ?_
      rintro e w2 ⟨rfl, hw2⟩
      have H2 := Lib.hid hw2
      clear hw2
      go_wp2_with fail
      go_roundw
      case rel =>
       refine ⟨1, by omega, rfl, ?_, (HBL.out _).trans H2.out.2.1, by have := H2.out.2.1.size; simp at this; omega⟩
       have h := H2.out.1
       rw [List.take_zero, show txB [] = [] from rfl, List.nil_append] at h
       rw [show txB (l.take 1) = _ from HT0.out trivial]
       exact h
      case measure => simp [intOf]; omega
     ·have i2 : (0 : Int) < (k : Int) := by omega
      have HW := Lib.hid (fun o => writeByte w1.heap.size w1.heap.size (txB (l.take k)) 10 10 rfl (wr.alloc o) (HAL.out o) (by omega) (by simp; omega))
      go_wp2_with fail
      refine (HW.out _).mono ?_
      rintro e w2 ⟨rfl, hw2⟩
      have hd0 := (hw2.cell (o := 0) HNW.out (by decide) (by omega)).trans (show _ = some (Value.int .i64 (c : Int)) from by rw [World.cell?_alloc_new]; rfl)
      have hd1 := (hw2.cell (o := 1) HNW.out (by decide) (by omega)).trans (show _ = some (Value.string t) from by rw [World.cell?_alloc_new]; rfl)
      have hs2 := hw2.2.1.size
      have HW2 := Lib.hid (writeRow w1.heap.size w1.heap.size (txB (l.take k) ++ [10]) c t hw400 ht2 (by simp; omega) w2 hw2.1 (by simp at hs2; omega) (by simp at hs2; omega))
      have H2 := Lib.hid hw2
      clear hw2 hs2
      go_wp2_with fail
      refine HW2.out.mono ?_
      rintro e w3 ⟨rfl, hw3⟩
      have H3 := Lib.hid (H2.out.trans hw3)
      clear hw3 hd0 hd1
      go_wp2_with fail
      go_roundw
      case rel => exact ⟨k + 1, by omega, by go_num, by rw [HT1.out h0]; exact H3.out.1, (HBL.out _).trans H3.out.2.1, by have := H3.out.2.1.size; simp at this; omega⟩
      case measure => simp [intOf]; omega
    ·have HE := Lib.hid (string w1.heap.size w1.heap.size (txB (l.take k)) wr hH (by omega))
     clear hH
     go_wp2_with fail
     refine HE.out.mono ?_
     rintro e w2 ⟨rfl, hw2⟩
     have H2 := Lib.hid hw2
     clear hw2
     go_wp2_with fail
     go_ret
     refine ⟨ret_str ?_, HB.out.trans ((hbw.trans H2.out.2.1).mono HB.out.size)⟩
     rw [lt8_yes HLV.out, List.take_of_length_le (by have := HM.out; omega)]; rfl
end Go.Proofs.YtjcaiecapapceaaGreat.LayT
