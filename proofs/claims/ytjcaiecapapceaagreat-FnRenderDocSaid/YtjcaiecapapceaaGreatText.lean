import Derived.Test.YtjcaiecapapceaaGreatPl
import Derived.Test.YtjcaiecapapceaaGreatShelf
import Derived.Test.YtjcaiecapapceaaGreatChecked
/-
 What TextValid of the program and of the model come to: both report whether the bytes are those of a text of a document.
-/
set_option linter.unusedVariables false
set_option linter.unusedSimpArgs false
set_option maxHeartbeats 2000000
namespace Go.Proofs.YtjcaiecapapceaaGreat.TextV
open Go.RowKit P1
theorem ret_bool {a b : Bool} (h : a = b) : Ending.returned (.bool a) = .returned (.bool b) := by rw [h]
set_option maxHeartbeats 400000 in
theorem isTextByte (c : UInt8) (w : World) :
  Calls Tryz.prog 94 #[.int .u8 (c.toNat : Int)] w fun e w' => e = .returned (.bool (tb c)) ∧ w = w' := by
 by_cases h1 : 97 ≤ (c.toNat : Int) ∧ (c.toNat : Int) ≤ 122
 ·have Hb := Lib.hid (tb_yes c (.inl h1))
  obtain ⟨h1a, h1b⟩ := h1
  go_enter Tryz.func94, Tryz.ntmps94
  go_wp2
  go_ret
  exact ⟨ret_bool Hb.out.symm, rfl⟩
 ·by_cases h2 : 48 ≤ (c.toNat : Int) ∧ (c.toNat : Int) ≤ 57
  ·have Hb := Lib.hid (tb_yes c (.inr (.inl h2)))
   obtain ⟨h2a, h2b⟩ := h2
   go_enter Tryz.func94, Tryz.ntmps94
   go_wp2
   go_ret
   exact ⟨ret_bool Hb.out.symm, rfl⟩
  ·have Hb := Lib.hid (tb_index c h1 h2)
   go_enter Tryz.func94, Tryz.ntmps94
   go_wp2_with (go_at_call 140; refine (Tryz.strings_IndexByte _ _ _).mono ?_; rintro e w' ⟨rfl, rfl⟩)
   all_goals
    go_ret
    exact ⟨ret_bool (by first | (rw [Hb.out]; done) | (rw [Hb.out, Bool.eq_iff_iff]; simp; omega) | (rw [Hb.out, Bool.eq_iff_iff]; simp)), rfl⟩
set_option maxHeartbeats 400000 in
theorem implTextValid (s : ByteArray) (hs : s.size ≤ maxLen) (w : World) :
  Calls Tryz.prog 165 #[.string s] w fun e w' => e = .returned (.bool (tv s.data.toList)) ∧ w = w' := by
 unfold maxLen at hs
 have hsz : s.data.toList.length = s.size := by simp
 by_cases h1 : s.size < 1
 ·have Hb := Lib.hid (tv_short (l := s.data.toList) (by omega))
  clear hsz
  go_enter Tryz.func165, Tryz.ntmps165
  go_wp2
  go_ret
  exact ⟨ret_bool Hb.out.symm, rfl⟩
 ·by_cases h2 : 12 < s.size
  ·have Hb := Lib.hid (tv_long (l := s.data.toList) (by omega))
   clear hsz
   go_enter Tryz.func165, Tryz.ntmps165
   go_wp2
   go_ret
   exact ⟨ret_bool Hb.out.symm, rfl⟩
  ·have Hb := Lib.hid (tv_of (l := s.data.toList) (by omega) (by omega))
   clear hsz
   go_enter Tryz.func165, Tryz.ntmps165
   go_wp2
   go_loop [14] (fun i => ∃ k : Nat, k ≤ s.size ∧ i = .int .i64 k ∧ (s.data.toList.take k).all tb = true) (fun i => s.size - (intOf i).toNat)
   case atStart => exact ⟨0, Nat.zero_le _, rfl, rfl⟩
   case round =>
    obtain ⟨k, hk, rfl, hal⟩ := hrel
    have Hal := Lib.hid hal
    clear hal
    by_cases hlt : k < s.size
    ·cases hc : tb s[k] with
     | true =>
       have Hc := Lib.hid hc
       clear hc
       go_wp2_with (go_at_call 94; refine (isTextByte _ _).mono ?_; rw [Hc.out]; rintro e w' ⟨rfl, rfl⟩)
       go_round
       case rel => exact ⟨k + 1, by omega, by go_num, by rw [take_all_snoc s k hlt, Hal.out, Hc.out]; rfl⟩
       case measure => simp [intOf]; omega
     | false =>
       have Hc := Lib.hid hc
       clear hc
       go_wp2_with (go_at_call 94; refine (isTextByte _ _).mono ?_; rw [Hc.out]; rintro e w' ⟨rfl, rfl⟩)
       go_ret
       exact ⟨ret_bool (by rw [Hb.out, all_stop s k hlt tb Hc.out]), rfl⟩
    ·go_wp2
     go_ret
     exact ⟨ret_bool (by rw [Hb.out, ← Hal.out, List.take_of_length_le (by simp; omega)]), rfl⟩
theorem specTextValid (s : ByteArray) (hs : s.size ≤ maxLen) (w : World) :
  Calls Tryz.prog 156 #[.string s] w fun e w' => e = .returned (.bool (tv s.data.toList)) ∧ w = w' := by
 unfold maxLen at hs
 have hsz : s.data.toList.length = s.size := by simp
 by_cases h1 : s.size < 1
 ·have Hb := Lib.hid (tv_short (l := s.data.toList) (by omega))
  clear hsz
  go_enter Tryz.func156, Tryz.ntmps156
  go_wp2
  go_ret
  exact ⟨ret_bool Hb.out.symm, rfl⟩
 ·by_cases h2 : 12 < s.size
  ·have Hb := Lib.hid (tv_long (l := s.data.toList) (by omega))
   clear hsz
   go_enter Tryz.func156, Tryz.ntmps156
   go_wp2
   go_ret
   exact ⟨ret_bool Hb.out.symm, rfl⟩
  ·have Hb := Lib.hid (tv_of (l := s.data.toList) (by omega) (by omega))
   clear hsz
   go_enter Tryz.func156, Tryz.ntmps156
   go_wp2
   go_loop [3] (fun i => ∃ k : Nat, k ≤ s.size ∧ i = .int .i64 k ∧ (s.data.toList.take k).all tb = true) (fun i => s.size - (intOf i).toNat)
   case atStart => exact ⟨0, Nat.zero_le _, rfl, rfl⟩
   case round =>
    obtain ⟨k, hk, rfl, hal⟩ := hrel
    have Hal := Lib.hid hal
    clear hal
    by_cases hlt : k < s.size
    ·rcases byte_ways (s[k].toNat : Int) with ⟨hy1, hy2⟩ | ⟨hy1, hy2⟩ | hy | hy | hy | hy | hy | hy | hy | hy | hy | ⟨hy, hn⟩
     ·have Hc := Lib.hid (tb_yes s[k] (by omega))
      obtain ⟨e0, e1, e2, e3, e4, e5, e6, e7, e8⟩ := signs_no (s[k].toNat : Int) (by omega)
      have d1 : decide (97 ≤ (s[k].toNat : Int)) = true := by simpa using hy1
      have d2 : decide ((s[k].toNat : Int) ≤ 122) = true := by simpa using hy2
      go_wp2
      go_round
      case rel => exact ⟨k + 1, by omega, by go_num, by rw [take_all_snoc s k hlt, Hal.out, Hc.out]; rfl⟩
      case measure => simp [intOf]; omega
     ·have Hc := Lib.hid (tb_yes s[k] (by omega))
      obtain ⟨e0, e1, e2, e3, e4, e5, e6, e7, e8⟩ := signs_no (s[k].toNat : Int) (by omega)
      have d1 : decide (97 ≤ (s[k].toNat : Int)) = false := by simp; omega
      have d3 : decide (48 ≤ (s[k].toNat : Int)) = true := by simpa using hy1
      have d4 : decide ((s[k].toNat : Int) ≤ 57) = true := by simpa using hy2
      go_wp2
      go_round
      case rel => exact ⟨k + 1, by omega, by go_num, by rw [take_all_snoc s k hlt, Hal.out, Hc.out]; rfl⟩
      case measure => simp [intOf]; omega
     iterate 9
      ·have Hc := Lib.hid (tb_yes s[k] (by omega))
       go_wp2
       go_round
       case rel => exact ⟨k + 1, by omega, by go_num, by rw [take_all_snoc s k hlt, Hal.out, Hc.out]; rfl⟩
       case measure => simp [intOf]; omega
     ·have Hc := Lib.hid (tb_no s[k] (by omega) (by omega) hn)
      obtain ⟨e0, e1, e2, e3, e4, e5, e6, e7, e8⟩ := signs_no (s[k].toNat : Int) hn
      clear hn
      rcases hy with hy | ⟨hy, hy2⟩ | hy
      ·have d1 : decide (97 ≤ (s[k].toNat : Int)) = false := by simp; omega
       have d3 : decide (48 ≤ (s[k].toNat : Int)) = false := by simp; omega
       go_wp2
       go_ret
       exact ⟨ret_bool (by rw [Hb.out, all_stop s k hlt tb Hc.out]), rfl⟩
      ·have d1 : decide (97 ≤ (s[k].toNat : Int)) = false := by simp; omega
       have d3 : decide (48 ≤ (s[k].toNat : Int)) = true := by simp; omega
       have d4 : decide ((s[k].toNat : Int) ≤ 57) = false := by simp; omega
       go_wp2
       go_ret
       exact ⟨ret_bool (by rw [Hb.out, all_stop s k hlt tb Hc.out]), rfl⟩
      ·have d1 : decide (97 ≤ (s[k].toNat : Int)) = true := by simp; omega
       have d2 : decide ((s[k].toNat : Int) ≤ 122) = false := by simp; omega
       have d3 : decide (48 ≤ (s[k].toNat : Int)) = true := by simp; omega
       have d4 : decide ((s[k].toNat : Int) ≤ 57) = false := by simp; omega
       go_wp2
       go_ret
       exact ⟨ret_bool (by rw [Hb.out, all_stop s k hlt tb Hc.out]), rfl⟩
    ·go_wp2
     go_ret
     exact ⟨ret_bool (by rw [Hb.out, ← Hal.out, List.take_of_length_le (by simp; omega)]), rfl⟩
end Go.Proofs.YtjcaiecapapceaaGreat.TextV
