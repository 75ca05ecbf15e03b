import Derived.Test.YtgkbagcgbfgllaaPl
import Derived.Test.YtgkbagcgbfgllaaLyA
import Derived.Deep.QuietTactic
import Derived.BigQuiet
/-
  What LayoutWidth and Overflow of the program and of the model come to.
-/
set_option linter.unusedVariables false
set_option linter.unusedSimpArgs false
namespace Go.Proofs.Ytgkbagcgbfgllaa.LayW
open Go.RowKit P1 TextV LayV

theorem ret_int {k : IntKind} {a b : Int} (h : a = b) : Ending.returned (.int k a) = .returned (.int k b) := by rw [h]
theorem ret_str {a b : ByteArray} (h : a = b) : Ending.returned (.string a) = .returned (.string b) := by rw [h]
theorem bytes_none {t : ByteArray} (h : t.size = 0) : t = ⟨#[]⟩ := by
  apply ByteArray.ext
  apply Array.eq_empty_of_size_eq_zero
  exact h
theorem bytes_some {t : ByteArray} (h : t.size ≠ 0) : (t.toList == ([] : List UInt8)) = false ∧ t.toList.isEmpty = false := by
  have e : t.toList ≠ [] := by
    rw [Lib.toList_data]
    intro e
    have := congrArg List.length e
    simp at this
    exact h (by rw [this]; rfl)
  exact ⟨by simpa using e, by simpa using e⟩

theorem below_drewN' {B : Nat} {a w : World} (h : Below B a w) (n : Nat) : Below B a (w.drewN n) := by
  induction n with
  | zero => exact h
  | succ n ih => exact ih.drew

set_option maxRecDepth 100000 in
set_option maxHeartbeats 800000 in
theorem l2Spaces (n : Int) (h0 : 0 ≤ n) (h1 : n ≤ 100000) (w : World) :
    Calls Try.prog 119 #[.int .i64 n] w fun e w' => e = .returned (.string (sp n.toNat)) ∧ w = w' := by
  obtain ⟨m, rfl⟩ := Int.eq_ofNat_of_zero_le h0
  clear h0
  go_enter Try.func119, Try.ntmps119
  go_wp2_with fail
  go_loop [3, 4] (fun s i => ∃ (k : Nat) (u : ByteArray), k ≤ m ∧ i = .int .i64 k ∧ s = .string u ∧ Hid (u = sp k)) (fun _ i => m - (intOf i).toNat)
  case atStart => exact ⟨0, ⟨#[]⟩, by omega, rfl, rfl, Lib.hid rfl⟩
  case round =>
    obtain ⟨k, u, hk, rfl, rfl, HU⟩ := hrel
    have hus : u.size ≤ 100000 := by have e := HU.out; rw [e, sp_size]; omega
    by_cases hkm : k < m
    · go_wp2_with fail
      go_round
      case rel => exact ⟨k + 1, _, by omega, by go_num, rfl, Lib.hid (by rw [HU.out, ← sp_succ])⟩
      case measure => simp [intOf]; omega
    · obtain rfl : k = m := by omega
      go_wp2_with fail
      go_ret
      exact ⟨by rw [HU.out]; simp, rfl⟩

set_option maxRecDepth 100000 in
set_option maxHeartbeats 800000 in
theorem l2Line (n : Int) (t : ByteArray) (h0 : 0 ≤ n) (h1 : n ≤ 100000) (ht : t.size ≤ 100000) (w : World) :
    Calls Try.prog 97 #[.agg #[.int .i64 n, .string t]] w fun e w' => e = .returned (.string (ln n t)) ∧ Below w.heap.size w w' := by
  have B1 : ∀ ob, Below w.heap.size w (w.alloc ob) := fun ob => (Below.refl _ _).alloc (Nat.le_refl _) _
  by_cases hz : t.size = 0
  · have HL := Lib.hid (ln_no (n := n) hz)
    have e := bytes_none hz
    subst e
    clear hz
    go_enter Try.func97, Try.ntmps97
    go_wp2_with fail
    go_ret
    exact ⟨ret_str HL.out.symm, B1 _⟩
  · have HL := Lib.hid (ln_yes (n := n) hz)
    obtain ⟨e1, e2⟩ := bytes_some hz
    obtain ⟨s, hs⟩ : ∃ s, sp n.toNat = s := ⟨_, rfl⟩
    have hss : s.size ≤ 100000 := by rw [← hs, sp_size]; omega
    have hsp := fun W => l2Spaces n h0 h1 W
    rw [hs] at hsp
    have HSP := Lib.hid hsp
    have HS := Lib.hid hs
    have hsum : ¬ (9223372036854775807 < s.size + t.size) := by omega
    clear hz hsp hs
    go_enter Try.func97, Try.ntmps97
    go_wp2_with fail
    go_quiet ((go_at_call 119; exact Calls.quiet_of_same ((HSP.out _).mono (fun _ _ q => ⟨q.1, q.2.symm⟩))))
    go_wp2_with fail
    go_ret
    exact ⟨ret_str (by rw [HL.out, HS.out]), below_drewN' (B1 _) _⟩

end Go.Proofs.Ytgkbagcgbfgllaa.LayW

