import Derived.Test.YtcealfjkcbaelaaVsI
import Derived.BigQuiet
import Derived.Deep.QuietTactic
/-
  The laws' helper that compares two slices of numbers.
-/
set_option linter.unusedVariables false
set_option linter.unusedSimpArgs false
namespace Go.Proofs.Ytcealfjkcbaelaa.DaI
open Go.RowKit P1 VsI

set_option maxRecDepth 100000 in
set_option maxHeartbeats 1600000 in
theorem daIntsS (bs : List Int) (w : World) (a a' : Option Addr) (cap cap' : Nat) (fs fs' : List Nat) (hs : ISub w a bs fs) (hs' : ISub w a' bs fs') (hc : bs.length ≤ cap) (hc' : bs.length ≤ cap') (hl : bs.length ≤ 1048576) :
    Calls Try.prog 36 #[.slice a bs.length cap, .slice a' bs.length cap'] w fun e w' => e = .returned (.bool true) ∧ Below w.heap.size w w' := by
  have HR := Lib.hid (show ∀ k, (h : k < bs.length) → ∃ b off b' off', a = some ⟨b, off, none⟩ ∧ a' = some ⟨b', off', none⟩ ∧ w.cell? ⟨b, off + k, none⟩ = some (.int .i64 bs[k]) ∧ w.cell? ⟨b', off' + k, none⟩ = some (.int .i64 bs[k]) from fun k h => by
    rcases hs with ⟨h0, _⟩ | ⟨b, off, rfl, _, _, hr⟩
    · rw [List.map_eq_nil_iff] at h0; subst h0; exact absurd h (by simp)
    · rcases hs' with ⟨h0, _⟩ | ⟨b', off', rfl, _, _, hr'⟩
      · rw [List.map_eq_nil_iff] at h0; subst h0; exact absurd h (by simp)
      · have h1 := hr k (by simpa using h)
        have h2 := hr' k (by simpa using h)
        simp only [List.getElem_map] at h1 h2
        exact ⟨b, off, b', off', rfl, rfl, h1, h2⟩)
  obtain ⟨m, hm⟩ : ∃ m, bs.length = m := ⟨_, rfl⟩
  have HM := Lib.hid hm
  rw [hm] at hc hc' hl ⊢
  clear hm hs hs'
  go_enter Try.func36, Try.ntmps36
  go_wp2_with fail
  go_loopw [5] (fun i wr => ∃ (k : Nat), k ≤ m ∧ i = .int .i64 k ∧ ∀ b o, wr.cell? ⟨b, o, none⟩ = w.cell? ⟨b, o, none⟩ ∧ Below w.heap.size w wr) (fun i _ => m - (intOf i).toNat)
  case atStart => exact ⟨0, Nat.zero_le _, rfl, fun _ _ => ⟨rfl, Below.refl _ _⟩⟩
  case round =>
    obtain ⟨k, hk, rfl, hcl⟩ := hrel
    by_cases hkm : k < m
    · obtain ⟨b, off, b', off', rfl, rfl, h1, h2⟩ := HR.out k (by rw [HM.out]; exact hkm)
      rw [← (hcl _ _).1] at h1 h2
      have HCL := Lib.hid hcl
      obtain ⟨x, hx⟩ : ∃ x, bs[k]'(by rw [HM.out]; exact hkm) = x := ⟨_, rfl⟩
      rw [hx] at h1 h2
      have i0 : (0 : Int) ≤ (k : Int) := Int.natCast_nonneg _
      have i1 : (k : Int) < (m : Int) := by omega
      have hxx : (x != x) = false := by simp
      clear hcl hx
      go_wp2_with fail
      go_quiet (fail)
      go_wp2_with fail
      go_roundw
      case rel => exact ⟨k + 1, by omega, by go_num, fun b o => ⟨(HCL.out b o).1, below_drewN (HCL.out b o).2 _⟩⟩
      case measure => simp [intOf]; omega
    · have HCL := Lib.hid hcl
      clear hcl
      go_wp2_with fail
      go_ret
      exact ⟨rfl, (HCL.out 0 0).2⟩

end Go.Proofs.Ytcealfjkcbaelaa.DaI

