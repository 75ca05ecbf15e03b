import Derived.Test.YtmkibpimjaofgaaPl
import Derived.Test.YtmkibpimjaofgaaChecked
import Derived.ProofKit
/-
  The program's kidList as a key of a map, alone and in pairs.
-/
set_option linter.unusedVariables false
set_option linter.unusedSimpArgs false
namespace Go.Proofs.Ytmkibpimjaofgaa.KeysAt
open Go.RowKit

set_option maxRecDepth 100000 in
theorem at_kidList : ∃ f0 f1 i j0 j1, ListKey Try.prog 91 29 f0 f1 i j0 j1 := by
  obtain ⟨i, hi⟩ : ∃ i, Try.prog.info? 29 = some i := ⟨_, rfl⟩
  obtain ⟨j, hj⟩ : ∃ i, Try.prog.info? 91 = some i := ⟨_, rfl⟩
  have hc : Try.prog.cellsOf 29 = 4 := by kernel_rfl
  have hd : Try.prog.cellsOf 91 = 2 := by kernel_rfl
  unfold Program.cellsOf at hc hd
  rw [hi] at hc
  rw [hj] at hd
  exact ⟨_, _, i, j, j, Try.underlying91, by decide, by decide, rfl, rfl, Try.underlying89, Try.underlying3, hi, by simp at hc; omega, by kernel_rfl, hj, by simpa using hd⟩

theorem kidList_ok : KeyOK Try.prog 91 lkV (fun w a => Plain w a.1) := by
  obtain ⟨f0, f1, i, j0, j1, h⟩ := at_kidList
  exact listKey_ok h

theorem pair_ok : KeyOK Try.prog 93 lk2V (fun w a => Plain w a.1.1 ∧ Plain w a.2.1) := by
  obtain ⟨f0, f1, i, j0, j1, h⟩ := at_kidList
  exact pairKey_ok h Try.underlying93

end Go.Proofs.Ytmkibpimjaofgaa.KeysAt

