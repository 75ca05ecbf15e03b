import Derived.Test.YtclifbjnooilmaaGreatPl
import Derived.Test.YtclifbjnooilmaaGreatChecked
import Derived.ProofKit
/-
 The program's kidList as a key of a map, alone and in pairs.
-/
set_option linter.unusedVariables false
set_option linter.unusedSimpArgs false
set_option maxRecDepth 100000
namespace Go.Proofs.YtclifbjnooilmaaGreat.KeysAt
open Go.RowKit
theorem at_kidList : ∃ f0 f1 i j0 j1, ListKey Tryz.prog 200 25 f0 f1 i j0 j1 := by
 obtain ⟨i, hi⟩ : ∃ i, Tryz.prog.info? 25 = some i := ⟨_, rfl⟩
 obtain ⟨j, hj⟩ : ∃ i, Tryz.prog.info? 200 = some i := ⟨_, rfl⟩
 have hc : Tryz.prog.cellsOf 25 = 4 := by kernel_rfl
 have hd : Tryz.prog.cellsOf 200 = 2 := by kernel_rfl
 unfold Program.cellsOf at hc hd
 rw [hi] at hc
 rw [hj] at hd
 exact ⟨_, _, i, j, j, Tryz.underlying200, by decide, by decide, rfl, rfl, Tryz.underlying198, Tryz.underlying3, hi, by simp at hc; omega, by kernel_rfl, hj, by simpa using hd⟩
theorem kidList_ok : KeyOK Tryz.prog 200 lkV (fun w a => Plain w a.1) := by
 obtain ⟨f0, f1, i, j0, j1, h⟩ := at_kidList
 exact listKey_ok h
end Go.Proofs.YtclifbjnooilmaaGreat.KeysAt
