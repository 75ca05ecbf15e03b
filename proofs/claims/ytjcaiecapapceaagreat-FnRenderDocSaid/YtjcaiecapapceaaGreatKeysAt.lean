import Derived.Test.YtjcaiecapapceaaGreatPl
import Derived.Test.YtjcaiecapapceaaGreatChecked
import Derived.ProofKit
/-
 The program's kidList as a key of a map, alone and in pairs.
-/
set_option linter.unusedVariables false
set_option linter.unusedSimpArgs false
set_option maxRecDepth 100000
namespace Go.Proofs.YtjcaiecapapceaaGreat.KeysAt
open Go.RowKit
theorem at_kidList : ∃ f0 f1 i j0 j1, ListKey Tryz.prog 88 25 f0 f1 i j0 j1 := by
 obtain ⟨i, hi⟩ : ∃ i, Tryz.prog.info? 25 = some i := ⟨_, rfl⟩
 obtain ⟨j, hj⟩ : ∃ i, Tryz.prog.info? 88 = some i := ⟨_, rfl⟩
 have hc : Tryz.prog.cellsOf 25 = 4 := by kernel_rfl
 have hd : Tryz.prog.cellsOf 88 = 2 := by kernel_rfl
 unfold Program.cellsOf at hc hd
 rw [hi] at hc
 rw [hj] at hd
 exact ⟨_, _, i, j, j, Tryz.underlying88, by decide, by decide, rfl, rfl, Tryz.underlying86, Tryz.underlying3, hi, by simp at hc; omega, by kernel_rfl, hj, by simpa using hd⟩
theorem kidList_ok : KeyOK Tryz.prog 88 lkV (fun w a => Plain w a.1) := by
 obtain ⟨f0, f1, i, j0, j1, h⟩ := at_kidList
 exact listKey_ok h
end Go.Proofs.YtjcaiecapapceaaGreat.KeysAt
