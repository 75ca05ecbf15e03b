import Derived.Test.YtjcaiecapapceaaPl
import Derived.Test.YtjcaiecapapceaaChecked
import Derived.ProofKit
import Derived.Outline
import Derived.Laws.IdiomStrings
/-
 The program's kidList as a key of a map, alone and in pairs.
-/
set_option linter.unusedVariables false
set_option linter.unusedSimpArgs false
set_option maxRecDepth 100000
namespace Go.Proofs.Ytjcaiecapapceaa.KeysAt
open Go.RowKit
theorem at_kidList : ∃ f0 f1 i j0 j1, ListKey Try.prog 77 25 f0 f1 i j0 j1 := by
 obtain ⟨i, hi⟩ : ∃ i, Try.prog.info? 25 = some i := ⟨_, rfl⟩
 obtain ⟨j, hj⟩ : ∃ i, Try.prog.info? 77 = some i := ⟨_, rfl⟩
 have hc : Try.prog.cellsOf 25 = 4 := by kernel_rfl
 have hd : Try.prog.cellsOf 77 = 2 := by kernel_rfl
 unfold Program.cellsOf at hc hd
 rw [hi] at hc
 rw [hj] at hd
 exact ⟨_, _, i, j, j, Try.underlying77, by decide, by decide, rfl, rfl, Try.underlying75, Try.underlying3, hi, by simp at hc; omega, by kernel_rfl, hj, by simpa using hd⟩
theorem kidList_ok : KeyOK Try.prog 77 lkV (fun w a => Plain w a.1) := by
 obtain ⟨f0, f1, i, j0, j1, h⟩ := at_kidList
 exact listKey_ok h
end Go.Proofs.Ytjcaiecapapceaa.KeysAt
namespace Go.Proofs.Ytjcaiecapapceaa.MarkT
open Go.RowKit P1
end Go.Proofs.Ytjcaiecapapceaa.MarkT
