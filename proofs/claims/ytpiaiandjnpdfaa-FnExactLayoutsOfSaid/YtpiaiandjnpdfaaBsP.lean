import Derived.Test.YtpiaiandjnpdfaaFm
/-
  The extreme layouts of a document: what they are; plain.
-/
set_option linter.unusedVariables false
set_option linter.unusedSimpArgs false
namespace Go.Proofs.Ytpiaiandjnpdfaa.It
open Go.RowKit Go.Shelf P1 LayL LayV LayM LayN LayC Cnt CntC Wid ChP Tr ChT ChC Rf
open Ls hiding Lay

theorem best_mem {lines : Bool} {o n : Int} {t : ByteArray} {k : F} (h : toldD o n t k = true) : (bestR lines o n t k).1 ∈ laysD o n t k := by
  have hp := lays_pos h
  unfold bestR
  cases hl : laysD o n t k with
  | nil => rw [hl] at hp; simp at hp
  | cons x ls => exact least_mem _ ls x
theorem best_no {lines : Bool} {o n : Int} {t : ByteArray} {k : F} (h : toldD o n t k = false) : bestR lines o n t k = ([], false) := by
  unfold bestR; rw [lays_no h, h]; rfl
theorem best_le {lines : Bool} {o n : Int} {t : ByteArray} {k : F} : ∀ l ∈ laysD o n t k, szL lines (bestR lines o n t k).1 ≤ szL lines l := by
  intro l hl
  unfold bestR
  revert hl
  cases laysD o n t k with
  | nil => intro h; simp at h
  | cons x ls => intro h; exact least_le _ ls x l h
theorem best_good {lines : Bool} {o n : Int} {t : ByteArray} {k : F} (h : toldD o n t k = true) : lv (bestR lines o n t k).1 = true := lays_good _ (best_mem h)
theorem best_len (lines : Bool) (o n : Int) (t : ByteArray) (k : F) : (bestR lines o n t k).1.length ≤ 1048576 := by
  cases h : toldD o n t k with
  | false => rw [best_no h]; simp
  | true => have := (lv_len (best_good (lines := lines) h)).2; omega

end Go.Proofs.Ytpiaiandjnpdfaa.It

