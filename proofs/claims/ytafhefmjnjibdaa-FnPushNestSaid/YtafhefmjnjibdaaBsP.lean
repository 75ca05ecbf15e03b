import Derived.Test.YtafhefmjnjibdaaFm
/-
  The extreme layouts of a document: what they are; plain.
-/
set_option linter.unusedVariables false
set_option linter.unusedSimpArgs false
namespace Go.Proofs.Ytafhefmjnjibdaa.It
open Go.RowKit Go.Shelf P1 LayL LayV LayM LayN LayC Cnt CntC Wid ChP Tr ChT ChC Rf
open Ls hiding Lay

theorem best_mem {lines : Bool} {o n : Int} {t : ByteArray} {k : F} (h : toldD o n t k = true) : (bestR lines o n t k).1 ∈ laysD o n t k := by
  have hp := lays_pos h
  unfold bestR
  cases hl : laysD o n t k with
  | nil => rw [hl] at hp; simp at hp
  | cons x ls => exact least_mem _ ls x
theorem best_no {lines : Bool} {o n : Int} {t : ByteArray} {k : F} (h : toldD o n t k = false) : bestR lines o n t k = ([], false) := by
  unfold bestR; rw [lays_no h, h]; rfl
theorem best_le {lines : Bool} {o n : Int} {t : ByteArray} {k : F} : ∀ l ∈ laysD o n t k, szL lines (bestR lines o n t k).1 ≤ szL lines l := by
  intro l hl
  unfold bestR
  revert hl
  cases laysD o n t k with
  | nil => intro h; simp at h
  | cons x ls => intro h; exact least_le _ ls x l h
theorem best_good {lines : Bool} {o n : Int} {t : ByteArray} {k : F} (h : toldD o n t k = true) : lv (bestR lines o n t k).1 = true := lays_good _ (best_mem h)
theorem best_len (lines : Bool) (o n : Int) (t : ByteArray) (k : F) : (bestR lines o n t k).1.length ≤ 1048576 := by
  cases h : toldD o n t k with
  | false => rw [best_no h]; simp
  | true => have := (lv_len (best_good (lines := lines) h)).2; omega

theorem least_first (f : Ls.Lay → Int) (ls : List Ls.Lay) : ∀ x, (∀ l ∈ ls, ¬ f l < f x) → least f (x :: ls) = x := by
  induction ls with
  | nil => intro x _; rfl
  | cons l ls ih =>
    intro x h
    have h1 := h l (by simp)
    have h2 := ih x (fun y hy => h y (by simp [hy]))
    simp only [least, List.foldl_cons] at h2 ⊢
    rw [if_neg h1]
    exact h2
/-- the shortest layout of a group that can be flattened is its flat text -/
theorem best_flat {n : Int} {t : ByteArray} {k : F} (h : toldD 8 n t k = true) (hf : pkD 8 n t k 0 = [(0, Flat.flD 8 t k)]) : (bestR true 8 n t k).1 = [(0, Flat.flD 8 t k)] := by
  have hp := lays_pos h
  have hg := lays_good (o := 8) (n := n) (t := t) (k := k)
  unfold bestR
  have e : ∃ ls, laysD 8 n t k = [(0, Flat.flD 8 t k)] :: ls := by
    have h0 : (laysD 8 n t k)[0] = [(0, Flat.flD 8 t k)] := by
      simp only [lays_yes h, upto, List.getElem_map, List.getElem_range, hf]
    cases hl : laysD 8 n t k with
    | nil => rw [hl] at hp; simp at hp
    | cons x ls =>
      simp only [hl, List.getElem_cons_zero] at h0
      exact ⟨ls, by rw [h0]⟩
  obtain ⟨ls, e⟩ := e
  rw [e] at hg ⊢
  refine least_first _ ls _ fun l hl => ?_
  have := (lv_len (hg l (by simp [hl]))).1
  simp only [szL, if_true, List.length_cons, List.length_nil]
  omega

end Go.Proofs.Ytafhefmjnjibdaa.It

