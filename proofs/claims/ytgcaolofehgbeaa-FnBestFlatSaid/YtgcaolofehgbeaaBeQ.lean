import Derived.Test.YtgcaolofehgbeaaBeP
import Derived.Test.YtgcaolofehgbeaaLayZP
/-
  What the best layout and its cost are: plain.
-/
set_option linter.unusedVariables false
set_option linter.unusedSimpArgs false
namespace Go.Proofs.Ytgcaolofehgbeaa.Be
open Go.RowKit P1 Cnt ChP It Cst
open Ls hiding Lay

theorem be_parts {x o n : Int} {t : ByteArray} {k : F} (h : (beR x o n t k).2 = true) : wv x = true ∧ toldD o n t k = true ∧ (beR x o n t k).1 = least (kc x) (laysD o n t k) ∧ (beR x o n t k).1 ∈ laysD o n t k ∧ ∀ l ∈ laysD o n t k, kc x (beR x o n t k).1 ≤ kc x l := by
  obtain ⟨_, hw, hto⟩ := be_lv h
  have hp := lays_pos (o := o) (n := n) (t := t) (k := k) hto
  have he : (beR x o n t k).1 = least (kc x) (laysD o n t k) := by rw [be_told hto hw]
  refine ⟨hw, hto, he, ?_, ?_⟩
  · rw [he]
    cases hl : laysD o n t k with
    | nil => rw [hl] at hp; simp at hp
    | cons y ys => exact least_mem _ _ _
  · rw [he]
    cases hl : laysD o n t k with
    | nil => rw [hl] at hp; simp at hp
    | cons y ys => exact least_le _ _ _
theorem kc_le {x y : Int} {a b : Lay} (ha : lv a = true) (hb : lv b = true) (h : kc x a ≤ kc y b) : ov x a ≤ ov y b ∧ cmpC (ov x a) (a.length : Int) (ov y b) (b.length : Int) ≤ 0 := by
  have h1 := (lv_len ha).2
  have h2 := (lv_len hb).2
  unfold kc at h
  refine ⟨by omega, ?_⟩
  unfold cmpC sg
  repeat' split
  all_goals omega
theorem kc_ge {x : Int} {a b : Lay} (ha : lv a = true) (hb : lv b = true) (h : kc x a ≤ kc x b) : ¬ cmpC (ov x b) (b.length : Int) (ov x a) (a.length : Int) < 0 := by
  intro e
  have := (cmp_kc hb ha).1 e
  omega
theorem kc_less (x : Int) (l : Lay) : kc (x + 1) l ≤ kc x l := by
  have := ov_less x l
  unfold kc; omega
/-- in a wider page the best layout costs no more -/
theorem be_wider {x o n : Int} {t : ByteArray} {k : F} (h : (beR x o n t k).2 = true) (h' : (beR (x + 1) o n t k).2 = true) :
    ov (x + 1) (beR (x + 1) o n t k).1 ≤ ov x (beR x o n t k).1 ∧ cmpC (ov (x + 1) (beR (x + 1) o n t k).1) ((beR (x + 1) o n t k).1.length : Int) (ov x (beR x o n t k).1) ((beR x o n t k).1.length : Int) ≤ 0 := by
  obtain ⟨_, _, _, hm, _⟩ := be_parts h
  obtain ⟨_, _, _, _, hle⟩ := be_parts h'
  have h1 := hle _ hm
  have h2 := kc_less x (beR x o n t k).1
  exact kc_le (be_lv h').1 (be_lv h).1 (by omega)
theorem bc_wider {x o n : Int} {t : ByteArray} {k : F} {a b c d : Int} (h : bcR x o n t k = (a, b, true)) (h' : bcR (x + 1) o n t k = (c, d, true)) : c ≤ a ∧ cmpC c d a b ≤ 0 := by
  have e1 : (beR x o n t k).2 = true := by
    cases hb : (beR x o n t k).2 with
    | true => rfl
    | false => rw [bc_no hb] at h; cases h
  have e2 : (beR (x + 1) o n t k).2 = true := by
    cases hb : (beR (x + 1) o n t k).2 with
    | true => rfl
    | false => rw [bc_no hb] at h'; cases h'
  have hw := be_wider e1 e2
  rw [bc_yes e1] at h
  rw [bc_yes e2] at h'
  injection h with h1 h2
  injection h2 with h2 _
  injection h' with h3 h4
  injection h4 with h4 _
  rw [h1, h2, h3, h4] at hw
  exact hw

end Go.Proofs.Ytgcaolofehgbeaa.Be

