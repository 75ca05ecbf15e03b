import Derived.Test.YtgcaolofehgbeaaBeQ
import Derived.Test.YtgcaolofehgbeaaBeI
import Derived.Test.YtgcaolofehgbeaaBeS
import Derived.Test.YtgcaolofehgbeaaDcK
import Derived.Test.YtgcaolofehgbeaaDocG
import Derived.Test.YtgcaolofehgbeaaDocC
/-
  The best layout of a group that fits in one line.
-/
set_option linter.unusedVariables false
set_option linter.unusedSimpArgs false
namespace Go.Proofs.Ytgcaolofehgbeaa.Be
open Go.RowKit P1 Cnt ChP It Cst CntC
open Ls hiding Lay

theorem first_least (f : Lay → Int) (ls : List Lay) : ∀ x, (∀ l ∈ ls, ¬ f l < f x) → least f (x :: ls) = x := by
  induction ls with
  | nil => intro x _; rfl
  | cons l ls ih =>
    intro x h
    have e : least f (x :: l :: ls) = least f (x :: ls) := by
      simp only [least, List.foldl_cons]; rw [if_neg (h l (by simp))]
    rw [e]; exact ih x fun y hy => h y (by simp [hy])
theorem kc_pos {x : Int} {l : Lay} (h : lv l = true) : 1 ≤ kc x l := by
  have h1 := (lv_len h).1
  have h2 := (ov_ge x l 0 (Int.le_refl _)).2
  unfold kc
  have : 0 ≤ ov x l := h2
  omega
theorem kc_one {x : Int} {s : ByteArray} (h : (s.size : Int) ≤ x) : kc x [(0, s)] = 1 := by
  have e : ov x [(0, s)] = 0 := by
    show (0 : Int) + max 0 (rowW ((0 : Int), s) - x) = 0
    unfold rowW; simp only; split <;> omega
  unfold kc; rw [e]; rfl
/-- a group that fits is in one line -/
theorem be_flat {x n : Int} {t : ByteArray} {k : F} (h : (beR x 8 n t k).2 = true) (hf : canD 8 n t k = true) (hx : ((Flat.flD 8 t k).size : Int) ≤ x) : (beR x 8 n t k).1 = [(0, Flat.ftD 8 n t k)] := by
  obtain ⟨_, hto, he, _, _⟩ := be_parts h
  have hfirst := DocC.first_flat (told_parts hto).2.2.2 hf
  have hp := lays_pos hto
  have hg := lays_good (o := 8) (n := n) (t := t) (k := k)
  have e : ∃ ls, laysD 8 n t k = [(0, Flat.flD 8 t k)] :: ls := by
    have h0 : (laysD 8 n t k)[0] = [(0, Flat.flD 8 t k)] := by
      simp only [lays_yes hto, upto, List.getElem_map, List.getElem_range, hfirst]
    cases hl : laysD 8 n t k with
    | nil => rw [hl] at hp; simp at hp
    | cons x ls =>
      simp only [hl, List.getElem_cons_zero] at h0
      exact ⟨ls, by rw [h0]⟩
  obtain ⟨ls, e⟩ := e
  rw [he, show Flat.ftD 8 n t k = Flat.flD 8 t k by simp [Flat.ftD, hf]]
  rw [e] at hg ⊢
  refine first_least _ ls _ fun l hl => ?_
  rw [kc_one hx]
  have := kc_pos (x := x) (hg l (by simp [hl]))
  omega
theorem be_ok (x o n : Int) (t : ByteArray) (k : F) : (beR x o n t k).1 = [] ∨ lv (beR x o n t k).1 = true := by
  cases h : (beR x o n t k).2 with
  | true => exact .inr (be_lv h).1
  | false =>
    refine .inl ?_
    cases hw : wv x with
    | false => rw [be_no hw]
    | true =>
      rw [be_yes hw] at h
      rw [be_none h]
section
variable {w : World} {n : Int} {t : ByteArray} {k : F} {a : Option Addr} {cap : Nat} {fs : List Nat}
theorem implBest (h : DocK.Doc0 w n t k a cap fs) (o x : Int) : Calls Try.prog 27 #[.agg #[.int .i64 o, .int .i64 n, .string t, .slice a k.len cap], .int .i64 x] w (DocO.Out w (beR x o n t k).1 (beR x o n t k).2) :=
  (implBestLayout x w o n t k a cap fs h.sub h.ok h.cap_le (by have := h.size; omega) h.fits h.tfit).mono fun _ _ g => DocO.Out.of g (be_ok x o n t k)
theorem specBest (h : DocK.Doc0 w n t k a cap fs) (o x : Int) : Calls Try.prog 28 #[.agg #[.int .i64 o, .int .i64 n, .string t, .slice a k.len cap], .int .i64 x] w (DocO.Out w (beR x o n t k).1 (beR x o n t k).2) :=
  (specBestLayout x w o n t k a cap fs h.sub (fun c hc => (h.ok c hc).1) h.cap_le (by have := h.size; omega) h.fits h.tfit).mono fun _ _ g => DocO.Out.of g (be_ok x o n t k)
end

end Go.Proofs.Ytgcaolofehgbeaa.Be

