import Derived.Test.YtgcaolofehgbeaaLb
import Derived.Test.YtgcaolofehgbeaaCsA
/-
  The first layout with the least cost, as a plain function; nothing here speaks of the program.
-/
set_option linter.unusedVariables false
set_option linter.unusedSimpArgs false
namespace Go.Proofs.Ytgcaolofehgbeaa.Be
open Go.RowKit P1 Cnt ChP It Cst
open Ls hiding Lay

/-- the cost as one number: a byte that is beyond counts more than all lines -/
def kc (x : Int) (l : Lay) : Int := ov x l * 1000 + (l.length : Int)
theorem cmp_kc {x : Int} {a b : Lay} (ha : lv a = true) (hb : lv b = true) : cmpC (ov x a) (a.length : Int) (ov x b) (b.length : Int) < 0 ↔ kc x a < kc x b := by
  have h1 := (lv_len ha).2
  have h2 := (lv_len hb).2
  unfold cmpC sg kc
  repeat' split
  all_goals omega
theorem cmp_lt {x : Int} {a b : Lay} (ha : lv a = true) (hb : lv b = true) (h : kc x a < kc x b) : cmpC (ov x a) (a.length : Int) (ov x b) (b.length : Int) < 0 := (cmp_kc ha hb).2 h
theorem cmp_ge {x : Int} {a b : Lay} (ha : lv a = true) (hb : lv b = true) (h : ¬ kc x a < kc x b) : ¬ cmpC (ov x a) (a.length : Int) (ov x b) (b.length : Int) < 0 := fun e => h ((cmp_kc ha hb).1 e)
/-- the best layout of a document, and whether there is one -/
def beR (x o n : Int) (t : ByteArray) (k : F) : Lay × Bool := if wv x then (least (kc x) (laysD o n t k), toldD o n t k) else ([], false)
theorem be_no {x o n : Int} {t : ByteArray} {k : F} (h : wv x = false) : beR x o n t k = ([], false) := by simp [beR, h]
theorem be_yes {x o n : Int} {t : ByteArray} {k : F} (h : wv x = true) : beR x o n t k = (least (kc x) (laysD o n t k), toldD o n t k) := by simp [beR, h]
theorem be_none {x o n : Int} {t : ByteArray} {k : F} (h : toldD o n t k = false) : beR x o n t k = ([], false) := by
  unfold beR; rw [lays_no h, h]; split <;> rfl
theorem be_told {x o n : Int} {t : ByteArray} {k : F} (h : toldD o n t k = true) (hw : wv x = true) : beR x o n t k = (least (kc x) (laysD o n t k), true) := by rw [be_yes hw, h]
theorem be_lv {x o n : Int} {t : ByteArray} {k : F} (h : (beR x o n t k).2 = true) : lv (beR x o n t k).1 = true ∧ wv x = true ∧ toldD o n t k = true := by
  cases hw : wv x with
  | false => rw [be_no hw] at h; cases h
  | true =>
    rw [be_yes hw] at h ⊢
    have hp := lays_pos (o := o) (n := n) (t := t) (k := k) h
    refine ⟨?_, rfl, h⟩
    cases hl : laysD o n t k with
    | nil => rw [hl] at hp; simp at hp
    | cons y ys =>
      refine lays_good (o := o) (n := n) (t := t) (k := k) _ ?_
      rw [hl]
      exact least_mem _ _ _
theorem be_len (x o n : Int) (t : ByteArray) (k : F) : (beR x o n t k).1.length ≤ 1048576 := by
  cases h : (beR x o n t k).2 with
  | true => have := (lv_len (be_lv h).1).2; omega
  | false =>
    cases hw : wv x with
    | false => rw [be_no hw]; simp
    | true =>
      rw [be_yes hw] at h
      rw [be_none h]; simp
/-- its cost -/
def bcR (x o n : Int) (t : ByteArray) (k : F) : Int × Int × Bool := if (beR x o n t k).2 then (ov x (beR x o n t k).1, ((beR x o n t k).1.length : Int), true) else (0, 0, false)
theorem bc_no {x o n : Int} {t : ByteArray} {k : F} (h : (beR x o n t k).2 = false) : bcR x o n t k = (0, 0, false) := by simp [bcR, h]
theorem bc_yes {x o n : Int} {t : ByteArray} {k : F} (h : (beR x o n t k).2 = true) : bcR x o n t k = (ov x (beR x o n t k).1, ((beR x o n t k).1.length : Int), true) := by simp [bcR, h]

end Go.Proofs.Ytgcaolofehgbeaa.Be

