import Derived.Test.YtclifbjnooilmaaGreatBeX
/-
 The best layout of a group that fits in one line.
-/
set_option linter.unusedVariables false
set_option linter.unusedSimpArgs false
namespace Go.Proofs.YtclifbjnooilmaaGreat.Be
theorem zpgBeF {α : Type} : (∀ (l : List α) (i : Nat) (h : i < l.toArray.size), l.toArray[i]'h = l[i]'(by simpa using h)) ∧ (∀ (x : α) (l : List α) (h : 0 < (x :: l).length), (x :: l)[0]'h = x) ∧ (∀ (x : α) (l : List α) (i : Nat) (h : i + 1 < (x :: l).length), (x :: l)[i + 1]'h = l[i]'(by simpa using h)) := ⟨fun _ _ _ => rfl, fun _ _ _ => rfl, fun _ _ _ _ => rfl⟩
open Go.RowKit P1 Cnt ChP It Cst CntC
open Ls hiding Lay
theorem be_ok (x o n : Int) (t : ByteArray) (k : F) : (beR x o n t k).1 = [] ∨ lv (beR x o n t k).1 = true := by
 cases h : (beR x o n t k).2 with
 | true => exact .inr (be_lv h).1
 | false =>
   refine .inl ?_
   cases hw : wv x with
   | false => rw [be_no hw]
   | true =>
     rw [be_yes hw] at h
     rw [be_none h]
section
variable {w : World} {n : Int} {t : ByteArray} {k : F} {a : Option Addr} {cap : Nat} {fs : List Nat}
theorem implBest (h : DocK.Doc0 w n t k a cap fs) (o x : Int) : Calls Tryz.prog 12 #[.agg #[.int .i64 o, .int .i64 n, .string t, .slice a k.len cap], .int .i64 x] w (DocO.Out w (beR x o n t k).1 (beR x o n t k).2) :=
 (implBestLayout x w o n t k a cap fs h.sub h.ok h.cap_le (by have := h.size; omega) h.fits h.tfit).mono fun _ _ g => DocO.Out.of g (be_ok x o n t k)
theorem specBest (h : DocK.Doc0 w n t k a cap fs) (o x : Int) : Calls Tryz.prog 13 #[.agg #[.int .i64 o, .int .i64 n, .string t, .slice a k.len cap], .int .i64 x] w (DocO.Out w (beR x o n t k).1 (beR x o n t k).2) :=
 (specBestLayout x w o n t k a cap fs h.sub (fun c hc => (h.ok c hc).1) h.cap_le (by have := h.size; omega) h.fits h.tfit).mono fun _ _ g => DocO.Out.of g (be_ok x o n t k)
end
end Go.Proofs.YtclifbjnooilmaaGreat.Be
