import Derived.Test.YtjcaiecapapceaaRnE
/-
 l4Put, l4Used and l4Rest of the model.
-/
set_option linter.unusedVariables false
set_option linter.unusedSimpArgs false
namespace Go.Proofs.Ytjcaiecapapceaa.Rq
theorem zpgRcX {α : Type} : (∀ (l : List α) (i : Nat) (h : i < l.toArray.size), l.toArray[i]'h = l[i]'(by simpa using h)) ∧ (∀ (x : α) (l : List α) (h : 0 < (x :: l).length), (x :: l)[0]'h = x) ∧ (∀ (x : α) (l : List α) (i : Nat) (h : i + 1 < (x :: l).length), (x :: l)[i + 1]'h = l[i]'(by simpa using h)) := ⟨fun _ _ _ => rfl, fun _ _ _ => rfl, fun _ _ _ _ => rfl⟩
open Go.RowKit Go.Shelf P1 Cnt CntC Flat Wid ChP Rn Bwd RnM
open LayN (cells2 cells2_len cells2_one)
open LayC (cells2_app)
end Go.Proofs.Ytjcaiecapapceaa.Rq
namespace Go.Proofs.Ytjcaiecapapceaa.Rq
open Go.RowKit Go.Shelf P1 Cnt CntC Flat Wid ChP Rn Bwd RnM
open LayN (cells2 cells2_len cells2_one)
open LayC (cells2_app)
section
variable {w0 w w' : World} {B sb : Nat} {its : List Itm} {s : St} {g cap : Nat} {ag : Option Addr} {cg : Nat} {v6 : Value}
end
end Go.Proofs.Ytjcaiecapapceaa.Rq
namespace Go.Proofs.Ytjcaiecapapceaa.Rq
open Go.RowKit Go.Shelf P1 Cnt CntC Flat Wid ChP Rn Bwd RnM
open LayN (cells2 cells2_len cells2_one)
open LayC (cells2_app)
theorem own_base {w : World} {B C n m : Nat} {T : TypeId} {v : Value} {xs : List Value} (h : w.ownsRow B T n v m xs) (hC : C ≤ B) : w.ownsRow C T n v m xs := by
 obtain ⟨h1, h2⟩ := h
 refine ⟨h1, ?_⟩
 rcases h2 with h2 | ⟨g, cap, cur, e, hB, rest⟩
 ·exact .inl h2
 ·exact .inr ⟨g, cap, cur, e, by omega, rest⟩
end Go.Proofs.Ytjcaiecapapceaa.Rq
