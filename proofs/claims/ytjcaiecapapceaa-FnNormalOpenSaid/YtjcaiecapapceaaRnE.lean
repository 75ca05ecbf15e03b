import Derived.Test.YtjcaiecapapceaaRnM
/-
 endLine of the program.
-/
set_option linter.unusedVariables false
set_option linter.unusedSimpArgs false
namespace Go.Proofs.Ytjcaiecapapceaa.RnM
theorem zpgRnE {α : Type} : (∀ (l : List α) (i : Nat) (h : i < l.toArray.size), l.toArray[i]'h = l[i]'(by simpa using h)) ∧ (∀ (x : α) (l : List α) (h : 0 < (x :: l).length), (x :: l)[0]'h = x) ∧ (∀ (x : α) (l : List α) (i : Nat) (h : i + 1 < (x :: l).length), (x :: l)[i + 1]'h = l[i]'(by simpa using h)) := ⟨fun _ _ _ => rfl, fun _ _ _ => rfl, fun _ _ _ _ => rfl⟩
open Go.RowKit Go.Shelf P1 Cnt CntC Flat Wid ChP Rn Bwd BufQ
open LayN (cells2 cells2_len cells2_one)
open LayC (cells2_app)
end Go.Proofs.Ytjcaiecapapceaa.RnM
namespace Go.Proofs.Ytjcaiecapapceaa.RnM
open Go.RowKit Go.Shelf P1 Cnt CntC Flat Wid ChP Rn Bwd BufQ
end Go.Proofs.Ytjcaiecapapceaa.RnM
namespace Go.Proofs.Ytjcaiecapapceaa.RnM
open Go.RowKit Go.Shelf P1 Cnt CntC Flat Wid ChP Rn Bwd BufQ
end Go.Proofs.Ytjcaiecapapceaa.RnM
namespace Go.Proofs.Ytjcaiecapapceaa.RnM
open Go.RowKit Go.Shelf P1 Cnt CntC Flat Wid ChP Rn Rf Bwd BufQ
attribute [local go_sem] Oper.semAt_some
end Go.Proofs.Ytjcaiecapapceaa.RnM
namespace Go.Proofs.Ytjcaiecapapceaa.RnM
open Go.RowKit Go.Shelf P1 Cnt CntC Flat Wid ChP Rn Rf Bwd BufQ
attribute [local go_sem] Oper.semAt_some
end Go.Proofs.Ytjcaiecapapceaa.RnM
namespace Go.Proofs.Ytjcaiecapapceaa.RnM
open Go.RowKit Go.Shelf P1 Cnt CntC Flat Wid ChP Rn Rf Bwd BufQ
section
variable {w0 w w' : World} {B b : Nat} {W : Int} {its : List Itm} {s : St} {F : Fs}
end
end Go.Proofs.Ytjcaiecapapceaa.RnM
