import Derived.Test.YtjcaiecapapceaaDocC
import Derived.Laws.Cover3
/-
 The program's iterator over the layouts of a document's choices.
-/
set_option linter.unusedVariables false
set_option linter.unusedSimpArgs false
namespace Go.Proofs.Ytjcaiecapapceaa.It
open Go.RowKit P1 LayL LayV LayM LayN LayC Cnt CntC Wid ChP Tr ChT ChC Rf
attribute [local go_sem] Oper.semAt_some
end Go.Proofs.Ytjcaiecapapceaa.It
namespace Go.Proofs.Ytjcaiecapapceaa.It
open Go.RowKit Go.Shelf P1 LayL LayV LayM LayN LayC Cnt CntC Wid ChP Tr ChT ChC Rf
attribute [local go_sem] Oper.semAt_some
section
variable (w : World) (o n : Int) (t : ByteArray) (k : F) (a : Option Addr) (cap : Nat) (fs : List Nat)
end
end Go.Proofs.Ytjcaiecapapceaa.It
namespace Go.Proofs.Ytjcaiecapapceaa.It
open Go.RowKit P1 LayL LayV LayM LayN Ls
end Go.Proofs.Ytjcaiecapapceaa.It
namespace Go.Proofs.Ytjcaiecapapceaa.It
open Go.RowKit Go.Shelf P1 LayL LayV LayM LayN LayC Cnt CntC Wid ChP Tr ChT ChC Rf
open Ls hiding Lay
section
variable (w : World) (o n : Int) (t : ByteArray) (k : F) (a : Option Addr) (cap : Nat) (fs : List Nat)
end
end Go.Proofs.Ytjcaiecapapceaa.It
namespace Go.Proofs.Ytjcaiecapapceaa.It
open Go.RowKit Go.Shelf P1 LayL LayV LayM LayN LayC Cnt CntC Wid ChP Tr ChT ChC Rf
open Ls hiding Lay
attribute [local go_sem] Oper.semAt_some
section
variable (w : World) (o n : Int) (t : ByteArray) (k : F) (a : Option Addr) (cap : Nat) (fs : List Nat)
end
end Go.Proofs.Ytjcaiecapapceaa.It
namespace Go.Proofs.Ytjcaiecapapceaa.It
open Go.RowKit Go.Shelf P1 LayL LayV LayM LayN LayC Cnt CntC Wid ChP Tr ChT ChC Rf
open Ls hiding Lay
section
variable (w : World) (o n : Int) (t : ByteArray) (k : F) (a : Option Addr) (cap : Nat) (fs : List Nat)
end
end Go.Proofs.Ytjcaiecapapceaa.It
namespace Go.Proofs.Ytjcaiecapapceaa.It
open Go.RowKit Go.Shelf P1 LayL LayV LayM LayN LayC Cnt CntC Wid ChP Tr ChT ChC Rf
open Ls hiding Lay
attribute [local go_sem] Oper.semAt_some
section
variable (w : World) (o n : Int) (t : ByteArray) (k : F) (a : Option Addr) (cap : Nat) (fs : List Nat)
end
end Go.Proofs.Ytjcaiecapapceaa.It
namespace Go.Proofs.Ytjcaiecapapceaa.It
open Go.RowKit Go.Shelf P1 LayL LayV LayM LayN LayC Cnt CntC Wid ChP Tr ChT ChC Rf
open Ls hiding Lay
end Go.Proofs.Ytjcaiecapapceaa.It
namespace Go.Proofs.Ytjcaiecapapceaa.DocL
open Go.RowKit P1 CntC LayN OpenR ChP ChO It
open Ls hiding Lay
theorem LayIs.sameB {w : World} {X X' : List (Int × ByteArray)} {a a' : Option Addr} {c c' : Nat} (h : DocO.LayIs w X a c) (h' : DocO.LayIs w X' a' c') : Calls Try.prog 11 #[.slice a X.length c, .slice a' X'.length c'] w fun e w' => e = .returned (.bool (decide (X = X'))) ∧ Ext w w' := by
 obtain ⟨f, hs⟩ := h.sub
 obtain ⟨f', hs'⟩ := h'.sub
 exact LaySm.implLayoutSame X X' w a c f hs a' c' f' hs' h.cap_le h'.cap_le h.fits.2 h'.fits.2
section
variable {w w' : World} {o n : Int} {t : ByteArray} {k : F} {a : Option Addr} {cap : Nat} {fs : List Nat}
end
end Go.Proofs.Ytjcaiecapapceaa.DocL
