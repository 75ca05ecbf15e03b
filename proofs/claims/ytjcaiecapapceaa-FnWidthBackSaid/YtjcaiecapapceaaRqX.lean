import Derived.Test.YtjcaiecapapceaaNfNx
/-
 The changes of a normal form keep what a document is rendered to in each width; nothing here speaks of the program.
-/
set_option linter.unusedVariables false
set_option linter.unusedSimpArgs false
namespace Go.Proofs.Ytjcaiecapapceaa.Rq
open Go.RowKit P1 Cnt CntC Flat Wid ChP Rn Nf
def zz (s : St) : St := { s with flags := [] }
def rnO (W : Int) (d : D) (i : Int) (B : Nat) (s : St) : St := rnD W d.1 d.2.1 d.2.2.1 d.2.2.2 i B s
def ldO (d : D) : Nat := nD d.1 d.2.2.1 d.2.2.2
def enO (d : D) : Bool := Wid.eD d.1 d.2.2.2
structure Rq (i : Nat) (d d' : D) : Prop where
 no : noO d' = noO d
 fd : flO d' = flO d
 ld : ldO d' = ldO d
 en : enO d' = enO d
 rn : ∀ (W j : Int) (B : Nat) (s : St), zz (rnO W d' j B s) = zz (rnO W d (j + (i : Int)) B s)
end Go.Proofs.Ytjcaiecapapceaa.Rq
namespace Go.Proofs.Ytjcaiecapapceaa.Rq
open Go.RowKit P1 Rn Nf
end Go.Proofs.Ytjcaiecapapceaa.Rq
namespace Go.Proofs.Ytjcaiecapapceaa.Rq
open Go.RowKit P1 Rn Nf CntC
end Go.Proofs.Ytjcaiecapapceaa.Rq
