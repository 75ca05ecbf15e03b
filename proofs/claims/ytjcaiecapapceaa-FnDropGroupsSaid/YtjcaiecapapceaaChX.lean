import Derived.Test.YtjcaiecapapceaaCpX
import Derived.Test.YtjcaiecapapceaaChS
import Derived.Test.YtjcaiecapapceaaDcK
/-
 How the program's tree of a document's choices lies in memory; nothing here speaks of the program.
-/
set_option linter.unusedVariables false
set_option linter.unusedSimpArgs false
namespace Go.Proofs.Ytjcaiecapapceaa.Tr
open Go.RowKit P1 Wid ChP
def rootV (o n : Int) (t : ByteArray) (k : F) (a : Option Addr) (cap : Nat) (a' : Option Addr) (cap' : Nat) : List Value :=
 [.int .i64 o, .int .i64 n, .string t, .slice a k.len cap, .int .i64 (ctD o k : Int), .bool (!noD o k), .slice a' k.len cap']
def DocIn (D : Nat → Prop) (w : World) (k : F) (a : Option Addr) (cap : Nat) : Prop := k.len ≤ cap ∧ ∃ fs, SubAt w a k fs ∧ ∀ c ∈ fs, D c ∧ c < w.heap.size ∧ ∀ o, w.frozen? ⟨c, o, none⟩ = false
def RootsV (D : Nat → Prop) (w : World) : F → List Value → Prop
 | .nil, xs => xs = []
 | .cons o n t k r, xs => ∃ (a : Option Addr) (cap : Nat) (a' : Option Addr) (cap' : Nat) (ys : List Value), xs = rootV o n t k a cap a' cap' ++ ys ∧ DocIn D w k a cap ∧
   (k = .nil ∨ ∃ (b : Nat) (zs : List Value), a' = some ⟨b, 0, none⟩ ∧ D b ∧ b < w.heap.size ∧ (∀ j u, zs[j]? = some u → w.cell? ⟨b, j, none⟩ = some u) ∧ RootsV D w k zs) ∧ RootsV D w r ys
def zeroV : List Value := [.int .i64 0, .int .i64 0, .string ⟨#[]⟩, .slice none 0 0, .int .i64 0, .bool false, .slice none 0 0]
def Mid (D : Nat → Prop) (w : World) (T : TypeId) (lo g cp : Nat) (p : F) : Prop :=
 lo ≤ g ∧ g < w.heap.size ∧ ∃ xs, w.ownsRow lo T 7 (.slice (some ⟨g, 0, none⟩) (p.len + 1) cp) (p.len + 1) (xs ++ zeroV) ∧ xs.length = p.len * 7 ∧ RootsV (fun c => D c ∧ c ≠ g) w p xs
section
variable {P : Program}
end
end Go.Proofs.Ytjcaiecapapceaa.Tr
namespace Go.Proofs.Ytjcaiecapapceaa.ChT
open Go.RowKit P1 Cnt CntC Wid ChP Tr
structure Two (w' W : World) (g J b : Nat) (vs : List Value) (u : Value) : Prop where
 os : W.os = w'.os
 tape : W.tape = w'.tape
 output : W.output = w'.output
 size : W.heap.size = w'.heap.size
 row : W.heap[g]? = (w'.setCells g J vs).heap[g]?
 cell : W.heap[b]? = (w'.setCell ⟨b, 6, none⟩ u).heap[b]?
 out : ∀ c, c ≠ g → c ≠ b → W.heap[c]? = w'.heap[c]?
end Go.Proofs.Ytjcaiecapapceaa.ChT
namespace Go.Proofs.Ytjcaiecapapceaa.ChT
open Go.RowKit P1 Cnt CntC Wid ChP Tr
end Go.Proofs.Ytjcaiecapapceaa.ChT
namespace Go.Proofs.Ytjcaiecapapceaa.ChC
open Go.RowKit P1 Cnt CntC Wid ChP Tr ChT
section
variable (w : World) (o n : Int) (t : ByteArray) (k : F) (a : Option Addr) (cap : Nat) (fs : List Nat)
end
end Go.Proofs.Ytjcaiecapapceaa.ChC
namespace Go.Proofs.Ytjcaiecapapceaa.ChK
open Go.RowKit P1 LayL LayV LayM LayN LayC Cnt CntC Flat Wid ChP ChS OpenR
end Go.Proofs.Ytjcaiecapapceaa.ChK
namespace Go.Proofs.Ytjcaiecapapceaa.ChL
open Go.RowKit P1 LayL LayV LayM LayN LayC Cnt CntC Flat Wid ChP Tr ChT OpenR
end Go.Proofs.Ytjcaiecapapceaa.ChL
namespace Go.Proofs.Ytjcaiecapapceaa.ChO
open Go.RowKit P1 LayL LayV LayM LayN LayC Cnt CntC Wid ChP Tr ChT ChC
section
variable (w : World) (o n : Int) (t : ByteArray) (k : F) (a : Option Addr) (cap : Nat) (fs : List Nat) (i : Int)
end
end Go.Proofs.Ytjcaiecapapceaa.ChO
