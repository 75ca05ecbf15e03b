import Derived.Test.YtjcaiecapapceaaFl
import Derived.Lib.FrozenHead2
/-
 What the methods of strings.Builder do at a builder that is a field of a renderer, by the bytes that it holds.
-/
set_option linter.unusedVariables false
set_option linter.unusedSimpArgs false
namespace Go.Proofs.Ytjcaiecapapceaa.BufQ
open Go.RowKit Go.Shelf P1
structure Fs where
 a : Value
 r : Value
 l : Value
 i : Value
 g : Value
def cs (F : Fs) (p v : Value) : Array Value := #[F.a, F.l, F.i, p, v, F.r, F.g]
end Go.Proofs.Ytjcaiecapapceaa.BufQ
namespace Go.Proofs.Ytjcaiecapapceaa.FlatQ
open Go.RowKit P1 Cnt CntC Flat BufQ
open BufB (heap_new)
open FlatI (text_len)
end Go.Proofs.Ytjcaiecapapceaa.FlatQ
