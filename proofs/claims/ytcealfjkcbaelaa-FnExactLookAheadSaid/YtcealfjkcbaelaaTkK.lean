import Derived.Test.YtcealfjkcbaelaaTkP
import Derived.Test.YtcealfjkcbaelaaPl
/-
  A list of tokens that a helper of the law has copied, as a walk carries it.
-/
set_option linter.unusedVariables false
set_option linter.unusedSimpArgs false
namespace Go.Proofs.Ytcealfjkcbaelaa.Tk
open Go.RowKit P1

/-- a layout that a walk carries: where it lies, and among which blocks -/
structure Lies (w : World) (a : Option Addr) (l : List (Int × Int × ByteArray)) (fs : List Nat) (lo hi : Nat) : Prop where
  sub : TkSub w a l fs
  fresh : Fresh lo w fs
  lt : ∀ c ∈ fs, c < hi
theorem Lies.new {w : World} {a : Option Addr} {l : List (Int × Int × ByteArray)} {fs : List Nat} {lo : Nat} (h : TkSub w a l fs) (f : Fresh lo w fs) : Lies w a l fs lo w.heap.size := ⟨h, f, f.lt⟩
theorem Lies.below {w w' : World} {a : Option Addr} {l : List (Int × Int × ByteArray)} {fs : List Nat} {lo hi : Nat} (h : Lies w a l fs lo hi) (k : Below w.heap.size w w') : Lies w' a l fs lo hi :=
  ⟨h.sub.below h.sub.lt k, h.fresh.below h.fresh.lt k, h.lt⟩
theorem Lies.only {gs : List Nat} {w w' : World} {a a' : Option Addr} {l l' : List (Int × Int × ByteArray)} {fs : List Nat} {lo hi lo' hi' : Nat} (h : Lies w a l fs lo hi) (k : Only gs w w') (g : Lies w a' l' gs lo' hi') (hh : hi ≤ lo' ∨ hi' ≤ lo) : Lies w' a l fs lo hi :=
  ⟨h.sub.only k (fun c hc hg => by have h1 := h.lt c hc; have h2 := (h.fresh.2 c hc).1; have h3 := g.lt c hg; have h4 := (g.fresh.2 c hg).1; omega), k.fresh h.fresh, h.lt⟩
end Go.Proofs.Ytcealfjkcbaelaa.Tk

