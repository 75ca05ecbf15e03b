import Derived.Test.YtcealfjkcbaelaaTkP
import Derived.Test.YtcealfjkcbaelaaPl
/-
  A list of tokens that a helper of the law has copied, as a walk carries it.
-/
set_option linter.unusedVariables false
set_option linter.unusedSimpArgs false
namespace Go.Proofs.Ytcealfjkcbaelaa.Tk
open Go.RowKit P1

/-- a layout that a walk carries: where it lies, and among which blocks -/
structure Lies (w : World) (a : Option Addr) (l : List (Int × Int × ByteArray)) (fs : List Nat) (lo hi : Nat) : Prop where
  sub : TkSub w a l fs
  fresh : Fresh lo w fs
  lt : ∀ c ∈ fs, c < hi
theorem Lies.new {w : World} {a : Option Addr} {l : List (Int × Int × ByteArray)} {fs : List Nat} {lo : Nat} (h : TkSub w a l fs) (f : Fresh lo w fs) : Lies w a l fs lo w.heap.size := ⟨h, f, f.lt⟩
theorem Lies.below {w w' : World} {a : Option Addr} {l : List (Int × Int × ByteArray)} {fs : List Nat} {lo hi : Nat} (h : Lies w a l fs lo hi) (k : Below w.heap.size w w') : Lies w' a l fs lo hi :=
  ⟨h.sub.below h.sub.lt k, h.fresh.below h.fresh.lt k, h.lt⟩
theorem Lies.only {gs : List Nat} {w w' : World} {a a' : Option Addr} {l l' : List (Int × Int × ByteArray)} {fs : List Nat} {lo hi lo' hi' : Nat} (h : Lies w a l fs lo hi) (k : Only gs w w') (g : Lies w a' l' gs lo' hi') (hh : hi ≤ lo' ∨ hi' ≤ lo) : Lies w' a l fs lo hi :=
  ⟨h.sub.only k (fun c hc hg => by have h1 := h.lt c hc; have h2 := (h.fresh.2 c hc).1; have h3 := g.lt c hg; have h4 := (g.fresh.2 c hg).1; omega), k.fresh h.fresh, h.lt⟩
/-- .. written anew -/
theorem Lies.mark {w w' : World} {a : Option Addr} {l l' : List (Int × Int × ByteArray)} {fs : List Nat} {lo hi : Nat} (h : Lies w a l fs lo hi) (k : Only fs w w') (hs : TkSub w' a l' fs) : Lies w' a l' fs lo hi := ⟨hs, k.fresh h.fresh, h.lt⟩
theorem Lies.ext {w a b : World} {ad : Option Addr} {l : List (Int × Int × ByteArray)} {fs : List Nat} {lo hi : Nat} (h : Lies a ad l fs lo hi) (e : Ext w a) (k : Only fs a b) (hl : w.heap.size ≤ lo) : Ext w b := e.only k (fun c hc => Nat.le_trans hl (h.fresh.2 c hc).1)

theorem Lies.past {gs : List Nat} {w w' : World} {a : Option Addr} {l : List (Int × Int × ByteArray)} {fs : List Nat} {lo hi lo' hi' : Nat} (h : Lies w a l fs lo hi) (k : Only gs w w') (g : In lo' hi' gs) (hh : hi ≤ lo' ∨ hi' ≤ lo) : Lies w' a l fs lo hi :=
  ⟨h.sub.only k (fun c hc hg => by have h1 := h.lt c hc; have h2 := (h.fresh.2 c hc).1; have h3 := g c hg; omega), k.fresh h.fresh, h.lt⟩
theorem Lies.inn {w : World} {a : Option Addr} {l : List (Int × Int × ByteArray)} {fs : List Nat} {lo hi : Nat} (h : Lies w a l fs lo hi) : In lo hi fs := fun c hc => ⟨(h.fresh.2 c hc).1, h.lt c hc⟩

end Go.Proofs.Ytcealfjkcbaelaa.Tk

