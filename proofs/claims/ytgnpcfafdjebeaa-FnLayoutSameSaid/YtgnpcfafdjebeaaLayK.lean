/-
  What a law's walk carries of layouts.
-/
import Derived.Test.YtgnpcfafdjebeaaLayN
set_option linter.unusedVariables false
set_option linter.unusedSimpArgs false
namespace Go.Proofs.Ytgnpcfafdjebeaa.LayN
open Go.RowKit P1 TextV LayL LayV LayM

/-- a layout in new memory, and whether there is one: by its parts -/
def LayOut (w : World) (X : List (Int × ByteArray)) (ok : Bool) (e : Ending) (w' : World) : Prop := ∃ (a : Option Addr) (cap : Nat) (fs : List Nat), e = .returned (.tuple #[.slice a X.length cap, .bool ok]) ∧ X.length ≤ cap ∧ LaySub w' a X fs ∧ Fresh w.heap.size w' fs ∧ Below w.heap.size w w'
theorem LayRes.out {w w' : World} {X : List (Int × ByteArray)} {ok : Bool} {e : Ending} (h : LayRes w (X, ok) e w') : LayOut w X ok e w' := h
/-- a layout that a walk carries: where it lies, and among which blocks -/
structure Lies (w : World) (a : Option Addr) (l : List (Int × ByteArray)) (fs : List Nat) (lo hi : Nat) : Prop where
  sub : LaySub w a l fs
  fresh : Fresh lo w fs
  lt : ∀ c ∈ fs, c < hi
theorem Lies.new {w : World} {a : Option Addr} {l : List (Int × ByteArray)} {fs : List Nat} {lo : Nat} (h : LaySub w a l fs) (f : Fresh lo w fs) : Lies w a l fs lo w.heap.size := ⟨h, f, f.lt⟩
theorem Lies.below {w w' : World} {a : Option Addr} {l : List (Int × ByteArray)} {fs : List Nat} {lo hi : Nat} (h : Lies w a l fs lo hi) (k : Below w.heap.size w w') : Lies w' a l fs lo hi :=
  ⟨h.sub.below h.sub.lt k, h.fresh.below h.fresh.lt k, h.lt⟩
theorem Lies.only {gs : List Nat} {w w' : World} {a a' : Option Addr} {l l' : List (Int × ByteArray)} {fs : List Nat} {lo hi lo' hi' : Nat} (h : Lies w a l fs lo hi) (k : Only gs w w') (g : Lies w a' l' gs lo' hi') (hh : hi ≤ lo' ∨ hi' ≤ lo) : Lies w' a l fs lo hi :=
  ⟨h.sub.only k (fun c hc hg => by have h1 := h.lt c hc; have h2 := (h.fresh.2 c hc).1; have h3 := g.lt c hg; have h4 := (g.fresh.2 c hg).1; omega), k.fresh h.fresh, h.lt⟩
/-- .. written anew -/
theorem Lies.mark {w w' : World} {a : Option Addr} {l l' : List (Int × ByteArray)} {fs : List Nat} {lo hi : Nat} (h : Lies w a l fs lo hi) (k : Only fs w w') (hs : LaySub w' a l' fs) : Lies w' a l' fs lo hi := ⟨hs, k.fresh h.fresh, h.lt⟩
theorem Lies.ext {w a b : World} {ad : Option Addr} {l : List (Int × ByteArray)} {fs : List Nat} {lo hi : Nat} (h : Lies a ad l fs lo hi) (e : Ext w a) (k : Only fs a b) (hl : w.heap.size ≤ lo) : Ext w b := e.only k (fun c hc => Nat.le_trans hl (h.fresh.2 c hc).1)

end Go.Proofs.Ytgnpcfafdjebeaa.LayN
