import Derived.Test.YtcealfjkcbaelaaPl
import Derived.Test.YtcealfjkcbaelaaChecked
import Derived.Outline
import Derived.StillTailTactics
import Derived.Test.YtcealfjkcbaelaaMarkT
import Derived.Deep.RegionHeld3
import Derived.Test.YtcealfjkcbaelaaText
import Derived.Deep.RegionLaw
import Derived.Deep.AppendLies
/-
  What the law's own helpers that count, copy and compare layouts come to.
-/
set_option linter.unusedVariables false
set_option linter.unusedSimpArgs false
namespace Go.Proofs.Ytcealfjkcbaelaa.LayL
open Go.RowKit
theorem ret_bool {a b : Bool} (h : a = b) : Ending.returned (.bool a) = .returned (.bool b) := by rw [h]

/-- two lines are equal -/
def sameR (n : Int) (t : ByteArray) (n' : Int) (t' : ByteArray) : Bool := decide ((n, t) = (n', t'))
theorem same_step {l l' : List (Int × ByteArray)} {k : Nat} (h : k < l.length) (h' : k < l'.length) (e : l.take k = l'.take k) (e' : l[k] = l'[k]) : l.take (k + 1) = l'.take (k + 1) := by
  rw [L.take_succ h, L.take_succ h', e, e']

end Go.Proofs.Ytcealfjkcbaelaa.LayL

/-
  What the law's own helpers that write marks into a layout, and look for them, come to.
-/
set_option linter.unusedVariables false
set_option linter.unusedSimpArgs false
namespace Go.Proofs.Ytcealfjkcbaelaa.LayM
open Go.RowKit P1 MarkT
end Go.Proofs.Ytcealfjkcbaelaa.LayM

/-
  What LayoutValid of the program and of the model come to.
-/
set_option linter.unusedVariables false
set_option linter.unusedSimpArgs false
namespace Go.Proofs.Ytcealfjkcbaelaa.LayV
open Go.RowKit P1 TextV
theorem row_cells {W w1 : World} {n : Int} {t : ByteArray} {T : TypeId} (hb : Below (W.alloc (.cells #[.int .i64 n, .string t] T)).heap.size (W.alloc (.cells #[.int .i64 n, .string t] T)) w1) :
    w1.cell? ⟨W.heap.size, 0, none⟩ = some (.int .i64 n) ∧ w1.cell? ⟨W.heap.size, 1, none⟩ = some (.string t) := by
  refine ⟨?_, ?_⟩ <;> (rw [hb.cell (p := ⟨_, _, _⟩) (by simp), World.cell?_alloc_new]; rfl)

end Go.Proofs.Ytcealfjkcbaelaa.LayV

/-
  What LayoutValid of the model comes to.
-/
set_option linter.unusedVariables false
set_option linter.unusedSimpArgs false
namespace Go.Proofs.Ytcealfjkcbaelaa.LayV
open Go.RowKit P1 TextV
end Go.Proofs.Ytcealfjkcbaelaa.LayV

/-
  What NestLayout of the program and of the model come to.
-/
set_option linter.unusedVariables false
set_option linter.unusedSimpArgs false
namespace Go.Proofs.Ytcealfjkcbaelaa.LayN
open Go.RowKit P1 TextV LayL LayV LayM
/-- .. and whether there is one -/
def LayRes (w : World) (r : List (Int × ByteArray) × Bool) (e : Ending) (w' : World) : Prop := ∃ (a : Option Addr) (cap : Nat) (fs : List Nat), e = .returned (.tuple #[.slice a r.1.length cap, .bool r.2]) ∧ r.1.length ≤ cap ∧ LaySub w' a r.1 fs ∧ Fresh w.heap.size w' fs ∧ Below w.heap.size w w'

/-- what the round's box holds -/
def Box2 (w : World) (b : Nat) (n : Int) (t : ByteArray) : Prop := w.cell? ⟨b, 0, none⟩ = some (.int .i64 n) ∧ w.cell? ⟨b, 1, none⟩ = some (.string t)
theorem Box2.ext {w w' : World} {b : Nat} {n : Int} {t : ByteArray} (h : Box2 w b n t) (hb : b < w.heap.size) (k : Below w.heap.size w w') : Box2 w' b n t :=
  ⟨(k.cell (p := ⟨b, 0, none⟩) hb).trans h.1, (k.cell (p := ⟨b, 1, none⟩) hb).trans h.2⟩
theorem Box2.new (w : World) (n : Int) (t : ByteArray) (T : TypeId) : Box2 (w.alloc (.cells #[.int .i64 n, .string t] T)) w.heap.size n t := by
  refine ⟨?_, ?_⟩ <;> (rw [World.cell?_alloc_new]; rfl)

end Go.Proofs.Ytcealfjkcbaelaa.LayN

/-
  What NestLayout of the program and of the model come to: the model's, and the results.
-/
set_option linter.unusedVariables false
set_option linter.unusedSimpArgs false
namespace Go.Proofs.Ytcealfjkcbaelaa.LayN
open Go.RowKit P1 TextV LayL LayV LayM

theorem LayRes.none' {w w' : World} {a : Option Addr} {cap : Nat} (hb : Below w.heap.size w w') : LayRes w ([], false) (.returned (.tuple #[.slice a 0 cap, .bool false])) w' :=
  ⟨a, cap, [], rfl, by simp, .inl ⟨rfl, rfl⟩, Fresh.nil _ _, hb⟩

/-- the cells of lines -/
def cells2 : List (Int × ByteArray) → List Value
  | [] => []
  | r :: l => .int .i64 r.1 :: .string r.2 :: cells2 l
theorem cells2_len (l : List (Int × ByteArray)) : (cells2 l).length = l.length * 2 := by
  induction l with
  | nil => rfl
  | cons r l ih => simp [cells2, ih]; omega
theorem cells2_one (l : List (Int × ByteArray)) : ∀ u ∈ cells2 l, u.oneCell' = true := by
  induction l with
  | nil => simp [cells2]
  | cons r l ih => simp [cells2, Value.oneCell']; exact ih
theorem at_cells2 {w : World} {l : List (Int × ByteArray)} : ∀ {b off : Nat}, (∀ j u, (cells2 l)[j]? = some u → w.cell? ((⟨b, off, none⟩ : Addr).add j) = some u) → LayAt w l b off := by
  induction l with
  | nil => intro b off _; exact LayAt.nil _ _ _
  | cons r l ih =>
    intro b off h
    have h0 := h 0 _ rfl
    have h1 := h 1 _ rfl
    rw [add_at] at h0 h1
    have hr : LayAt w [r] b off := fun i hi => by
      obtain rfl : i = 0 := by simpa using hi
      exact ⟨by simpa using h0, by simpa using h1⟩
    refine hr.app (k := l) (ih fun j u hu => ?_)
    have := h (j + 2) u (by simpa [cells2] using hu)
    rw [add_at] at this ⊢
    rw [show off + [r].length * 2 + j = off + (j + 2) by simp; omega]
    exact this

end Go.Proofs.Ytcealfjkcbaelaa.LayN

/-
  What a law's walk carries of layouts.
-/
set_option linter.unusedVariables false
set_option linter.unusedSimpArgs false
namespace Go.Proofs.Ytcealfjkcbaelaa.LayN
open Go.RowKit P1 TextV LayL LayV LayM

/-- a layout in new memory, and whether there is one: by its parts -/
def LayOut (w : World) (X : List (Int × ByteArray)) (ok : Bool) (e : Ending) (w' : World) : Prop := ∃ (a : Option Addr) (cap : Nat) (fs : List Nat), e = .returned (.tuple #[.slice a X.length cap, .bool ok]) ∧ X.length ≤ cap ∧ LaySub w' a X fs ∧ Fresh w.heap.size w' fs ∧ Below w.heap.size w w'
theorem LayRes.out {w w' : World} {X : List (Int × ByteArray)} {ok : Bool} {e : Ending} (h : LayRes w (X, ok) e w') : LayOut w X ok e w' := h
/-- a layout that a walk carries: where it lies, and among which blocks -/
structure Lies (w : World) (a : Option Addr) (l : List (Int × ByteArray)) (fs : List Nat) (lo hi : Nat) : Prop where
  sub : LaySub w a l fs
  fresh : Fresh lo w fs
  lt : ∀ c ∈ fs, c < hi
theorem Lies.new {w : World} {a : Option Addr} {l : List (Int × ByteArray)} {fs : List Nat} {lo : Nat} (h : LaySub w a l fs) (f : Fresh lo w fs) : Lies w a l fs lo w.heap.size := ⟨h, f, f.lt⟩
theorem Lies.below {w w' : World} {a : Option Addr} {l : List (Int × ByteArray)} {fs : List Nat} {lo hi : Nat} (h : Lies w a l fs lo hi) (k : Below w.heap.size w w') : Lies w' a l fs lo hi :=
  ⟨h.sub.below h.sub.lt k, h.fresh.below h.fresh.lt k, h.lt⟩
theorem Lies.only {gs : List Nat} {w w' : World} {a a' : Option Addr} {l l' : List (Int × ByteArray)} {fs : List Nat} {lo hi lo' hi' : Nat} (h : Lies w a l fs lo hi) (k : Only gs w w') (g : Lies w a' l' gs lo' hi') (hh : hi ≤ lo' ∨ hi' ≤ lo) : Lies w' a l fs lo hi :=
  ⟨h.sub.only k (fun c hc hg => by have h1 := h.lt c hc; have h2 := (h.fresh.2 c hc).1; have h3 := g.lt c hg; have h4 := (g.fresh.2 c hg).1; omega), k.fresh h.fresh, h.lt⟩
/-- .. written anew -/
theorem Lies.mark {w w' : World} {a : Option Addr} {l l' : List (Int × ByteArray)} {fs : List Nat} {lo hi : Nat} (h : Lies w a l fs lo hi) (k : Only fs w w') (hs : LaySub w' a l' fs) : Lies w' a l' fs lo hi := ⟨hs, k.fresh h.fresh, h.lt⟩
theorem Lies.ext {w a b : World} {ad : Option Addr} {l : List (Int × ByteArray)} {fs : List Nat} {lo hi : Nat} (h : Lies a ad l fs lo hi) (e : Ext w a) (k : Only fs a b) (hl : w.heap.size ≤ lo) : Ext w b := e.only k (fun c hc => Nat.le_trans hl (h.fresh.2 c hc).1)

theorem Lies.inn {w : World} {a : Option Addr} {l : List (Int × ByteArray)} {fs : List Nat} {lo hi : Nat} (h : Lies w a l fs lo hi) : In lo hi fs := fun c hc => ⟨(h.fresh.2 c hc).1, h.lt c hc⟩

end Go.Proofs.Ytcealfjkcbaelaa.LayN

