import Derived.Test.YtcealfjkcbaelaaLyA
import Derived.Laws.AppendOwn
import Derived.BigQuiet
import Derived.Deep.QuietTactic
/-
  Slices of numbers and of bools as plain data, and how they lie in memory. Nothing here speaks of the program.
-/
set_option linter.unusedVariables false
set_option linter.unusedSimpArgs false
namespace Go.Proofs.Ytcealfjkcbaelaa.Vs
open Go.RowKit

/-- the array behind a slice holds these values, one cell each; fs: its block -/
def VSub (w : World) (a : Option Addr) (l : List Value) (fs : List Nat) : Prop :=
  (l = [] ∧ fs = []) ∨ (∃ b off, a = some ⟨b, off, none⟩ ∧ l ≠ [] ∧ fs = [b] ∧ ∀ i, (h : i < l.length) → w.cell? ⟨b, off + i, none⟩ = some l[i])
theorem VSub.congr {w w' : World} {a : Option Addr} {l : List Value} {fs : List Nat} (h : VSub w a l fs) (hb : ∀ b ∈ fs, ∀ o, w'.cell? ⟨b, o, none⟩ = w.cell? ⟨b, o, none⟩) : VSub w' a l fs := by
  rcases h with h | ⟨b, off, rfl, hn, rfl, hr⟩
  · exact .inl h
  · exact .inr ⟨b, off, rfl, hn, rfl, fun i hi => (hb b (by simp) _).trans (hr i hi)⟩
theorem VSub.lt {w : World} {a : Option Addr} {l : List Value} {fs : List Nat} (h : VSub w a l fs) : ∀ c ∈ fs, c < w.heap.size := by
  rcases h with ⟨_, rfl⟩ | ⟨b, off, rfl, hn, rfl, hr⟩
  · intro c hc; cases hc
  · intro c hc
    rw [List.mem_singleton] at hc; subst hc
    exact World.block_lt_of_cell? w _ (hr 0 (List.length_pos_iff.2 hn))
theorem VSub.below {w w' : World} {a : Option Addr} {l : List Value} {fs : List Nat} {B : Nat} (h : VSub w a l fs) (hb : ∀ c ∈ fs, c < B) (k : Below B w w') : VSub w' a l fs := h.congr fun b hb' o => k.cell (p := ⟨b, o, none⟩) (hb b hb')
theorem VSub.only {gs : List Nat} {w w' : World} {a : Option Addr} {l : List Value} {fs : List Nat} (h : VSub w a l fs) (k : Only gs w w') (hd : ∀ c ∈ fs, c ∉ gs) : VSub w' a l fs := h.congr fun c hc o => k.cell (h.lt c hc) (hd c hc) o
/-- a slice that a walk carries: where it lies, and among which blocks -/
structure VLies (w : World) (a : Option Addr) (l : List Value) (fs : List Nat) (lo hi : Nat) : Prop where
  sub : VSub w a l fs
  fresh : Fresh lo w fs
  lt : ∀ c ∈ fs, c < hi
section
variable {gs fs : List Nat} {w w' : World} {a : Option Addr} {l l' : List Value} {lo hi lo' hi' : Nat}
theorem VLies.new (h : VSub w a l fs) (f : Fresh lo w fs) : VLies w a l fs lo w.heap.size := ⟨h, f, f.lt⟩
theorem VLies.below (h : VLies w a l fs lo hi) (k : Below w.heap.size w w') : VLies w' a l fs lo hi := ⟨h.sub.below h.sub.lt k, h.fresh.below h.fresh.lt k, h.lt⟩
theorem VLies.mark (h : VLies w a l fs lo hi) (k : Only fs w w') (hs : VSub w' a l' fs) : VLies w' a l' fs lo hi := ⟨hs, k.fresh h.fresh, h.lt⟩
theorem VLies.past (h : VLies w a l fs lo hi) (k : Only gs w w') (g : In lo' hi' gs) (hh : hi ≤ lo' ∨ hi' ≤ lo) : VLies w' a l fs lo hi :=
  ⟨h.sub.only k (fun c hc hg => by have h1 := h.lt c hc; have h2 := (h.fresh.2 c hc).1; have h3 := g c hg; omega), k.fresh h.fresh, h.lt⟩
theorem VLies.inn (h : VLies w a l fs lo hi) : In lo hi fs := fun c hc => ⟨(h.fresh.2 c hc).1, h.lt c hc⟩
end
/-- values in a row of the call's own, as a slice in new memory -/
theorem own_vs {w : World} {B n : Nat} {T : TypeId} {v : Value} {l : List Value} (h : w.ownsRow B T 1 v n l) : ∃ a cap fs, v = .slice a n cap ∧ n ≤ cap ∧ VSub w a l fs ∧ Fresh B w fs := by
  have hc := fun g (hg : v.ownBlock = some g) => h.cells (g := g) hg
  have hl := h.1
  rcases h.2 with ⟨rfl, h0⟩ | ⟨g, cap, cur, rfl, hB, hg, hnc, _⟩
  · exact ⟨none, 0, [], by rw [h0], by omega, .inl ⟨List.length_eq_zero_iff.1 (by omega), rfl⟩, Fresh.nil _ _⟩
  · by_cases h0 : l = []
    · exact ⟨_, cap, [], rfl, hnc, .inl ⟨h0, rfl⟩, Fresh.nil _ _⟩
    · refine ⟨_, cap, [g], rfl, hnc, .inr ⟨g, 0, rfl, h0, rfl, fun i hi => ?_⟩, by simp, fun c hc => ?_⟩
      · have := hc g rfl i l[i] (List.getElem?_eq_getElem hi)
        rw [add_at] at this; exact this
      · rw [List.mem_singleton] at hc; subst hc
        exact ⟨hB, (Array.getElem?_eq_some_iff.1 hg).1, fun o => frozen_of_row w _ _ _ _ hg⟩
/-- values in new memory, and whether there are any -/
def VOut (w : World) (l : List Value) (ok : Bool) (e : Ending) (w' : World) : Prop := ∃ (a : Option Addr) (cap : Nat) (fs : List Nat), e = .returned (.tuple #[.slice a l.length cap, .bool ok]) ∧ l.length ≤ cap ∧ VSub w' a l fs ∧ Fresh w.heap.size w' fs ∧ Below w.heap.size w w'
theorem VOut.none' {w w' : World} {a : Option Addr} {cap : Nat} (hb : Below w.heap.size w w') : VOut w [] false (.returned (.tuple #[.slice a 0 cap, .bool false])) w' := ⟨a, cap, [], rfl, by simp, .inl ⟨rfl, rfl⟩, Fresh.nil _ _, hb⟩

end Go.Proofs.Ytcealfjkcbaelaa.Vs

/-
  The laws' helpers over a []bool: eqBoolS, markBoolS, heldBoolS.
-/
set_option linter.unusedVariables false
set_option linter.unusedSimpArgs false
namespace Go.Proofs.Ytcealfjkcbaelaa.Vs
open Go.RowKit

theorem ret_int {k : IntKind} {a b : Int} (h : a = b) : Ending.returned (.int k a) = .returned (.int k b) := by rw [h]
/-- what a []bool is marked with -/
def mk : List Bool → Nat → List Bool
  | [], _ => []
  | _ :: l, m => ((m : Int).tmod 3 == 0) :: mk l (m + 1)
theorem mk_len (l : List Bool) : ∀ m, (mk l m).length = l.length := by
  induction l with
  | nil => intro m; rfl
  | cons v l ih => intro m; simp [mk, ih]
theorem mk_get (l : List Bool) : ∀ (m k : Nat) (h : k < (mk l m).length), (mk l m)[k] = (((m + k : Nat) : Int).tmod 3 == 0) := by
  induction l with
  | nil => intro m k h; simp [mk] at h
  | cons v l ih =>
    intro m k h
    cases k with
    | zero => simp [mk]
    | succ k =>
      simp only [mk, List.getElem_cons_succ]
      rw [ih (m + 1) k]
      rw [show m + 1 + k = m + (k + 1) by omega]
abbrev BSub (w : World) (a : Option Addr) (l : List Bool) (fs : List Nat) : Prop := VSub w a (l.map Value.bool) fs
/-- bools in new memory, and whether there are any -/
def BRes (w : World) : List Bool × Bool → Ending → World → Prop
  | (l, ok), e, w' => ∃ (a : Option Addr) (cap : Nat) (fs : List Nat), e = .returned (.tuple #[.slice a l.length cap, .bool ok]) ∧ l.length ≤ cap ∧ BSub w' a l fs ∧ Fresh w.heap.size w' fs ∧ Below w.heap.size w w'
theorem BRes.out {w w' : World} {l : List Bool} {ok : Bool} {e : Ending} (h : BRes w (l, ok) e w') : ∃ (a : Option Addr) (cap : Nat) (fs : List Nat), e = .returned (.tuple #[.slice a l.length cap, .bool ok]) ∧ l.length ≤ cap ∧ BSub w' a l fs ∧ Fresh w.heap.size w' fs ∧ Below w.heap.size w w' := h
theorem BRes.none' {w w' : World} {a : Option Addr} {cap : Nat} (hb : Below w.heap.size w w') : BRes w ([], false) (.returned (.tuple #[.slice a 0 cap, .bool false])) w' := ⟨a, cap, [], rfl, by simp, .inl ⟨rfl, rfl⟩, Fresh.nil _ _, hb⟩
theorem below_drewN {w w' : World} (h : Below w.heap.size w w') : ∀ n, Below w.heap.size w (w'.drewN n)
  | 0 => h
  | n + 1 => (below_drewN h n).drew

/-- what markBoolS comes to -/
def BOut (w : World) (a : Option Addr) (l : List Bool) (fs : List Nat) (m : Nat) (e : Ending) (w' : World) : Prop := e = .returned (.int .i64 ((m + l.length : Nat) : Int)) ∧ BSub w' a (mk l m) fs ∧ Only fs w w'

end Go.Proofs.Ytcealfjkcbaelaa.Vs

