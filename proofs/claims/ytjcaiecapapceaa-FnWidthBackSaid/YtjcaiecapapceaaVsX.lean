import Derived.Test.YtjcaiecapapceaaLyX
/-
 Slices of numbers and of bools as plain data, and how they lie in memory. Nothing here speaks of the program.
-/
set_option linter.unusedVariables false
set_option linter.unusedSimpArgs false
namespace Go.Proofs.Ytjcaiecapapceaa.Vs
open Go.RowKit
def VSub (w : World) (a : Option Addr) (l : List Value) (fs : List Nat) : Prop :=
 (l = [] ∧ fs = []) ∨ (∃ b off, a = some ⟨b, off, none⟩ ∧ l ≠ [] ∧ fs = [b] ∧ ∀ i, (h : i < l.length) → w.cell? ⟨b, off + i, none⟩ = some l[i])
theorem VSub.congr {w w' : World} {a : Option Addr} {l : List Value} {fs : List Nat} (h : VSub w a l fs) (hb : ∀ b ∈ fs, ∀ o, w'.cell? ⟨b, o, none⟩ = w.cell? ⟨b, o, none⟩) : VSub w' a l fs := by
 rcases h with h | ⟨b, off, rfl, hn, rfl, hr⟩
 ·exact .inl h
 ·exact .inr ⟨b, off, rfl, hn, rfl, fun i hi => (hb b (by simp) _).trans (hr i hi)⟩
theorem VSub.lt {w : World} {a : Option Addr} {l : List Value} {fs : List Nat} (h : VSub w a l fs) : ∀ c ∈ fs, c < w.heap.size := by
 rcases h with ⟨_, rfl⟩ | ⟨b, off, rfl, hn, rfl, hr⟩
 ·intro c hc; cases hc
 ·intro c hc
  rw [List.mem_singleton] at hc; subst hc
  exact World.block_lt_of_cell? w _ (hr 0 (List.length_pos_iff.2 hn))
theorem VSub.below {w w' : World} {a : Option Addr} {l : List Value} {fs : List Nat} {B : Nat} (h : VSub w a l fs) (hb : ∀ c ∈ fs, c < B) (k : Below B w w') : VSub w' a l fs := h.congr fun b hb' o => k.cell (p := ⟨b, o, none⟩) (hb b hb')
section
variable {gs fs : List Nat} {w w' : World} {a : Option Addr} {l l' : List Value} {lo hi lo' hi' : Nat}
end
theorem own_vs {w : World} {B n : Nat} {T : TypeId} {v : Value} {l : List Value} (h : w.ownsRow B T 1 v n l) : ∃ a cap fs, v = .slice a n cap ∧ n ≤ cap ∧ VSub w a l fs ∧ Fresh B w fs := by
 have hc := fun g (hg : v.ownBlock = some g) => h.cells (g := g) hg
 have hl := h.1
 rcases h.2 with ⟨rfl, h0⟩ | ⟨g, cap, cur, rfl, hB, hg, hnc, _⟩
 ·exact ⟨none, 0, [], by rw [h0], by omega, .inl ⟨List.length_eq_zero_iff.1 (by omega), rfl⟩, Fresh.nil _ _⟩
 ·by_cases h0 : l = []
  ·exact ⟨_, cap, [], rfl, hnc, .inl ⟨h0, rfl⟩, Fresh.nil _ _⟩
  ·refine ⟨_, cap, [g], rfl, hnc, .inr ⟨g, 0, rfl, h0, rfl, fun i hi => ?_⟩, by simp, fun c hc => ?_⟩
   ·have := hc g rfl i l[i] (List.getElem?_eq_getElem hi)
    rw [add_at] at this; exact this
   ·rw [List.mem_singleton] at hc; subst hc
    exact ⟨hB, (Array.getElem?_eq_some_iff.1 hg).1, fun o => frozen_of_row w _ _ _ _ hg⟩
end Go.Proofs.Ytjcaiecapapceaa.Vs
namespace Go.Proofs.Ytjcaiecapapceaa.Vs
open Go.RowKit
def mk : List Bool → Nat → List Bool
 | [], _ => []
 | _ :: l, m => ((m : Int).tmod 3 == 0) :: mk l (m + 1)
end Go.Proofs.Ytjcaiecapapceaa.Vs
namespace Go.Proofs.Ytjcaiecapapceaa.VsI
open Go.RowKit Vs
def mk : List Int → Nat → List Int
 | [], _ => []
 | _ :: l, m => (m : Int) :: mk l (m + 1)
abbrev ISub (w : World) (a : Option Addr) (l : List Int) (fs : List Nat) : Prop := VSub w a (l.map (Value.int .i64)) fs
def IRes (w : World) : List Int × Bool → Ending → World → Prop
 | (l, ok), e, w' => ∃ (a : Option Addr) (cap : Nat) (fs : List Nat), e = .returned (.tuple #[.slice a l.length cap, .bool ok]) ∧ l.length ≤ cap ∧ ISub w' a l fs ∧ Fresh w.heap.size w' fs ∧ Below w.heap.size w w'
theorem IRes.none' {w w' : World} {a : Option Addr} {cap : Nat} (hb : Below w.heap.size w w') : IRes w ([], false) (.returned (.tuple #[.slice a 0 cap, .bool false])) w' := ⟨a, cap, [], rfl, by simp, .inl ⟨rfl, rfl⟩, Fresh.nil _ _, hb⟩
def IOut (w : World) (a : Option Addr) (l : List Int) (fs : List Nat) (m : Nat) (e : Ending) (w' : World) : Prop := e = .returned (.int .i64 ((m + l.length : Nat) : Int)) ∧ ISub w' a (mk l m) fs ∧ Only fs w w'
end Go.Proofs.Ytjcaiecapapceaa.VsI
