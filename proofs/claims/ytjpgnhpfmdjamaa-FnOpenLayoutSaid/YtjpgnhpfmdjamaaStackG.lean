/-
  A stack of items in a row of the call's own: the next item last. Nothing here speaks of the program.
-/
import Derived.Test.YtjpgnhpfmdjamaaGrow
set_option linter.unusedVariables false
set_option linter.unusedSimpArgs false
namespace Go.Proofs.Ytjpgnhpfmdjamaa
open Go.RowKit

section
variable {α : Type} {CV : α → List Value → Prop} {n : Nat}

/-- the cells of items, the first item first -/
def ItemsV (CV : α → List Value → Prop) : List α → List Value → Prop
  | [], xs => xs = []
  | p :: r, xs => ∃ c ys, xs = c ++ ys ∧ CV p c ∧ ItemsV CV r ys

theorem ItemsV.len (hn : ∀ x c, CV x c → c.length = n) : ∀ {l : List α} {xs : List Value}, ItemsV CV l xs → xs.length = l.length * n
  | [], xs, h => by rw [ItemsV] at h; rw [h]; simp
  | p :: r, xs, h => by
    obtain ⟨c, ys, rfl, h1, h3⟩ := h
    have := ItemsV.len hn h3
    simp only [List.length_append, List.length_cons, hn _ _ h1, this, Nat.add_mul]
    omega

theorem ItemsV.snoc {p : α} {c : List Value} (h1 : CV p c) : ∀ {l : List α} {xs : List Value}, ItemsV CV l xs → ItemsV CV (l ++ [p]) (xs ++ c)
  | [], xs, h => by rw [ItemsV] at h; subst h; exact ⟨c, [], by simp, h1, rfl⟩
  | q :: r, xs, h => by
    obtain ⟨d, ys, rfl, g1, g3⟩ := h
    exact ⟨d, ys ++ c, by simp, g1, g3.snoc h1⟩

theorem ItemsV.last {p : α} : ∀ {l : List α} {xs : List Value}, ItemsV CV (l ++ [p]) xs → ∃ ys c, xs = ys ++ c ∧ ItemsV CV l ys ∧ CV p c
  | [], xs, h => by
    obtain ⟨c, ys, rfl, h1, h3⟩ := h
    rw [ItemsV] at h3
    subst h3
    exact ⟨[], c, by simp, rfl, h1⟩
  | q :: r, xs, h => by
    obtain ⟨d, zs, rfl, g1, g3⟩ := h
    obtain ⟨ys, c, rfl, h3, h1⟩ := ItemsV.last g3
    exact ⟨d ++ ys, c, by simp, ⟨d, ys, rfl, g1, h3⟩, h1⟩

/-- v is the stack st, the next item first, in a row of the call's own from block lo on -/
def StackG (CV : α → List Value → Prop) (n : Nat) (w : World) (T : TypeId) (lo : Nat) (v : Value) (st : List α) : Prop := ∃ xs, w.ownsRow lo T n v st.length xs ∧ ItemsV CV st.reverse xs

theorem StackG.kept {w w' : World} {T : TypeId} {lo : Nat} {v : Value} {st : List α} (h : StackG CV n w T lo v st) {row : Option Nat} (hg : w.grownBy w' row) (hne : v.ownBlock = none ∨ v.ownBlock ≠ row) : StackG CV n w' T lo v st := by
  obtain ⟨xs, h1, h2⟩ := h
  exact ⟨xs, h1.kept hg hne, h2⟩

theorem StackG.below {w w' : World} {T : TypeId} {lo : Nat} {v : Value} {st : List α} (h : StackG CV n w T lo v st) {B : Nat} (hB : w.heap.size ≤ B) (k : Below B w w') : StackG CV n w' T lo v st :=
  h.kept (row := none) ⟨k.os, k.tape, k.output, k.size, fun i hi _ => k.block i (Nat.lt_of_lt_of_le hi hB)⟩ (by cases hv : v.ownBlock <;> simp)

theorem StackG.own_lt {w : World} {T : TypeId} {lo : Nat} {v : Value} {st : List α} (h : StackG CV n w T lo v st) : ∀ k, v.ownBlock = some k → lo ≤ k ∧ k < w.heap.size := by
  obtain ⟨xs, h1, _⟩ := h
  exact h1.lt

/-- a stack of one item -/
theorem StackG.start {W : World} {T : TypeId} {x : α} {c : List Value} (h1 : CV x c) (hn : c.length = n) {lo b : Nat} (hb : W.heap.size = b) (hlo : lo ≤ b) {cs : Array Value} (hcs : cs = c.toArray) : StackG CV n (W.alloc (.cells cs T)) T lo (.slice (some ⟨b, 0, none⟩) 1 1) [x] := by
  subst hcs hb
  refine ⟨c, ⟨by simpa using hn, .inr ⟨W.heap.size, 1, _, rfl, hlo, heap_alloc_new W _, Nat.le_refl _, by unfold maxLen; omega, by simpa using hn, ?_⟩⟩, c, [], by simp, h1, rfl⟩
  simp only [List.length_cons, List.length_nil]
  rw [List.take_of_length_le (by simpa using Nat.le_of_eq hn)]

/-- The next item, and the stack behind it. -/
theorem StackG.top (hn : ∀ x c, CV x c → c.length = n) {w : World} {T : TypeId} {lo : Nat} {v : Value} {x : α} {st : List α} (h : StackG CV n w T lo v (x :: st)) :
    ∃ g cap c, v = .slice (some ⟨g, 0, none⟩) (st.length + 1) cap ∧ lo ≤ g ∧ g < w.heap.size ∧ st.length + 1 ≤ cap ∧ cap ≤ maxLen ∧ CV x c ∧
      (∀ j, j < n → w.cell? ⟨g, st.length * n + j, none⟩ = c[j]?) ∧ StackG CV n w T lo (.slice (some ⟨g, 0, none⟩) st.length cap) st := by
  obtain ⟨xs, h1, h2⟩ := h
  rw [List.reverse_cons] at h2
  obtain ⟨ys, c, rfl, h3, h4⟩ := h2.last
  have hl := h3.len hn
  rw [List.length_reverse] at hl
  have hcells := fun g hg => h1.cells (g := g) hg
  rcases h1.2 with ⟨_, h0⟩ | ⟨g, cap, cur, rfl, hb, hg, hnc, hcm, hcs, htake⟩
  · simp at h0
  · have hat : ∀ j u, c[j]? = some u → w.cell? ⟨g, st.length * n + j, none⟩ = some u := fun j u hu => by
      have := hcells g rfl (st.length * n + j) u (by rw [List.getElem?_append_right (by omega), hl, Nat.add_sub_cancel_left]; exact hu)
      rwa [add_at, Nat.zero_add] at this
    refine ⟨g, cap, c, rfl, hb, (Array.getElem?_eq_some_iff.1 hg).1, hnc, hcm, h4, fun j hj => ?_, ys, ⟨hl, .inr ⟨g, cap, cur, rfl, hb, hg, ?_, hcm, hcs, ?_⟩⟩, h3⟩
    · have hx : j < c.length := by rw [hn _ _ h4]; exact hj
      rw [List.getElem?_eq_getElem hx]
      exact hat j _ (List.getElem?_eq_getElem hx)
    · simp at hnc; omega
    · have hle : st.length * n ≤ (st.length + 1) * n := Nat.mul_le_mul_right n (by omega)
      have e : (cur.toList.take ((st.length + 1) * n)).take (st.length * n) = cur.toList.take (st.length * n) := by rw [List.take_take, Nat.min_eq_left hle]
      simp only [List.length_cons] at htake
      rw [← e, htake, List.take_append_of_le_length (by omega), List.take_of_length_le (by omega)]

theorem StackG.push {w' : World} {T : TypeId} {lo : Nat} {v' : Value} {x : α} {st : List α} {xs c : List Value} (h2 : ItemsV CV st.reverse xs) (h1 : CV x c) (h : w'.ownsRow lo T n v' (st.length + 1) (xs ++ c)) : StackG CV n w' T lo v' (x :: st) :=
  ⟨_, h, by rw [List.reverse_cons]; exact h2.snoc h1⟩

end

/-- a function value: at every later world it tells whether an Op is of the kind; it leaves all as it is -/
def OpPred (P : Program) (g : Nat) (lb : Array Value) (m : Int → Bool) (w : World) : Prop :=
  (∀ (args : Array Value) (W : World), (callFunc g args).run P W = .ok (.enter g args) W) ∧ ∀ (W : World) (x : Int), Below w.heap.size w W → Calls P g (#[.int .i64 x] ++ lb) W fun e w' => e = .returned (.bool (m x)) ∧ w' = W
theorem OpPred.later {P : Program} {g : Nat} {lb : Array Value} {m : Int → Bool} {w W : World} (h : OpPred P g lb m w) (hb : Below w.heap.size w W) : OpPred P g lb m W :=
  ⟨h.1, fun W' x hb' => h.2 W' x (hb.trans (hb'.mono hb.size))⟩

end Go.Proofs.Ytjpgnhpfmdjamaa
