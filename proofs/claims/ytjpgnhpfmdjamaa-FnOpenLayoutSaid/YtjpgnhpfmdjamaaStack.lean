/-
  A stack of pairs of documents in a row of the call's own: the next pair last. Nothing here speaks of the program.
-/
import Derived.Test.YtjpgnhpfmdjamaaSameP
import Derived.Test.YtjpgnhpfmdjamaaGrow
set_option linter.unusedVariables false
set_option linter.unusedSimpArgs false
namespace Go.Proofs.Ytjpgnhpfmdjamaa
open Go.RowKit

/-- the four cells of a document whose Kids lie in the world w0 -/
def DocV (w0 : World) (x : D) (c : List Value) : Prop := ∃ (a : Option Addr) (cap : Nat) (fs : List Nat), c = [.int .i64 x.1, .int .i64 x.2.1, .string x.2.2.1, .slice a x.2.2.2.len cap] ∧ x.2.2.2.len ≤ cap ∧ SubAt w0 a x.2.2.2 fs ∧ (∀ q ∈ fs, q < w0.heap.size ∧ ∀ o, w0.frozen? ⟨q, o, none⟩ = false) ∧ x.2.2.2.size ≤ 2097152

/-- the cells of pairs, the first pair first -/
def PairsV (w0 : World) : List (D × D) → List Value → Prop
  | [], xs => xs = []
  | p :: r, xs => ∃ c1 c2 ys, xs = (c1 ++ c2) ++ ys ∧ DocV w0 p.1 c1 ∧ DocV w0 p.2 c2 ∧ PairsV w0 r ys

theorem DocV.len {w0 : World} {x : D} {c : List Value} (h : DocV w0 x c) : c.length = 4 := by obtain ⟨_, _, _, rfl, _⟩ := h; rfl
theorem DocV.one {w0 : World} {x : D} {c : List Value} (h : DocV w0 x c) : ∀ u ∈ c, u.oneCell' = true := by
  obtain ⟨_, _, _, rfl, _⟩ := h
  simp [Value.oneCell']

theorem DocV.later {w0 w1 : World} {x : D} {c : List Value} (h : DocV w0 x c) (k : Below w0.heap.size w0 w1) : DocV w1 x c := by
  obtain ⟨a, cap, fs, h1, h2, h3, h4, h5⟩ := h
  exact ⟨a, cap, fs, h1, h2, h3.below (fun q hq => (h4 q hq).1) k, fun q hq => ⟨Nat.lt_of_lt_of_le (h4 q hq).1 k.size, fun o => (k.frozen (p := ⟨q, o, none⟩) (h4 q hq).1).trans ((h4 q hq).2 o)⟩, h5⟩

theorem PairsV.len {w0 : World} : ∀ {l : List (D × D)} {xs : List Value}, PairsV w0 l xs → xs.length = l.length * 8
  | [], xs, h => by rw [PairsV] at h; rw [h]; rfl
  | p :: r, xs, h => by
    obtain ⟨c1, c2, ys, rfl, h1, h2, h3⟩ := h
    have := PairsV.len h3
    simp only [List.length_append, List.length_cons, h1.len, h2.len, this]
    omega

theorem PairsV.snoc {w0 : World} {p : D × D} {c1 c2 : List Value} (h1 : DocV w0 p.1 c1) (h2 : DocV w0 p.2 c2) : ∀ {l : List (D × D)} {xs : List Value}, PairsV w0 l xs → PairsV w0 (l ++ [p]) (xs ++ (c1 ++ c2))
  | [], xs, h => by rw [PairsV] at h; subst h; exact ⟨c1, c2, [], by simp, h1, h2, rfl⟩
  | q :: r, xs, h => by
    obtain ⟨d1, d2, ys, rfl, g1, g2, g3⟩ := h
    exact ⟨d1, d2, ys ++ (c1 ++ c2), by simp, g1, g2, g3.snoc h1 h2⟩

theorem PairsV.last {w0 : World} {p : D × D} : ∀ {l : List (D × D)} {xs : List Value}, PairsV w0 (l ++ [p]) xs → ∃ ys c1 c2, xs = ys ++ (c1 ++ c2) ∧ PairsV w0 l ys ∧ DocV w0 p.1 c1 ∧ DocV w0 p.2 c2
  | [], xs, h => by
    obtain ⟨c1, c2, ys, rfl, h1, h2, h3⟩ := h
    rw [PairsV] at h3
    subst h3
    exact ⟨[], c1, c2, by simp, rfl, h1, h2⟩
  | q :: r, xs, h => by
    obtain ⟨d1, d2, zs, rfl, g1, g2, g3⟩ := h
    obtain ⟨ys, c1, c2, rfl, h3, h1, h2⟩ := PairsV.last g3
    exact ⟨(d1 ++ d2) ++ ys, c1, c2, by simp, ⟨d1, d2, ys, rfl, g1, g2, h3⟩, h1, h2⟩

/-- v is the stack st, the next pair first, in a row of the call's own from block lo on -/
def Stack (w0 w : World) (T : TypeId) (lo : Nat) (v : Value) (st : List (D × D)) : Prop := ∃ xs, w.ownsRow lo T 8 v st.length xs ∧ PairsV w0 st.reverse xs

theorem Stack.kept {w0 w w' : World} {T : TypeId} {lo : Nat} {v : Value} {st : List (D × D)} (h : Stack w0 w T lo v st) {row : Option Nat} (hg : w.grownBy w' row) (hne : v.ownBlock = none ∨ v.ownBlock ≠ row) : Stack w0 w' T lo v st := by
  obtain ⟨xs, h1, h2⟩ := h
  exact ⟨xs, h1.kept hg hne, h2⟩

theorem Stack.below {w0 w w' : World} {T : TypeId} {lo : Nat} {v : Value} {st : List (D × D)} (h : Stack w0 w T lo v st) {B : Nat} (hB : w.heap.size ≤ B) (k : Below B w w') : Stack w0 w' T lo v st :=
  h.kept (row := none) ⟨k.os, k.tape, k.output, k.size, fun i hi _ => k.block i (Nat.lt_of_lt_of_le hi hB)⟩ (by cases hv : v.ownBlock <;> simp)

/-- The next pair, and the stack behind it. -/
theorem Stack.top {w0 w : World} {T : TypeId} {lo : Nat} {v : Value} {x y : D} {st : List (D × D)} (h : Stack w0 w T lo v ((x, y) :: st)) :
    ∃ g cap c1 c2, v = .slice (some ⟨g, 0, none⟩) (st.length + 1) cap ∧ lo ≤ g ∧ g < w.heap.size ∧ st.length + 1 ≤ cap ∧ cap ≤ maxLen ∧ DocV w0 x c1 ∧ DocV w0 y c2 ∧
      (∀ j, j < 4 → w.cell? ⟨g, st.length * 8 + j, none⟩ = c1[j]?) ∧ (∀ j, j < 4 → w.cell? ⟨g, st.length * 8 + 4 + j, none⟩ = c2[j]?) ∧ Stack w0 w T lo (.slice (some ⟨g, 0, none⟩) st.length cap) st := by
  obtain ⟨xs, h1, h2⟩ := h
  rw [List.reverse_cons] at h2
  obtain ⟨ys, c1, c2, rfl, h3, h4, h5⟩ := h2.last
  have hl := h3.len
  rw [List.length_reverse] at hl
  have hcells := fun g hg => h1.cells (g := g) hg
  rcases h1.2 with ⟨_, h0⟩ | ⟨g, cap, cur, rfl, hb, hg, hnc, hcm, hcs, htake⟩
  · simp at h0
  · have hat : ∀ j u, (c1 ++ c2)[j]? = some u → w.cell? ⟨g, st.length * 8 + j, none⟩ = some u := fun j u hu => by
      have := hcells g rfl (st.length * 8 + j) u (by rw [List.getElem?_append_right (by omega), hl, Nat.add_sub_cancel_left]; exact hu)
      rwa [add_at, Nat.zero_add] at this
    refine ⟨g, cap, c1, c2, rfl, hb, (Array.getElem?_eq_some_iff.1 hg).1, hnc, hcm, h4, h5, fun j hj => ?_, fun j hj => ?_, ys, ⟨hl, .inr ⟨g, cap, cur, rfl, hb, hg, ?_, hcm, hcs, ?_⟩⟩, h3⟩
    · have hx : j < c1.length := by rw [h4.len]; exact hj
      rw [List.getElem?_eq_getElem hx]
      exact hat j _ (by rw [List.getElem?_append_left hx]; exact List.getElem?_eq_getElem hx)
    · have hx : j < c2.length := by rw [h5.len]; exact hj
      rw [List.getElem?_eq_getElem hx, Nat.add_assoc]
      exact hat (4 + j) _ (by rw [List.getElem?_append_right (by rw [h4.len]; omega), h4.len, Nat.add_sub_cancel_left]; exact List.getElem?_eq_getElem hx)
    · simp at hnc; omega
    · have e : (cur.toList.take ((st.length + 1) * 8)).take (st.length * 8) = cur.toList.take (st.length * 8) := by rw [List.take_take]; congr 1; omega
      simp only [List.length_cons] at htake
      rw [← e, htake, List.take_append_of_le_length (by omega), List.take_of_length_le (by omega)]

theorem Stack.push {w0 w' : World} {T : TypeId} {lo : Nat} {v' : Value} {x y : D} {st : List (D × D)} {xs c1 c2 : List Value} (h2 : PairsV w0 st.reverse xs) (h1 : DocV w0 x c1) (h3 : DocV w0 y c2) (h : w'.ownsRow lo T 8 v' (st.length + 1) (xs ++ (c1 ++ c2))) : Stack w0 w' T lo v' ((x, y) :: st) :=
  ⟨_, h, by rw [List.reverse_cons]; exact h2.snoc h1 h3⟩

end Go.Proofs.Ytjpgnhpfmdjamaa
