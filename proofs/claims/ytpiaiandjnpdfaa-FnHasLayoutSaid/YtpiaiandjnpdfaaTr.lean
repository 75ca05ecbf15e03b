import Derived.Test.YtpiaiandjnpdfaaChP
import Derived.Deep.AppendLies
/-
  How the program's tree of a document's choices lies in memory; nothing here speaks of the program.
-/
set_option linter.unusedVariables false
set_option linter.unusedSimpArgs false
namespace Go.Proofs.Ytpiaiandjnpdfaa.Tr
open Go.RowKit P1 Wid ChP

/-- the cells of a part of the tree -/
def rootV (o n : Int) (t : ByteArray) (k : F) (a : Option Addr) (cap : Nat) (a' : Option Addr) (cap' : Nat) : List Value :=
  [.int .i64 o, .int .i64 n, .string t, .slice a k.len cap, .int .i64 (ctD o k : Int), .bool (!noD o k), .slice a' k.len cap']

/-- a document's Kids, in blocks that D admits -/
def DocIn (D : Nat → Prop) (w : World) (k : F) (a : Option Addr) (cap : Nat) : Prop := k.len ≤ cap ∧ ∃ fs, SubAt w a k fs ∧ ∀ c ∈ fs, D c ∧ c < w.heap.size ∧ ∀ o, w.frozen? ⟨c, o, none⟩ = false

/-- the cells of the trees of a list of documents -/
def RootsV (D : Nat → Prop) (w : World) : F → List Value → Prop
  | .nil, xs => xs = []
  | .cons o n t k r, xs => ∃ (a : Option Addr) (cap : Nat) (a' : Option Addr) (cap' : Nat) (ys : List Value), xs = rootV o n t k a cap a' cap' ++ ys ∧ DocIn D w k a cap ∧
      (k = .nil ∨ ∃ (b : Nat) (zs : List Value), a' = some ⟨b, 0, none⟩ ∧ D b ∧ b < w.heap.size ∧ (∀ j u, zs[j]? = some u → w.cell? ⟨b, j, none⟩ = some u) ∧ RootsV D w k zs) ∧ RootsV D w r ys

/-- the trees of a list of documents, in an array -/
def TreeSub (D : Nat → Prop) (w : World) (a : Option Addr) (k : F) : Prop :=
  k = .nil ∨ ∃ (b : Nat) (zs : List Value), a = some ⟨b, 0, none⟩ ∧ D b ∧ b < w.heap.size ∧ (∀ j u, zs[j]? = some u → w.cell? ⟨b, j, none⟩ = some u) ∧ RootsV D w k zs

theorem RootsV.cons_iff {D : Nat → Prop} {w : World} {o n : Int} {t : ByteArray} {k r : F} {xs : List Value} : RootsV D w (.cons o n t k r) xs ↔ ∃ (a : Option Addr) (cap : Nat) (a' : Option Addr) (cap' : Nat) (ys : List Value), xs = rootV o n t k a cap a' cap' ++ ys ∧ DocIn D w k a cap ∧ TreeSub D w a' k ∧ RootsV D w r ys := by
  rw [RootsV]; rfl

theorem cell_of {w w' : World} {c : Nat} (h : w'.heap[c]? = w.heap[c]?) (o : Nat) : w'.cell? ⟨c, o, none⟩ = w.cell? ⟨c, o, none⟩ := World.cell?_of_block (w := w) h
theorem frozen_of {w w' : World} {c : Nat} (h : w'.heap[c]? = w.heap[c]?) (o : Nat) : w'.frozen? ⟨c, o, none⟩ = w.frozen? ⟨c, o, none⟩ := World.frozen?_of_block (w := w) h

/-- what D admits stays, and is admitted still -/
structure Stay (D D' : Nat → Prop) (w w' : World) : Prop where
  block : ∀ c, D c → c < w.heap.size → w'.heap[c]? = w.heap[c]? ∧ D' c
  size : w.heap.size ≤ w'.heap.size

theorem DocIn.stay {D D' : Nat → Prop} {w w' : World} {k : F} {a : Option Addr} {cap : Nat} (s : Stay D D' w w') (h : DocIn D w k a cap) : DocIn D' w' k a cap := by
  obtain ⟨hc, fs, h1, h2⟩ := h
  refine ⟨hc, fs, h1.congr (fun c hc o => cell_of (s.block c (h2 c hc).1 (h2 c hc).2.1).1 o), fun c hc => ?_⟩
  obtain ⟨g1, g2, g3⟩ := h2 c hc
  exact ⟨(s.block c g1 g2).2, Nat.lt_of_lt_of_le g2 s.size, fun o => (frozen_of (s.block c g1 g2).1 o).trans (g3 o)⟩

theorem RootsV.stay {D D' : Nat → Prop} {w w' : World} (s : Stay D D' w w') {f : F} : ∀ {xs : List Value}, RootsV D w f xs → RootsV D' w' f xs := by
  induction f with
  | nil => intro xs h; exact h
  | cons o n t k r ihk ihr =>
    intro xs h
    obtain ⟨a, cap, a', cap', ys, rfl, h1, h2, h3⟩ := h
    refine ⟨a, cap, a', cap', ys, rfl, h1.stay s, ?_, ihr h3⟩
    rcases h2 with h2 | ⟨b, zs, g1, g2, g3, g4, g5⟩
    · exact .inl h2
    · have hb := s.block b g2 g3
      exact .inr ⟨b, zs, g1, hb.2, Nat.lt_of_lt_of_le g3 s.size, fun j u hu => (cell_of hb.1 j).trans (g4 j u hu), ihk g5⟩
theorem TreeSub.stay {D D' : Nat → Prop} {w w' : World} (s : Stay D D' w w') {a : Option Addr} {k : F} (h : TreeSub D w a k) : TreeSub D' w' a k := by
  rcases h with h2 | ⟨b, zs, g1, g2, g3, g4, g5⟩
  · exact .inl h2
  · have hb := s.block b g2 g3
    exact .inr ⟨b, zs, g1, hb.2, Nat.lt_of_lt_of_le g3 s.size, fun j u hu => (cell_of hb.1 j).trans (g4 j u hu), g5.stay s⟩

theorem Stay.below {D : Nat → Prop} {w w' : World} (k : Below w.heap.size w w') : Stay D D w w' := ⟨fun c h1 h2 => ⟨k.block c h2, h1⟩, k.size⟩
theorem Stay.imp {D D' : Nat → Prop} (w : World) (h : ∀ c, D c → c < w.heap.size → D' c) : Stay D D' w w := ⟨fun c h1 h2 => ⟨rfl, h c h1 h2⟩, Nat.le_refl _⟩
theorem Stay.trans {D D' D'' : Nat → Prop} {w w' w'' : World} (h : Stay D D' w w') (k : Stay D' D'' w' w'') : Stay D D'' w w'' :=
  ⟨fun c h1 h2 => by
    obtain ⟨e1, e2⟩ := h.block c h1 h2
    obtain ⟨e3, e4⟩ := k.block c e2 (Nat.lt_of_lt_of_le h2 h.size)
    exact ⟨e3.trans e1, e4⟩, Nat.le_trans h.size k.size⟩

theorem Stay.setCell {D : Nat → Prop} {w w0 : World} (h : Stay D D w0 w) {x j : Nat} {u : Value} (hx : ∀ c, D c → c ≠ x) : Stay D D w0 (w.setCell ⟨x, j, none⟩ u) :=
  h.trans ⟨fun c h _ => ⟨Below.heap_setCell _ _ _ _ (hx c h), h⟩, by simp⟩
theorem Stay.drew {D : Nat → Prop} {w w0 : World} (h : Stay D D w0 w) : Stay D D w0 w.drew := h.trans ⟨fun c h _ => ⟨rfl, h⟩, Nat.le_refl _⟩
theorem Stay.refl (D : Nat → Prop) (w : World) : Stay D D w w := ⟨fun c h _ => ⟨rfl, h⟩, Nat.le_refl _⟩

theorem RootsV.len {D : Nat → Prop} {w : World} {f : F} : ∀ {xs : List Value}, RootsV D w f xs → xs.length = f.len * 7 := by
  induction f with
  | nil => intro xs h; rw [RootsV] at h; rw [h]; rfl
  | cons o n t k r ihk ihr =>
    intro xs h
    obtain ⟨a, cap, a', cap', ys, rfl, _, _, h3⟩ := h
    simp only [List.length_append, ihr h3, rootV, List.length_cons, List.length_nil, F.len]
    omega

theorem RootsV.snoc {D : Nat → Prop} {w : World} {o n : Int} {t : ByteArray} {k : F} {a : Option Addr} {cap : Nat} {a' : Option Addr} {cap' : Nat} (h1 : DocIn D w k a cap) (h2 : TreeSub D w a' k) {f : F} : ∀ {xs : List Value}, RootsV D w f xs → RootsV D w (f.app (.cons o n t k .nil)) (xs ++ rootV o n t k a cap a' cap') := by
  induction f with
  | nil =>
    intro xs h
    rw [RootsV] at h
    subst h
    exact RootsV.cons_iff.2 ⟨a, cap, a', cap', [], by simp, h1, h2, rfl⟩
  | cons o1 n1 t1 k1 r ihk ihr =>
    intro xs h
    obtain ⟨b, c, b', c', ys, rfl, g1, g2, g3⟩ := RootsV.cons_iff.1 h
    exact RootsV.cons_iff.2 ⟨b, c, b', c', _, by rw [List.append_assoc], g1, g2, ihr g3⟩

/-- a tree of a list of trees -/
theorem RootsV.at {D : Nat → Prop} {w : World} {o n : Int} {t : ByteArray} {k r : F} {p : F} : ∀ {xs : List Value}, RootsV D w (p.app (.cons o n t k r)) xs → ∃ (a : Option Addr) (cap : Nat) (a' : Option Addr) (cap' : Nat), (∀ j u, (rootV o n t k a cap a' cap')[j]? = some u → xs[p.len * 7 + j]? = some u) ∧ DocIn D w k a cap ∧ TreeSub D w a' k := by
  induction p with
  | nil =>
    intro xs h
    obtain ⟨a, cap, a', cap', ys, rfl, h1, h2, _⟩ := RootsV.cons_iff.1 h
    refine ⟨a, cap, a', cap', fun j u hu => ?_, h1, h2⟩
    have hj : j < (rootV o n t k a cap a' cap').length := (List.getElem?_eq_some_iff.1 hu).1
    simp only [F.len, Nat.zero_mul, Nat.zero_add]
    rw [List.getElem?_append_left hj]; exact hu
  | cons o1 n1 t1 k1 q ihk ihr =>
    intro xs h
    obtain ⟨b, c, b', c', ys, rfl, _, _, g3⟩ := RootsV.cons_iff.1 h
    obtain ⟨a, cap, a', cap', h1, h2, h3⟩ := ihr g3
    refine ⟨a, cap, a', cap', fun j u hu => ?_, h2, h3⟩
    have e : (rootV o1 n1 t1 k1 b c b' c').length = 7 := rfl
    rw [List.getElem?_append_right (by rw [e]; simp only [F.len]; omega), e]
    have := h1 j u hu
    rw [show (F.cons o1 n1 t1 k1 q).len * 7 + j - 7 = q.len * 7 + j by simp only [F.len]; omega]
    exact this

/-- a tree in an array: the cells of its root, and what lies behind -/
theorem TreeSub.at {D : Nat → Prop} {w : World} {A : Option Addr} {o n : Int} {t : ByteArray} {k r : F} {p : F} (h : TreeSub D w A (p.app (.cons o n t k r))) : ∃ (b : Nat) (a : Option Addr) (cap : Nat) (a' : Option Addr) (cap' : Nat), A = some ⟨b, 0, none⟩ ∧ b < w.heap.size ∧
    (w.cell? ⟨b, p.len * 7, none⟩ = some (.int .i64 o) ∧ w.cell? ⟨b, p.len * 7 + 1, none⟩ = some (.int .i64 n) ∧ w.cell? ⟨b, p.len * 7 + 2, none⟩ = some (.string t) ∧ w.cell? ⟨b, p.len * 7 + 3, none⟩ = some (.slice a k.len cap) ∧ w.cell? ⟨b, p.len * 7 + 4, none⟩ = some (.int .i64 (ctD o k : Int)) ∧ w.cell? ⟨b, p.len * 7 + 5, none⟩ = some (.bool (!noD o k)) ∧ w.cell? ⟨b, p.len * 7 + 6, none⟩ = some (.slice a' k.len cap')) ∧ DocIn D w k a cap ∧ TreeSub D w a' k := by
  rcases h with h | ⟨b, zs, rfl, _, hb, hz, hr⟩
  · exfalso
    have := congrArg F.len h
    rw [F.len_app] at this
    simp [F.len] at this
  · obtain ⟨a, cap, a', cap', h1, h2, h3⟩ := hr.at
    exact ⟨b, a, cap, a', cap', rfl, hb, ⟨hz _ _ (h1 0 _ rfl), hz _ _ (h1 1 _ rfl), hz _ _ (h1 2 _ rfl), hz _ _ (h1 3 _ rfl), hz _ _ (h1 4 _ rfl), hz _ _ (h1 5 _ rfl), hz _ _ (h1 6 _ rfl)⟩, h2, h3⟩

/-- v is a slice of the trees of p in a row of the call's own, from block lo on -/
def GrowT (D : Nat → Prop) (w : World) (T : TypeId) (lo : Nat) (v : Value) (p : F) : Prop :=
  ∃ xs, w.ownsRow lo T 7 v p.len xs ∧ RootsV (fun c => D c ∧ v.ownBlock ≠ some c) w p xs

theorem GrowT.start (D : Nat → Prop) (w : World) (T : TypeId) (lo : Nat) : GrowT D w T lo (.slice none 0 0) .nil := ⟨[], w.ownsRow_nil lo T 7, rfl⟩
theorem GrowT.own_lt {D : Nat → Prop} {w : World} {T : TypeId} {lo : Nat} {v : Value} {p : F} (h : GrowT D w T lo v p) : ∀ k, v.ownBlock = some k → lo ≤ k ∧ k < w.heap.size := by
  obtain ⟨xs, h1, _⟩ := h
  exact h1.lt
/-- all that it is made of stays -/
theorem GrowT.stay {D : Nat → Prop} {w w' : World} {T : TypeId} {lo : Nat} {v : Value} {p : F} (h : GrowT D w T lo v p) {x : Nat} (k : But w.heap.size x w w') (hx : v.ownBlock ≠ some x) (hD : ∀ c, D c → c ≠ x) : GrowT D w' T lo v p := by
  obtain ⟨xs, h1, h2⟩ := h
  refine ⟨xs, h1.kept (row := some x) ⟨k.os, k.tape, k.output, k.size, fun i hi hne => k.block i hi (fun e => hne (by rw [e]))⟩ (.inr hx), h2.stay ⟨fun c hc hl => ⟨k.block c hl (hD c hc.1), hc⟩, k.size⟩⟩
theorem GrowT.slice {D : Nat → Prop} {w : World} {T : TypeId} {lo : Nat} {v : Value} {p : F} (h : GrowT D w T lo v p) : ∃ a cap, v = .slice a p.len cap ∧ p.len ≤ cap ∧ cap ≤ maxLen ∧ (∀ D', (∀ c, D c → D' c) → (∀ c, lo ≤ c → D' c) → TreeSub D' w a p) := by
  obtain ⟨xs, h1, h2⟩ := h
  have hc := fun g hg => h1.cells (g := g) hg
  have hlt := h1.lt
  rcases h1.2 with ⟨rfl, h3⟩ | ⟨g, cap, cur, rfl, hb, hg, h4, h5, _⟩
  · have hp := F.len_eq_zero h3
    subst hp
    exact ⟨none, 0, rfl, by simp [F.len], by simp [maxLen], fun D' _ _ => .inl rfl⟩
  · refine ⟨_, cap, rfl, h4, h5, fun D' hD hD2 => ?_⟩
    by_cases hp : p = .nil
    · exact .inl hp
    · refine .inr ⟨g, xs, rfl, hD2 g hb, (hlt g rfl).2, fun j u hu => ?_, h2.stay ⟨fun c hc _ => ⟨rfl, hD c hc.1⟩, Nat.le_refl _⟩⟩
      have := hc g rfl j u hu
      rwa [add_at, Nat.zero_add] at this

/-- the cells of a tree that is not yet stored -/
def zeroV : List Value := [.int .i64 0, .int .i64 0, .string ⟨#[]⟩, .slice none 0 0, .int .i64 0, .bool false, .slice none 0 0]

theorem zero_new (W : World) (T : TypeId) (b : Nat) (hb : W.heap.size = b) : ∀ j u, zeroV[j]? = some u → (W.alloc (.cells #[.int .i64 0, .int .i64 0, .string ⟨#[]⟩, .slice none 0 0, .int .i64 0, .bool false, .slice none 0 0] T)).cell? ⟨b, j, none⟩ = some u := by
  intro j u hu
  rw [← hb, World.cell?_alloc_new, ← Array.getElem?_toList]
  exact hu

/-- a block that an append leaves alone -/
theorem far {U w' : World} {ob : Obj} {v : Value} {b : Nat} (hgr : (U.drew.alloc ob).grownBy w' v.ownBlock) (hb : b < U.heap.size) (hne : v.ownBlock ≠ some b) : (∀ i, w'.cell? ⟨b, i, none⟩ = U.cell? ⟨b, i, none⟩) ∧ (∀ i, w'.frozen? ⟨b, i, none⟩ = U.frozen? ⟨b, i, none⟩) ∧ b < w'.heap.size ∧ w'.heap[b]? = U.heap[b]? := by
  have h : w'.heap[b]? = U.heap[b]? := (hgr.block b (by simp; omega) (fun e => hne e.symm)).trans (Below.heap_alloc _ _ _ (by simpa using hb))
  exact ⟨fun i => cell_of h i, fun i => frozen_of h i, Nat.lt_of_lt_of_le (by simp; omega) hgr.size, h⟩

/-- a row of the call's own, one of its cells written -/
theorem own_set {w : World} {base : Nat} {e : TypeId} {size g cap n : Nat} {xs : List Value} (h : w.ownsRow base e size (.slice (some ⟨g, 0, none⟩) n cap) n xs) (j : Nat) (u : Value) : (w.setCell ⟨g, j, none⟩ u).ownsRow base e size (.slice (some ⟨g, 0, none⟩) n cap) n (xs.set j u) := by
  obtain ⟨hl, h2⟩ := h
  rcases h2 with ⟨e1, _⟩ | ⟨g', cap', cur, e1, hb, hg, hnc, hcm, hcs, ht⟩
  · cases e1
  · injection e1 with e2 e3 e4
    injection e2 with e5
    injection e5 with e6
    subst e6 e4
    refine ⟨by simp [hl], .inr ⟨g, cap, cur.setIfInBounds j u, rfl, hb, by simp [World.setCell, Array.getElem?_modify, hg], hnc, hcm, by simp [hcs], ?_⟩⟩
    rw [Array.toList_setIfInBounds, List.take_set, ht]

/-- the row with a zero tree behind it -/
def Mid (D : Nat → Prop) (w : World) (T : TypeId) (lo g cp : Nat) (p : F) : Prop :=
  lo ≤ g ∧ g < w.heap.size ∧ ∃ xs, w.ownsRow lo T 7 (.slice (some ⟨g, 0, none⟩) (p.len + 1) cp) (p.len + 1) (xs ++ zeroV) ∧ xs.length = p.len * 7 ∧ RootsV (fun c => D c ∧ c ≠ g) w p xs

theorem Mid.stay {D : Nat → Prop} {w w' : World} {T : TypeId} {lo g cp : Nat} {p : F} (h : Mid D w T lo g cp p) {x : Nat} (k : But w.heap.size x w w') (hx : g ≠ x) (hD : ∀ c, D c → c ≠ x) : Mid D w' T lo g cp p := by
  obtain ⟨h0, hg, xs, h1, h2, h3⟩ := h
  refine ⟨h0, Nat.lt_of_lt_of_le hg k.size, xs, h1.kept (row := some x) ⟨k.os, k.tape, k.output, k.size, fun i hi hne => k.block i hi (fun e => hne (by rw [e]))⟩ (.inr (by simp [Value.ownBlock]; exact hx)), h2, h3.stay ⟨fun c hc hl => ⟨k.block c hl (hD c hc.1), hc⟩, k.size⟩⟩

/-- the cells that are to be stored to -/
theorem Mid.cells {D : Nat → Prop} {w : World} {T : TypeId} {lo g cp m : Nat} {p : F} (h : Mid D w T lo g cp p) (hm : p.len = m) :
    (w.cell? ⟨g, m * 7, none⟩ = some (.int .i64 0) ∧ w.cell? ⟨g, m * 7 + 1, none⟩ = some (.int .i64 0) ∧ w.cell? ⟨g, m * 7 + 2, none⟩ = some (.string ⟨#[]⟩) ∧ w.cell? ⟨g, m * 7 + 3, none⟩ = some (.slice none 0 0) ∧ w.cell? ⟨g, m * 7 + 4, none⟩ = some (.int .i64 0) ∧ w.cell? ⟨g, m * 7 + 5, none⟩ = some (.bool false) ∧ w.cell? ⟨g, m * 7 + 6, none⟩ = some (.slice none 0 0)) ∧ (∀ i, w.frozen? ⟨g, i, none⟩ = false) ∧ g < w.heap.size ∧ lo ≤ g := by
  subst hm
  obtain ⟨h0, hg, xs, h1, h2, h3⟩ := h
  have hc : ∀ j u, zeroV[j]? = some u → w.cell? ⟨g, p.len * 7 + j, none⟩ = some u := by
    intro j u hu
    have := h1.cells (g := g) rfl (p.len * 7 + j) u (by rw [List.getElem?_append_right (by omega), h2, Nat.add_sub_cancel_left]; exact hu)
    rwa [add_at, Nat.zero_add] at this
  refine ⟨⟨hc 0 _ rfl, hc 1 _ rfl, hc 2 _ rfl, hc 3 _ rfl, hc 4 _ rfl, hc 5 _ rfl, hc 6 _ rfl⟩, fun i => ?_, hg, h0⟩
  rcases h1.2 with ⟨e, _⟩ | ⟨g', cap', cur, e, _, hr, _⟩
  · cases e
  · injection e with e1; injection e1 with e2; injection e2 with e3
    subst e3
    exact frozen_of_row w _ _ _ _ hr

/-- the tree is stored -/
theorem Mid.put {D : Nat → Prop} {w : World} {T : TypeId} {lo g cp : Nat} {p : F} (h : Mid D w T lo g cp p) {o n : Int} {t : ByteArray} {k : F} {a : Option Addr} {cap : Nat} {a' : Option Addr} {cap' : Nat}
    (hD : DocIn (fun c => D c ∧ c ≠ g) w k a cap) (hT : TreeSub (fun c => D c ∧ c ≠ g) w a' k) :
    GrowT D (w.setCells g (p.len * 7) (rootV o n t k a cap a' cap')) T lo (.slice (some ⟨g, 0, none⟩) (p.len + 1) cp) (p.app (.cons o n t k .nil)) := by
  obtain ⟨h0, hg, xs, h1, h2, h3⟩ := h
  have e : ∀ (i : Nat) (l : List Value) (x : Value), (xs ++ l).set (p.len * 7 + i) x = xs ++ l.set i x := by
    intro i l x
    rw [List.set_append_right _ _ (by omega), show p.len * 7 + i - xs.length = i by omega]
  have q := own_set (own_set (own_set (own_set (own_set (own_set (own_set h1 (p.len * 7 + 0) (.int .i64 o)) (p.len * 7 + 1) (.int .i64 n)) (p.len * 7 + 2) (.string t)) (p.len * 7 + 3) (.slice a k.len cap)) (p.len * 7 + 4) (.int .i64 (ctD o k : Int))) (p.len * 7 + 5) (.bool (!noD o k))) (p.len * 7 + 6) (.slice a' k.len cap')
  rw [e, e, e, e, e, e, e] at q
  have hkb : ∀ c, c ≠ g → (w.setCells g (p.len * 7) (rootV o n t k a cap a' cap')).heap[c]? = w.heap[c]? := by
    intro c hc
    have step : ∀ (W : World) (j : Nat) (u : Value), (W.setCell ⟨g, j, none⟩ u).heap[c]? = W.heap[c]? := fun W j u => Below.heap_setCell _ _ _ _ hc
    exact (step _ _ _).trans ((step _ _ _).trans ((step _ _ _).trans ((step _ _ _).trans ((step _ _ _).trans ((step _ _ _).trans (step _ _ _))))))
  have hsz : (w.setCells g (p.len * 7) (rootV o n t k a cap a' cap')).heap.size = w.heap.size := size_setCells _ _ _ _
  have st : Stay (fun c => D c ∧ c ≠ g) (fun c => D c ∧ (Value.slice (some ⟨g, 0, none⟩) (p.len + 1) cp).ownBlock ≠ some c) w (w.setCells g (p.len * 7) (rootV o n t k a cap a' cap')) :=
    ⟨fun c hc _ => ⟨hkb c hc.2, hc.1, fun e => hc.2 (by simp only [Value.ownBlock, Option.some.injEq] at e; exact e.symm)⟩, Nat.le_of_eq hsz.symm⟩
  refine ⟨xs ++ rootV o n t k a cap a' cap', ?_, RootsV.snoc (hD.stay st) (hT.stay st) (h3.stay st)⟩
  rw [F.len_app]
  exact q

section
variable {P : Program}
/-- The law of an append of one zero tree, at a step of a region that draws its order. -/
theorem step_append_tree {ops : Array Oper} {op : Oper} {ac : Act} {K : Act → World → Prop} {Q : Exit → Act → World → Prop} {E : Prop} {w : World} (hgd : op.guard = none) (s x : Operand) (ty : TypeId)
    (ho : op.op = .call { callee := .builtin .append, args := #[s, x], argTypes := #[ty, ty] })
    {e : TypeId} {i : TypeInfo} {z : Value} {bt : Nat} (ht : P.underlying ty = some (.slice e)) (hi : P.info? e = some i) (hz : i.zero = some z) (h4 : i.size = 7) (h56 : i.bytes = bt) (hby : bt ≤ 200) (hzs : z.cells.size = 7)
    {D : Nat → Prop} {lo : Nat} {v : Value} {p : F} {d c m : Nat} (hsv : ac.eval s = v) (G : GrowT D w e lo v p) (hlo : lo ≤ w.heap.size) (hx : ac.eval x = .slice (some ⟨d, 0, none⟩) 1 c)
    (hc : ∀ j u, zeroV[j]? = some u → w.cell? ⟨d, j, none⟩ = some u) (hl : p.len + 1 ≤ 100000) (H : Nat) (hH : w.heap.size = H) (hm : p.len = m)
    (h : ∀ g cp w', Mid D w' e lo g cp p → w.grownBy w' v.ownBlock → (v.ownBlock = some g ∨ g = H) → K (ac.put op.dst (.slice (some ⟨g, 0, none⟩) (m + 1) cp)) w') :
    if Region.wanted op (yielded ops ac.tmps) = true then Oper.wp P op ac w K Q else E := by
  subst hm
  obtain ⟨xs, h1, h2⟩ := G
  have hnews : ∀ j u, zeroV[j]? = some u → w.cell? ((⟨d, 0, none⟩ : Addr).add j) = some u := by
    intro j u hu
    rw [add_at, Nat.zero_add]
    exact hc j u hu
  have hone : ∀ u ∈ zeroV, u.oneCell' = true := by simp [zeroV, Value.oneCell']
  refine step_append_lies (P := P) (w := w) hgd s x ty ho lo e i z 7 bt ht hi hz h4 h56 hzs (by omega) v p.len xs hsv h1 ⟨d, 0, none⟩ 1 c zeroV hx rfl hnews hone (by omega) (by unfold maxLen; omega) (Nat.le_trans (Nat.mul_le_mul_left _ hby) (by omega)) hlo H hH ?_
  intro g cp w' h3 h5 h6 h7
  have hgl : lo ≤ g := by
    rcases h6 with h6 | h6
    · exact (h1.lt g h6).1
    · omega
  refine h g cp w' ⟨hgl, h7, xs, h3, h1.1, h2.stay ⟨fun c hc hl => ⟨h5.block c hl (fun e => hc.2 e.symm), hc.1, fun e => ?_⟩, h5.size⟩⟩ h5 h6
  subst e
  rcases h6 with h6 | h6
  · exact hc.2 h6
  · omega
end

end Go.Proofs.Ytpiaiandjnpdfaa.Tr

