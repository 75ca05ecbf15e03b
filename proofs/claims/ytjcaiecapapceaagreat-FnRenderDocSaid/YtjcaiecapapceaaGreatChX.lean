import Derived.Test.YtjcaiecapapceaaGreatCpA
import Derived.Test.YtjcaiecapapceaaGreatShX
import Derived.Test.YtjcaiecapapceaaGreatDcK
/-
 How the program's tree of a document's choices lies in memory; nothing here speaks of the program.
-/
set_option linter.unusedVariables false
set_option linter.unusedSimpArgs false
set_option maxRecDepth 100000
set_option maxHeartbeats 6400000
namespace Go.Proofs.YtjcaiecapapceaaGreat.Tr
open Go.RowKit P1 Wid ChP
def rootV (o n : Int) (t : ByteArray) (k : F) (a : Option Addr) (cap : Nat) (a' : Option Addr) (cap' : Nat) : List Value :=
 [.int .i64 o, .int .i64 n, .string t, .slice a k.len cap, .int .i64 (ctD o k : Int), .bool (!noD o k), .slice a' k.len cap']
def DocIn (D : Nat → Prop) (w : World) (k : F) (a : Option Addr) (cap : Nat) : Prop := k.len ≤ cap ∧ ∃ fs, SubAt w a k fs ∧ ∀ c ∈ fs, D c ∧ c < w.heap.size ∧ ∀ o, w.frozen? ⟨c, o, none⟩ = false
def RootsV (D : Nat → Prop) (w : World) : F → List Value → Prop
 | .nil, xs => xs = []
 | .cons o n t k r, xs => ∃ (a : Option Addr) (cap : Nat) (a' : Option Addr) (cap' : Nat) (ys : List Value), xs = rootV o n t k a cap a' cap' ++ ys ∧ DocIn D w k a cap ∧
   (k = .nil ∨ ∃ (b : Nat) (zs : List Value), a' = some ⟨b, 0, none⟩ ∧ D b ∧ b < w.heap.size ∧ (∀ j u, zs[j]? = some u → w.cell? ⟨b, j, none⟩ = some u) ∧ RootsV D w k zs) ∧ RootsV D w r ys
def TreeSub (D : Nat → Prop) (w : World) (a : Option Addr) (k : F) : Prop :=
 k = .nil ∨ ∃ (b : Nat) (zs : List Value), a = some ⟨b, 0, none⟩ ∧ D b ∧ b < w.heap.size ∧ (∀ j u, zs[j]? = some u → w.cell? ⟨b, j, none⟩ = some u) ∧ RootsV D w k zs
theorem RootsV.cons_iff {D : Nat → Prop} {w : World} {o n : Int} {t : ByteArray} {k r : F} {xs : List Value} : RootsV D w (.cons o n t k r) xs ↔ ∃ (a : Option Addr) (cap : Nat) (a' : Option Addr) (cap' : Nat) (ys : List Value), xs = rootV o n t k a cap a' cap' ++ ys ∧ DocIn D w k a cap ∧ TreeSub D w a' k ∧ RootsV D w r ys := by
 rw [RootsV]; rfl
theorem cell_of {w w' : World} {c : Nat} (h : w'.heap[c]? = w.heap[c]?) (o : Nat) : w'.cell? ⟨c, o, none⟩ = w.cell? ⟨c, o, none⟩ := World.cell?_of_block (w := w) h
theorem frozen_of {w w' : World} {c : Nat} (h : w'.heap[c]? = w.heap[c]?) (o : Nat) : w'.frozen? ⟨c, o, none⟩ = w.frozen? ⟨c, o, none⟩ := World.frozen?_of_block (w := w) h
structure Stay (D D' : Nat → Prop) (w w' : World) : Prop where
 block : ∀ c, D c → c < w.heap.size → w'.heap[c]? = w.heap[c]? ∧ D' c
 size : w.heap.size ≤ w'.heap.size
theorem DocIn.stay {D D' : Nat → Prop} {w w' : World} {k : F} {a : Option Addr} {cap : Nat} (s : Stay D D' w w') (h : DocIn D w k a cap) : DocIn D' w' k a cap := by
 obtain ⟨hc, fs, h1, h2⟩ := h
 refine ⟨hc, fs, h1.congr (fun c hc o => cell_of (s.block c (h2 c hc).1 (h2 c hc).2.1).1 o), fun c hc => ?_⟩
 obtain ⟨g1, g2, g3⟩ := h2 c hc
 exact ⟨(s.block c g1 g2).2, Nat.lt_of_lt_of_le g2 s.size, fun o => (frozen_of (s.block c g1 g2).1 o).trans (g3 o)⟩
theorem RootsV.stay {D D' : Nat → Prop} {w w' : World} (s : Stay D D' w w') {f : F} : ∀ {xs : List Value}, RootsV D w f xs → RootsV D' w' f xs := by
 induction f with
 | nil => intro xs h; exact h
 | cons o n t k r ihk ihr =>
   intro xs h
   obtain ⟨a, cap, a', cap', ys, rfl, h1, h2, h3⟩ := h
   refine ⟨a, cap, a', cap', ys, rfl, h1.stay s, ?_, ihr h3⟩
   rcases h2 with h2 | ⟨b, zs, g1, g2, g3, g4, g5⟩
   ·exact .inl h2
   ·have hb := s.block b g2 g3
    exact .inr ⟨b, zs, g1, hb.2, Nat.lt_of_lt_of_le g3 s.size, fun j u hu => (cell_of hb.1 j).trans (g4 j u hu), ihk g5⟩
theorem TreeSub.stay {D D' : Nat → Prop} {w w' : World} (s : Stay D D' w w') {a : Option Addr} {k : F} (h : TreeSub D w a k) : TreeSub D' w' a k := by
 rcases h with h2 | ⟨b, zs, g1, g2, g3, g4, g5⟩
 ·exact .inl h2
 ·have hb := s.block b g2 g3
  exact .inr ⟨b, zs, g1, hb.2, Nat.lt_of_lt_of_le g3 s.size, fun j u hu => (cell_of hb.1 j).trans (g4 j u hu), g5.stay s⟩
theorem Stay.below {D : Nat → Prop} {w w' : World} (k : Below w.heap.size w w') : Stay D D w w' := ⟨fun c h1 h2 => ⟨k.block c h2, h1⟩, k.size⟩
theorem Stay.imp {D D' : Nat → Prop} (w : World) (h : ∀ c, D c → c < w.heap.size → D' c) : Stay D D' w w := ⟨fun c h1 h2 => ⟨rfl, h c h1 h2⟩, Nat.le_refl _⟩
theorem Stay.trans {D D' D'' : Nat → Prop} {w w' w'' : World} (h : Stay D D' w w') (k : Stay D' D'' w' w'') : Stay D D'' w w'' :=
 ⟨fun c h1 h2 => by
  obtain ⟨e1, e2⟩ := h.block c h1 h2
  obtain ⟨e3, e4⟩ := k.block c e2 (Nat.lt_of_lt_of_le h2 h.size)
  exact ⟨e3.trans e1, e4⟩, Nat.le_trans h.size k.size⟩
theorem Stay.setCell {D : Nat → Prop} {w w0 : World} (h : Stay D D w0 w) {x j : Nat} {u : Value} (hx : ∀ c, D c → c ≠ x) : Stay D D w0 (w.setCell ⟨x, j, none⟩ u) :=
 h.trans ⟨fun c h _ => ⟨Below.heap_setCell _ _ _ _ (hx c h), h⟩, by simp⟩
theorem Stay.drew {D : Nat → Prop} {w w0 : World} (h : Stay D D w0 w) : Stay D D w0 w.drew := h.trans ⟨fun c h _ => ⟨rfl, h⟩, Nat.le_refl _⟩
theorem Stay.refl (D : Nat → Prop) (w : World) : Stay D D w w := ⟨fun c h _ => ⟨rfl, h⟩, Nat.le_refl _⟩
theorem RootsV.snoc {D : Nat → Prop} {w : World} {o n : Int} {t : ByteArray} {k : F} {a : Option Addr} {cap : Nat} {a' : Option Addr} {cap' : Nat} (h1 : DocIn D w k a cap) (h2 : TreeSub D w a' k) {f : F} : ∀ {xs : List Value}, RootsV D w f xs → RootsV D w (f.app (.cons o n t k .nil)) (xs ++ rootV o n t k a cap a' cap') := by
 induction f with
 | nil =>
   intro xs h
   rw [RootsV] at h
   subst h
   exact RootsV.cons_iff.2 ⟨a, cap, a', cap', [], by simp, h1, h2, rfl⟩
 | cons o1 n1 t1 k1 r ihk ihr =>
   intro xs h
   obtain ⟨b, c, b', c', ys, rfl, g1, g2, g3⟩ := RootsV.cons_iff.1 h
   exact RootsV.cons_iff.2 ⟨b, c, b', c', _, by rw [List.append_assoc], g1, g2, ihr g3⟩
theorem RootsV.at {D : Nat → Prop} {w : World} {o n : Int} {t : ByteArray} {k r : F} {p : F} : ∀ {xs : List Value}, RootsV D w (p.app (.cons o n t k r)) xs → ∃ (a : Option Addr) (cap : Nat) (a' : Option Addr) (cap' : Nat), (∀ j u, (rootV o n t k a cap a' cap')[j]? = some u → xs[p.len * 7 + j]? = some u) ∧ DocIn D w k a cap ∧ TreeSub D w a' k := by
 induction p with
 | nil =>
   intro xs h
   obtain ⟨a, cap, a', cap', ys, rfl, h1, h2, _⟩ := RootsV.cons_iff.1 h
   refine ⟨a, cap, a', cap', fun j u hu => ?_, h1, h2⟩
   have hj : j < (rootV o n t k a cap a' cap').length := (List.getElem?_eq_some_iff.1 hu).1
   simp only [F.len, Nat.zero_mul, Nat.zero_add]
   rw [List.getElem?_append_left hj]; exact hu
 | cons o1 n1 t1 k1 q ihk ihr =>
   intro xs h
   obtain ⟨b, c, b', c', ys, rfl, _, _, g3⟩ := RootsV.cons_iff.1 h
   obtain ⟨a, cap, a', cap', h1, h2, h3⟩ := ihr g3
   refine ⟨a, cap, a', cap', fun j u hu => ?_, h2, h3⟩
   have e : (rootV o1 n1 t1 k1 b c b' c').length = 7 := rfl
   rw [List.getElem?_append_right (by rw [e]; simp only [F.len]; omega), e]
   have := h1 j u hu
   rw [show (F.cons o1 n1 t1 k1 q).len * 7 + j - 7 = q.len * 7 + j by simp only [F.len]; omega]
   exact this
theorem TreeSub.at {D : Nat → Prop} {w : World} {A : Option Addr} {o n : Int} {t : ByteArray} {k r : F} {p : F} (h : TreeSub D w A (p.app (.cons o n t k r))) : ∃ (b : Nat) (a : Option Addr) (cap : Nat) (a' : Option Addr) (cap' : Nat), A = some ⟨b, 0, none⟩ ∧ b < w.heap.size ∧
  (w.cell? ⟨b, p.len * 7, none⟩ = some (.int .i64 o) ∧ w.cell? ⟨b, p.len * 7 + 1, none⟩ = some (.int .i64 n) ∧ w.cell? ⟨b, p.len * 7 + 2, none⟩ = some (.string t) ∧ w.cell? ⟨b, p.len * 7 + 3, none⟩ = some (.slice a k.len cap) ∧ w.cell? ⟨b, p.len * 7 + 4, none⟩ = some (.int .i64 (ctD o k : Int)) ∧ w.cell? ⟨b, p.len * 7 + 5, none⟩ = some (.bool (!noD o k)) ∧ w.cell? ⟨b, p.len * 7 + 6, none⟩ = some (.slice a' k.len cap')) ∧ DocIn D w k a cap ∧ TreeSub D w a' k := by
 rcases h with h | ⟨b, zs, rfl, _, hb, hz, hr⟩
 ·exfalso
  have := congrArg F.len h
  rw [F.len_app] at this
  simp [F.len] at this
 ·obtain ⟨a, cap, a', cap', h1, h2, h3⟩ := hr.at
  exact ⟨b, a, cap, a', cap', rfl, hb, ⟨hz _ _ (h1 0 _ rfl), hz _ _ (h1 1 _ rfl), hz _ _ (h1 2 _ rfl), hz _ _ (h1 3 _ rfl), hz _ _ (h1 4 _ rfl), hz _ _ (h1 5 _ rfl), hz _ _ (h1 6 _ rfl)⟩, h2, h3⟩
def GrowT (D : Nat → Prop) (w : World) (T : TypeId) (lo : Nat) (v : Value) (p : F) : Prop :=
 ∃ xs, w.ownsRow lo T 7 v p.len xs ∧ RootsV (fun c => D c ∧ v.ownBlock ≠ some c) w p xs
theorem GrowT.start (D : Nat → Prop) (w : World) (T : TypeId) (lo : Nat) : GrowT D w T lo (.slice none 0 0) .nil := ⟨[], w.ownsRow_nil lo T 7, rfl⟩
theorem GrowT.own_lt {D : Nat → Prop} {w : World} {T : TypeId} {lo : Nat} {v : Value} {p : F} (h : GrowT D w T lo v p) : ∀ k, v.ownBlock = some k → lo ≤ k ∧ k < w.heap.size := by
 obtain ⟨xs, h1, _⟩ := h
 exact h1.lt
theorem GrowT.stay {D : Nat → Prop} {w w' : World} {T : TypeId} {lo : Nat} {v : Value} {p : F} (h : GrowT D w T lo v p) {x : Nat} (k : But w.heap.size x w w') (hx : v.ownBlock ≠ some x) (hD : ∀ c, D c → c ≠ x) : GrowT D w' T lo v p := by
 obtain ⟨xs, h1, h2⟩ := h
 refine ⟨xs, h1.kept (row := some x) ⟨k.os, k.tape, k.output, k.size, fun i hi hne => k.block i hi (fun e => hne (by rw [e]))⟩ (.inr hx), h2.stay ⟨fun c hc hl => ⟨k.block c hl (hD c hc.1), hc⟩, k.size⟩⟩
theorem GrowT.slice {D : Nat → Prop} {w : World} {T : TypeId} {lo : Nat} {v : Value} {p : F} (h : GrowT D w T lo v p) : ∃ a cap, v = .slice a p.len cap ∧ p.len ≤ cap ∧ cap ≤ maxLen ∧ (∀ D', (∀ c, D c → D' c) → (∀ c, lo ≤ c → D' c) → TreeSub D' w a p) := by
 obtain ⟨xs, h1, h2⟩ := h
 have hc := fun g hg => h1.cells (g := g) hg
 have hlt := h1.lt
 rcases h1.2 with ⟨rfl, h3⟩ | ⟨g, cap, cur, rfl, hb, hg, h4, h5, _⟩
 ·have hp := F.len_eq_zero h3
  subst hp
  exact ⟨none, 0, rfl, by simp [F.len], by simp [maxLen], fun D' _ _ => .inl rfl⟩
 ·refine ⟨_, cap, rfl, h4, h5, fun D' hD hD2 => ?_⟩
  by_cases hp : p = .nil
  ·exact .inl hp
  ·refine .inr ⟨g, xs, rfl, hD2 g hb, (hlt g rfl).2, fun j u hu => ?_, h2.stay ⟨fun c hc _ => ⟨rfl, hD c hc.1⟩, Nat.le_refl _⟩⟩
   have := hc g rfl j u hu
   rwa [add_at, Nat.zero_add] at this
def zeroV : List Value := [.int .i64 0, .int .i64 0, .string ⟨#[]⟩, .slice none 0 0, .int .i64 0, .bool false, .slice none 0 0]
theorem zero_new (W : World) (T : TypeId) (b : Nat) (hb : W.heap.size = b) : ∀ j u, zeroV[j]? = some u → (W.alloc (.cells #[.int .i64 0, .int .i64 0, .string ⟨#[]⟩, .slice none 0 0, .int .i64 0, .bool false, .slice none 0 0] T)).cell? ⟨b, j, none⟩ = some u := by
 intro j u hu
 rw [← hb, World.cell?_alloc_new, ← Array.getElem?_toList]
 exact hu
theorem far {U w' : World} {ob : Obj} {v : Value} {b : Nat} (hgr : (U.drew.alloc ob).grownBy w' v.ownBlock) (hb : b < U.heap.size) (hne : v.ownBlock ≠ some b) : (∀ i, w'.cell? ⟨b, i, none⟩ = U.cell? ⟨b, i, none⟩) ∧ (∀ i, w'.frozen? ⟨b, i, none⟩ = U.frozen? ⟨b, i, none⟩) ∧ b < w'.heap.size ∧ w'.heap[b]? = U.heap[b]? := by
 have h : w'.heap[b]? = U.heap[b]? := (hgr.block b (by simp; omega) (fun e => hne e.symm)).trans (Below.heap_alloc _ _ _ (by simpa using hb))
 exact ⟨fun i => cell_of h i, fun i => frozen_of h i, Nat.lt_of_lt_of_le (by simp; omega) hgr.size, h⟩
theorem own_set {w : World} {base : Nat} {e : TypeId} {size g cap n : Nat} {xs : List Value} (h : w.ownsRow base e size (.slice (some ⟨g, 0, none⟩) n cap) n xs) (j : Nat) (u : Value) : (w.setCell ⟨g, j, none⟩ u).ownsRow base e size (.slice (some ⟨g, 0, none⟩) n cap) n (xs.set j u) := by
 obtain ⟨hl, h2⟩ := h
 rcases h2 with ⟨e1, _⟩ | ⟨g', cap', cur, e1, hb, hg, hnc, hcm, hcs, ht⟩
 ·cases e1
 ·injection e1 with e2 e3 e4
  injection e2 with e5
  injection e5 with e6
  subst e6 e4
  refine ⟨by simp [hl], .inr ⟨g, cap, cur.setIfInBounds j u, rfl, hb, by simp [World.setCell, Array.getElem?_modify, hg], hnc, hcm, by simp [hcs], ?_⟩⟩
  rw [Array.toList_setIfInBounds, List.take_set, ht]
def Mid (D : Nat → Prop) (w : World) (T : TypeId) (lo g cp : Nat) (p : F) : Prop :=
 lo ≤ g ∧ g < w.heap.size ∧ ∃ xs, w.ownsRow lo T 7 (.slice (some ⟨g, 0, none⟩) (p.len + 1) cp) (p.len + 1) (xs ++ zeroV) ∧ xs.length = p.len * 7 ∧ RootsV (fun c => D c ∧ c ≠ g) w p xs
theorem Mid.cells {D : Nat → Prop} {w : World} {T : TypeId} {lo g cp m : Nat} {p : F} (h : Mid D w T lo g cp p) (hm : p.len = m) :
  (w.cell? ⟨g, m * 7, none⟩ = some (.int .i64 0) ∧ w.cell? ⟨g, m * 7 + 1, none⟩ = some (.int .i64 0) ∧ w.cell? ⟨g, m * 7 + 2, none⟩ = some (.string ⟨#[]⟩) ∧ w.cell? ⟨g, m * 7 + 3, none⟩ = some (.slice none 0 0) ∧ w.cell? ⟨g, m * 7 + 4, none⟩ = some (.int .i64 0) ∧ w.cell? ⟨g, m * 7 + 5, none⟩ = some (.bool false) ∧ w.cell? ⟨g, m * 7 + 6, none⟩ = some (.slice none 0 0)) ∧ (∀ i, w.frozen? ⟨g, i, none⟩ = false) ∧ g < w.heap.size ∧ lo ≤ g := by
 subst hm
 obtain ⟨h0, hg, xs, h1, h2, h3⟩ := h
 have hc : ∀ j u, zeroV[j]? = some u → w.cell? ⟨g, p.len * 7 + j, none⟩ = some u := by
  intro j u hu
  have := h1.cells (g := g) rfl (p.len * 7 + j) u (by rw [List.getElem?_append_right (by omega), h2, Nat.add_sub_cancel_left]; exact hu)
  rwa [add_at, Nat.zero_add] at this
 refine ⟨⟨hc 0 _ rfl, hc 1 _ rfl, hc 2 _ rfl, hc 3 _ rfl, hc 4 _ rfl, hc 5 _ rfl, hc 6 _ rfl⟩, fun i => ?_, hg, h0⟩
 rcases h1.2 with ⟨e, _⟩ | ⟨g', cap', cur, e, _, hr, _⟩
 ·cases e
 ·injection e with e1; injection e1 with e2; injection e2 with e3
  subst e3
  exact frozen_of_row w _ _ _ _ hr
theorem Mid.put {D : Nat → Prop} {w : World} {T : TypeId} {lo g cp : Nat} {p : F} (h : Mid D w T lo g cp p) {o n : Int} {t : ByteArray} {k : F} {a : Option Addr} {cap : Nat} {a' : Option Addr} {cap' : Nat}
  (hD : DocIn (fun c => D c ∧ c ≠ g) w k a cap) (hT : TreeSub (fun c => D c ∧ c ≠ g) w a' k) :
  GrowT D (w.setCells g (p.len * 7) (rootV o n t k a cap a' cap')) T lo (.slice (some ⟨g, 0, none⟩) (p.len + 1) cp) (p.app (.cons o n t k .nil)) := by
 obtain ⟨h0, hg, xs, h1, h2, h3⟩ := h
 have e : ∀ (i : Nat) (l : List Value) (x : Value), (xs ++ l).set (p.len * 7 + i) x = xs ++ l.set i x := by
  intro i l x
  rw [List.set_append_right _ _ (by omega), show p.len * 7 + i - xs.length = i by omega]
 have q := own_set (own_set (own_set (own_set (own_set (own_set (own_set h1 (p.len * 7 + 0) (.int .i64 o)) (p.len * 7 + 1) (.int .i64 n)) (p.len * 7 + 2) (.string t)) (p.len * 7 + 3) (.slice a k.len cap)) (p.len * 7 + 4) (.int .i64 (ctD o k : Int))) (p.len * 7 + 5) (.bool (!noD o k))) (p.len * 7 + 6) (.slice a' k.len cap')
 rw [e, e, e, e, e, e, e] at q
 have hkb : ∀ c, c ≠ g → (w.setCells g (p.len * 7) (rootV o n t k a cap a' cap')).heap[c]? = w.heap[c]? := by
  intro c hc
  have step : ∀ (W : World) (j : Nat) (u : Value), (W.setCell ⟨g, j, none⟩ u).heap[c]? = W.heap[c]? := fun W j u => Below.heap_setCell _ _ _ _ hc
  exact (step _ _ _).trans ((step _ _ _).trans ((step _ _ _).trans ((step _ _ _).trans ((step _ _ _).trans ((step _ _ _).trans (step _ _ _))))))
 have hsz : (w.setCells g (p.len * 7) (rootV o n t k a cap a' cap')).heap.size = w.heap.size := size_setCells _ _ _ _
 have st : Stay (fun c => D c ∧ c ≠ g) (fun c => D c ∧ (Value.slice (some ⟨g, 0, none⟩) (p.len + 1) cp).ownBlock ≠ some c) w (w.setCells g (p.len * 7) (rootV o n t k a cap a' cap')) :=
  ⟨fun c hc _ => ⟨hkb c hc.2, hc.1, fun e => hc.2 (by simp only [Value.ownBlock, Option.some.injEq] at e; exact e.symm)⟩, Nat.le_of_eq hsz.symm⟩
 refine ⟨xs ++ rootV o n t k a cap a' cap', ?_, RootsV.snoc (hD.stay st) (hT.stay st) (h3.stay st)⟩
 rw [F.len_app]
 exact q
section
variable {P : Program}
theorem step_append_tree {ops : Array Oper} {op : Oper} {ac : Act} {K : Act → World → Prop} {Q : Exit → Act → World → Prop} {E : Prop} {w : World} (hgd : op.guard = none) (s x : Operand) (ty : TypeId)
  (ho : op.op = .call { callee := .builtin .append, args := #[s, x], argTypes := #[ty, ty] })
  {e : TypeId} {i : TypeInfo} {z : Value} {bt : Nat} (ht : P.underlying ty = some (.slice e)) (hi : P.info? e = some i) (hz : i.zero = some z) (h4 : i.size = 7) (h56 : i.bytes = bt) (hby : bt ≤ 200) (hzs : z.cells.size = 7)
  {D : Nat → Prop} {lo : Nat} {v : Value} {p : F} {d c m : Nat} (hsv : ac.eval s = v) (G : GrowT D w e lo v p) (hlo : lo ≤ w.heap.size) (hx : ac.eval x = .slice (some ⟨d, 0, none⟩) 1 c)
  (hc : ∀ j u, zeroV[j]? = some u → w.cell? ⟨d, j, none⟩ = some u) (hl : p.len + 1 ≤ 100000) (H : Nat) (hH : w.heap.size = H) (hm : p.len = m)
  (h : ∀ g cp w', Mid D w' e lo g cp p → w.grownBy w' v.ownBlock → (v.ownBlock = some g ∨ g = H) → K (ac.put op.dst (.slice (some ⟨g, 0, none⟩) (m + 1) cp)) w') :
  if Region.wanted op (yielded ops ac.tmps) = true then Oper.wp P op ac w K Q else E := by
 subst hm
 obtain ⟨xs, h1, h2⟩ := G
 have hnews : ∀ j u, zeroV[j]? = some u → w.cell? ((⟨d, 0, none⟩ : Addr).add j) = some u := by
  intro j u hu
  rw [add_at, Nat.zero_add]
  exact hc j u hu
 have hone : ∀ u ∈ zeroV, u.oneCell' = true := by simp [zeroV, Value.oneCell']
 refine step_append_lies (P := P) (w := w) hgd s x ty ho lo e i z 7 bt ht hi hz h4 h56 hzs (by omega) v p.len xs hsv h1 ⟨d, 0, none⟩ 1 c zeroV hx rfl hnews hone (by omega) (by unfold maxLen; omega) (Nat.le_trans (Nat.mul_le_mul_left _ hby) (by omega)) hlo H hH ?_
 intro g cp w' h3 h5 h6 h7
 have hgl : lo ≤ g := by
  rcases h6 with h6 | h6
  ·exact (h1.lt g h6).1
  ·omega
 refine h g cp w' ⟨hgl, h7, xs, h3, h1.1, h2.stay ⟨fun c hc hl => ⟨h5.block c hl (fun e => hc.2 e.symm), hc.1, fun e => ?_⟩, h5.size⟩⟩ h5 h6
 subst e
 rcases h6 with h6 | h6
 ·exact hc.2 h6
 ·omega
end
end Go.Proofs.YtjcaiecapapceaaGreat.Tr
namespace Go.Proofs.YtjcaiecapapceaaGreat.ChT
open Go.RowKit P1 Cnt CntC Wid ChP Tr
theorem info : (Tryz.prog.info? 120).map (fun i => (i.zero, i.size, i.bytes)) = some (some (.agg #[.int .i64 0, .int .i64 0, .string ⟨#[]⟩, .slice none 0 0, .int .i64 0, .bool false, .slice none 0 0]), 7, 96) := by kernel_rfl
theorem flattens (w : World) (b off : Nat) (o : Int) (h : Bool) (h0 : w.cell? ⟨b, off, none⟩ = some (.int .i64 o)) (h5 : w.cell? ⟨b, off + 5, none⟩ = some (.bool h)) :
  Calls Tryz.prog 173 #[.pointer (some ⟨b, off, none⟩)] w fun e w' => e = .returned (.bool (o == 8 && !h)) ∧ w = w' := by
 cases hoo : (o == 8) with
 | true =>
   have ho : o = 8 := by simpa using hoo
   subst ho
   clear hoo
   go_enter Tryz.func173, Tryz.ntmps173
   go_wp2_with fail
   go_ret
   exact ⟨by simp, rfl⟩
 | false =>
   have ho : o ≠ 8 := by simpa using hoo
   go_enter Tryz.func173, Tryz.ntmps173
   go_wp2_with fail
   go_ret
   exact ⟨by simp, rfl⟩
def PartY (B : Nat) (w : World) (o n : Int) (t : ByteArray) (k : F) (a : Option Addr) (cap : Nat) (e : Ending) (w' : World) : Prop := ∃ (a' : Option Addr) (cap' : Nat), e = .returned (.tuple #[.agg #[.int .i64 o, .int .i64 n, .string t, .slice a k.len cap, .int .i64 (ctD o k : Int), .bool (!noD o k), .slice a' k.len cap'], .bool true]) ∧ TreeSub (fun c => c < B ∨ w.heap.size ≤ c) w' a' k ∧ Below w.heap.size w w'
def PartN (w : World) (e : Ending) (w' : World) : Prop := ∃ (o n : Int) (t : ByteArray) (a : Option Addr) (l cap : Nat) (x : Int) (y : Bool) (a' : Option Addr) (l' cap' : Nat), e = .returned (.tuple #[.agg #[.int .i64 o, .int .i64 n, .string t, .slice a l cap, .int .i64 x, .bool y, .slice a' l' cap'], .bool false]) ∧ Below w.heap.size w w'
def PartR (B : Nat) (w : World) (o n : Int) (t : ByteArray) (k : F) (a : Option Addr) (cap : Nat) (e : Ending) (w' : World) : Prop := (ctD o k ≤ 100000 → PartY B w o n t k a cap e w') ∧ (¬ ctD o k ≤ 100000 → PartN w e w')
def PartS (d : Nat) : Prop := ∀ (B : Nat) (o n : Int) (t : ByteArray) (k : F), okD d o n t k = true → ∀ (w : World) (a : Option Addr) (cap : Nat) (fs : List Nat), SubAt w a k fs → (∀ c ∈ fs, c < B ∧ ∀ o, w.frozen? ⟨c, o, none⟩ = false) → B ≤ w.heap.size → k.len ≤ cap →
 Calls Tryz.prog 136 #[.agg #[.int .i64 o, .int .i64 n, .string t, .slice a k.len cap]] w (PartR B w o n t k a cap)
def Root (w : World) (b : Nat) (o n : Int) (t : ByteArray) (a : Option Addr) (l cap : Nat) (x : Int) (y : Bool) (a' : Option Addr) (l' cap' : Nat) : Prop :=
 w.cell? ⟨b, 0, none⟩ = some (.int .i64 o) ∧ w.cell? ⟨b, 1, none⟩ = some (.int .i64 n) ∧ w.cell? ⟨b, 2, none⟩ = some (.string t) ∧ w.cell? ⟨b, 3, none⟩ = some (.slice a l cap) ∧ w.cell? ⟨b, 4, none⟩ = some (.int .i64 x) ∧ w.cell? ⟨b, 5, none⟩ = some (.bool y) ∧ w.cell? ⟨b, 6, none⟩ = some (.slice a' l' cap')
def Loose (w : World) (b : Nat) : Prop := w.frozen? ⟨b, 0, none⟩ = false ∧ w.frozen? ⟨b, 1, none⟩ = false ∧ w.frozen? ⟨b, 2, none⟩ = false ∧ w.frozen? ⟨b, 3, none⟩ = false ∧ w.frozen? ⟨b, 4, none⟩ = false ∧ w.frozen? ⟨b, 5, none⟩ = false ∧ w.frozen? ⟨b, 6, none⟩ = false
theorem Root.new (w : World) (T : TypeId) (o n : Int) (t : ByteArray) (a : Option Addr) (l cap : Nat) (x : Int) (y : Bool) (a' : Option Addr) (l' cap' : Nat) : Root (w.alloc (.cells #[.int .i64 o, .int .i64 n, .string t, .slice a l cap, .int .i64 x, .bool y, .slice a' l' cap'] T)) w.heap.size o n t a l cap x y a' l' cap' := by
 refine ⟨?_, ?_, ?_, ?_, ?_, ?_, ?_⟩ <;> (rw [World.cell?_alloc_new]; rfl)
theorem Loose.new (w : World) (C : Array Value) (T : TypeId) : Loose (w.alloc (.cells C T)) w.heap.size := by
 refine ⟨?_, ?_, ?_, ?_, ?_, ?_, ?_⟩ <;> exact World.frozen?_alloc_new _ _ _ _
theorem Root.cong {w w' : World} {b : Nat} {o n : Int} {t : ByteArray} {a : Option Addr} {l cap : Nat} {x : Int} {y : Bool} {a' : Option Addr} {l' cap' : Nat} (h : Root w b o n t a l cap x y a' l' cap') (e : ∀ i, w'.cell? ⟨b, i, none⟩ = w.cell? ⟨b, i, none⟩) : Root w' b o n t a l cap x y a' l' cap' :=
 ⟨(e _).trans h.1, (e _).trans h.2.1, (e _).trans h.2.2.1, (e _).trans h.2.2.2.1, (e _).trans h.2.2.2.2.1, (e _).trans h.2.2.2.2.2.1, (e _).trans h.2.2.2.2.2.2⟩
theorem Loose.cong {w w' : World} {b : Nat} (h : Loose w b) (e : ∀ i, w'.frozen? ⟨b, i, none⟩ = w.frozen? ⟨b, i, none⟩) : Loose w' b :=
 ⟨(e _).trans h.1, (e _).trans h.2.1, (e _).trans h.2.2.1, (e _).trans h.2.2.2.1, (e _).trans h.2.2.2.2.1, (e _).trans h.2.2.2.2.2.1, (e _).trans h.2.2.2.2.2.2⟩
structure Inv (B : Nat) (w wr : World) (o n : Int) (t : ByteArray) (a : Option Addr) (L cap : Nat) (p : F) (h0 : Bool) (v : Value) : Prop where
 below : Below w.heap.size w wr
 size : w.heap.size + 3 ≤ wr.heap.size
 root : ∃ (a' : Option Addr) (c' : Nat), v = .slice a' p.len c' ∧ Root wr (w.heap.size + 2) o n t a L cap (ctF p : Int) (h0 || !noF p) a' p.len c'
 loose : Loose wr (w.heap.size + 2)
 res : Root wr (w.heap.size + 1) 0 0 ⟨#[]⟩ none 0 0 0 false none 0 0
 resl : Loose wr (w.heap.size + 1)
 grow : GrowT (fun c => c < B ∨ w.heap.size + 3 ≤ c) wr 120 (w.heap.size + 3) v p
 small : ctF p ≤ 100000
theorem Inv.ext {B : Nat} {w wr W : World} {o n : Int} {t : ByteArray} {a : Option Addr} {L cap : Nat} {p : F} {h0 : Bool} {v : Value} (h : Inv B w wr o n t a L cap p h0 v) (hB : B ≤ w.heap.size) (k : Below wr.heap.size wr W) : Inv B w W o n t a L cap p h0 v := by
 have hs := h.size
 have c2 : ∀ i, W.cell? ⟨w.heap.size + 2, i, none⟩ = wr.cell? ⟨w.heap.size + 2, i, none⟩ := fun i => k.cell (p := ⟨_, _, _⟩) (by simp; omega)
 have f2 : ∀ i, W.frozen? ⟨w.heap.size + 2, i, none⟩ = wr.frozen? ⟨w.heap.size + 2, i, none⟩ := fun i => k.frozen (p := ⟨_, _, _⟩) (by simp; omega)
 have c1 : ∀ i, W.cell? ⟨w.heap.size + 1, i, none⟩ = wr.cell? ⟨w.heap.size + 1, i, none⟩ := fun i => k.cell (p := ⟨_, _, _⟩) (by simp; omega)
 have f1 : ∀ i, W.frozen? ⟨w.heap.size + 1, i, none⟩ = wr.frozen? ⟨w.heap.size + 1, i, none⟩ := fun i => k.frozen (p := ⟨_, _, _⟩) (by simp; omega)
 obtain ⟨a', c', hv, hr⟩ := h.root
 refine ⟨h.below.trans (k.mono h.below.size), Nat.le_trans hs k.size, ⟨a', c', hv, hr.cong c2⟩, h.loose.cong f2, h.res.cong c1, h.resl.cong f1, ?_, h.small⟩
 refine h.grow.stay (x := w.heap.size + 1) (But.of_below k) (fun e => ?_) (fun c hc => by omega)
 have := h.grow.own_lt _ e
 omega
theorem ctD_ge (o : Int) (k : F) : ctF k ≤ ctD o k := by unfold ctD; split <;> omega
theorem div_test {C Y : Nat} (hY : 0 < Y) : ((C : Int) ≤ (100000 : Int) / (Y : Int)) ↔ C * Y ≤ 100000 := by
 rw [show (100000 : Int) / (Y : Int) = ((100000 / Y : Nat) : Int) from rfl, Int.ofNat_le, Nat.le_div_iff_mul_le hY]
theorem part_end {B : Nat} {w wr W : World} {o n : Int} {t : ByteArray} {k : F} {a : Option Addr} {L cap cv J : Nat} {h0 hd : Bool} {av : Option Addr} {N : Nat} (hinv : Inv B w wr o n t a L cap k h0 (.slice av k.len cv)) (hB : B ≤ w.heap.size) (hL : k.len = L) (hJ : J = L) (hN : ctD o k = N) (hh : hd = !noD o k)
  (hW : Stay (fun c => c < B ∨ w.heap.size + 3 ≤ c) (fun c => c < B ∨ w.heap.size + 3 ≤ c) wr W) (hb : Below w.heap.size wr W) :
  PartY B w o n t k a cap (.returned (.tuple #[.agg #[.int .i64 o, .int .i64 n, .string t, .slice a L cap, .int .i64 (N : Int), .bool hd, .slice av J cv], .bool true])) W := by
 subst hN hh hJ hL
 obtain ⟨a2, c2, e, _, _, ht⟩ := hinv.grow.slice
 injection e with e1 e2 e3
 subst e1 e3
 have t1 := ht (fun c => c < B ∨ w.heap.size + 3 ≤ c) (fun c h => h) (fun c h => .inr h)
 exact ⟨av, cv, rfl, (t1.stay hW).stay (Stay.imp W (fun c h _ => by omega)), hinv.below.trans (hb.mono (Nat.le_refl _))⟩
theorem setCell_at {W W' : World} {b : Nat} (h : W.heap[b]? = W'.heap[b]?) (j : Nat) (u : Value) : (W.setCell ⟨b, j, none⟩ u).heap[b]? = (W'.setCell ⟨b, j, none⟩ u).heap[b]? := by
 simp [World.setCell, Array.getElem?_modify, h]
theorem setCells_at {W W' : World} {b : Nat} : ∀ (vs : List Value) (j : Nat) {W W' : World}, W.heap[b]? = W'.heap[b]? → (W.setCells b j vs).heap[b]? = (W'.setCells b j vs).heap[b]?
 | [], _, _, _, h => h
 | _ :: r, j, _, _, h => setCells_at (W := W) (W' := W') r (j + 1) (setCell_at h j _)
theorem setCells_out {b c : Nat} (hc : c ≠ b) : ∀ (vs : List Value) (j : Nat) (W : World), (W.setCells b j vs).heap[c]? = W.heap[c]?
 | [], _, _ => rfl
 | _ :: r, j, W => (setCells_out hc r (j + 1) _).trans (Below.heap_setCell _ _ _ _ hc)
structure Two (w' W : World) (g J b : Nat) (vs : List Value) (u : Value) : Prop where
 os : W.os = w'.os
 tape : W.tape = w'.tape
 output : W.output = w'.output
 size : W.heap.size = w'.heap.size
 row : W.heap[g]? = (w'.setCells g J vs).heap[g]?
 cell : W.heap[b]? = (w'.setCell ⟨b, 6, none⟩ u).heap[b]?
 out : ∀ c, c ≠ g → c ≠ b → W.heap[c]? = w'.heap[c]?
theorem os_setCells (b : Nat) : ∀ (vs : List Value) (j : Nat) (W : World), (W.setCells b j vs).os = W.os ∧ (W.setCells b j vs).tape = W.tape ∧ (W.setCells b j vs).output = W.output
 | [], _, _ => ⟨rfl, rfl, rfl⟩
 | _ :: r, j, W => os_setCells b r (j + 1) _
theorem Two.a (w' : World) {g J b : Nat} (vs : List Value) (u : Value) (h : b ≠ g) : Two w' ((w'.setCells g J vs).setCell ⟨b, 6, none⟩ u) g J b vs u := by
 obtain ⟨h1, h2, h3⟩ := os_setCells g vs J w'
 refine ⟨h1, h2, h3, by simp [size_setCells], Below.heap_setCell _ _ _ _ (Ne.symm h), setCell_at (setCells_out h vs J w') 6 u, fun c hc hb => (Below.heap_setCell _ _ _ _ hb).trans (setCells_out hc vs J w')⟩
theorem Two.b (w' : World) {g J b : Nat} (vs : List Value) (u : Value) (h : b ≠ g) : Two w' ((w'.setCell ⟨b, 6, none⟩ u).setCells g J vs) g J b vs u := by
 obtain ⟨h1, h2, h3⟩ := os_setCells g vs J (w'.setCell ⟨b, 6, none⟩ u)
 refine ⟨h1, h2, h3, by simp [size_setCells], setCells_at (W := w') (W' := w') vs J (Below.heap_setCell _ _ _ _ (Ne.symm h)), setCells_out h vs J _, fun c hc hb => (setCells_out hc vs J _).trans (Below.heap_setCell _ _ _ _ hb)⟩
theorem Two.a7 (w' : World) {g J b : Nat} (x0 x1 x2 x3 x4 x5 x6 u : Value) (h : b ≠ g) : Two w' ((((((((w'.setCell ⟨g, J, none⟩ x0).setCell ⟨g, J + 1, none⟩ x1).setCell ⟨g, J + 2, none⟩ x2).setCell ⟨g, J + 3, none⟩ x3).setCell ⟨g, J + 4, none⟩ x4).setCell ⟨g, J + 5, none⟩ x5).setCell ⟨g, J + 6, none⟩ x6).setCell ⟨b, 6, none⟩ u) g J b [x0, x1, x2, x3, x4, x5, x6] u := Two.a w' [x0, x1, x2, x3, x4, x5, x6] u h
theorem Two.b7 (w' : World) {g J b : Nat} (x0 x1 x2 x3 x4 x5 x6 u : Value) (h : b ≠ g) : Two w' ((((((((w'.setCell ⟨b, 6, none⟩ u).setCell ⟨g, J, none⟩ x0).setCell ⟨g, J + 1, none⟩ x1).setCell ⟨g, J + 2, none⟩ x2).setCell ⟨g, J + 3, none⟩ x3).setCell ⟨g, J + 4, none⟩ x4).setCell ⟨g, J + 5, none⟩ x5).setCell ⟨g, J + 6, none⟩ x6) g J b [x0, x1, x2, x3, x4, x5, x6] u := Two.b w' [x0, x1, x2, x3, x4, x5, x6] u h
theorem Inv.next {B : Nat} {w V U w' W : World} {o n : Int} {t : ByteArray} {a : Option Addr} {L cap cv J C Y g cp wc : Nat} {p : F} {h0 hd hz hd1 : Bool} {av : Option Addr} {ob : Obj} {o1 n1 : Int} {t1 : ByteArray} {k1 : F} {a1 a2 : Option Addr} {c1 c2 : Nat}
  (hB : B ≤ w.heap.size) (hp : p.len = J) (hC : ctF p = C) (hhd : (h0 || !noF p) = hd) (hY : ctD o1 k1 = Y) (hd1' : (!noD o1 k1) = hd1) (hz' : (hd || hd1) = hz) (hCY : C * Y ≤ 100000)
  (hinv : Inv B w V o n t a L cap p h0 (.slice av J cv)) (hbU : But V.heap.size (w.heap.size + 2) V U) (hUV : V.heap.size = U.heap.size)
  (hU : U.heap[w.heap.size + 2]? = ((V.setCell ⟨w.heap.size + 2, 4, none⟩ (.int .i64 ((C : Int) * (Y : Int)))).setCell ⟨w.heap.size + 2, 5, none⟩ (.bool hz)).heap[w.heap.size + 2]?)
  (hM : Mid (fun c => c < B ∨ w.heap.size + 3 ≤ c) w' 120 (w.heap.size + 3) g cp p) (hgr : (U.drew.alloc ob).grownBy w' (Value.slice av J cv).ownBlock) (hg : (Value.slice av J cv).ownBlock = some g ∨ g = U.heap.size + 1)
  (hown : ∀ k, (Value.slice av J cv).ownBlock = some k → w.heap.size + 3 ≤ k ∧ k < wc) (hwc : wc ≤ V.heap.size) (hwc3 : w.heap.size + 3 ≤ wc)
  (hdoc : DocIn (fun c => c < B) V k1 a1 c1) (htree : TreeSub (fun c => c < B ∨ wc ≤ c) V a2 k1)
  (hW : Two w' W g (J * 7) (w.heap.size + 1 + 1) [.int .i64 o1, .int .i64 n1, .string t1, .slice a1 k1.len c1, .int .i64 (Y : Int), .bool hd1, .slice a2 k1.len c2] (.slice (some ⟨g, 0, none⟩) (J + 1) cp)) :
  Inv B w W o n t a L cap (p.app (.cons o1 n1 t1 k1 .nil)) h0 (.slice (some ⟨g, 0, none⟩) (J + 1) cp) := by
 subst hp hC hhd hY hd1' hz'
 replace hW : Two w' W g (p.len * 7) (w.heap.size + 2) (rootV o1 n1 t1 k1 a1 c1 a2 c2) (.slice (some ⟨g, 0, none⟩) (p.len + 1) cp) := hW
 have hvs := hinv.size
 have hl' : (p.app (.cons o1 n1 t1 k1 .nil)).len = p.len + 1 := by rw [F.len_app]; rfl
 have hgl : w.heap.size + 3 ≤ g := hM.1
 have hkeep : ∀ c, c < V.heap.size → c ≠ w.heap.size + 2 → (Value.slice av p.len cv).ownBlock ≠ some c → w'.heap[c]? = V.heap[c]? ∧ c ≠ g := by
  intro c hc h2 h3
  have hcU : c < U.heap.size := by omega
  refine ⟨(far hgr hcU h3).2.2.2.trans (hbU.block c hc h2), fun e => ?_⟩
  rcases hg with hg | hg
  ·exact h3 (by rw [e]; exact hg)
  ·omega
 have hsz' : V.heap.size ≤ w'.heap.size := by have := hgr.size; simp at this; omega
 have htb : w'.heap[w.heap.size + 2]? = U.heap[w.heap.size + 2]? := (far hgr (by omega) (fun e => by have := hown _ e; omega)).2.2.2
 have hst1 : Stay (fun c => c < B) (fun c => (c < B ∨ w.heap.size + 3 ≤ c) ∧ c ≠ g) V w' := ⟨fun c hc hl => by
  obtain ⟨q1, q2⟩ := hkeep c hl (by omega) (fun e => by have := hown _ e; omega)
  exact ⟨q1, .inl hc, q2⟩, hsz'⟩
 have hst2 : Stay (fun c => c < B ∨ wc ≤ c) (fun c => (c < B ∨ w.heap.size + 3 ≤ c) ∧ c ≠ g) V w' := ⟨fun c hc hl => by
  obtain ⟨q1, q2⟩ := hkeep c hl (by omega) (fun e => by have := hown _ e; omega)
  exact ⟨q1, by omega, q2⟩, hsz'⟩
 have hput := hM.put (hdoc.stay hst1) (htree.stay hst2) (o := o1) (n := n1) (t := t1) (cap' := c2)
 have hWb : ∀ c, c < V.heap.size → c ≠ w.heap.size + 2 → (Value.slice av p.len cv).ownBlock ≠ some c → W.heap[c]? = V.heap[c]? := fun c hc h2 h3 => by
  obtain ⟨q1, q2⟩ := hkeep c hc h2 h3
  exact (hW.out c q2 h2).trans q1
 have hres : W.heap[w.heap.size + 1]? = V.heap[w.heap.size + 1]? := hWb _ (by omega) (by omega) (fun e => by have := hown _ e; omega)
 obtain ⟨a', c', hv, hr⟩ := hinv.root
 injection hv with hv1 hv2 hv3
 subst hv1 hv3
 obtain ⟨r0, r1, r2, r3, r4, r5, r6⟩ := hr
 obtain ⟨l0, l1, l2, l3, l4, l5, l6⟩ := hinv.loose
 have hcell : ∀ i, i ≠ 6 → W.cell? ⟨w.heap.size + 2, i, none⟩ = ((V.setCell ⟨w.heap.size + 2, 4, none⟩ (.int .i64 ((ctF p : Int) * (ctD o1 k1 : Int)))).setCell ⟨w.heap.size + 2, 5, none⟩ (.bool ((h0 || !noF p) || !noD o1 k1))).cell? ⟨w.heap.size + 2, i, none⟩ := by
  intro i hi
  rw [cell_of hW.cell i, World.cell?_setCell_other _ _ _ _ (by intro e; injection e with e1 e2; omega), cell_of htb i, cell_of hU i]
 have hfroz : ∀ i, W.frozen? ⟨w.heap.size + 2, i, none⟩ = V.frozen? ⟨w.heap.size + 2, i, none⟩ := by
  intro i
  rw [frozen_of hW.cell i, World.frozen?_setCell, frozen_of htb i, frozen_of hU i, World.frozen?_setCell, World.frozen?_setCell]
 have h6 : w'.cell? ⟨w.heap.size + 2, 6, none⟩ = some (.slice av p.len cv) := by
  rw [cell_of htb 6, cell_of hU 6, World.cell?_setCell_other _ _ _ _ (by simp), World.cell?_setCell_other _ _ _ _ (by simp)]
  exact r6
 refine ⟨hinv.below.trans ⟨hW.os.trans (hgr.os.trans hbU.os), hW.tape.trans (hgr.tape.trans hbU.tape), hW.output.trans (hgr.output.trans hbU.output), by rw [hW.size]; exact hsz', fun c hc => ?_⟩, by rw [hW.size]; omega, ⟨some ⟨g, 0, none⟩, cp, by rw [hl'], ⟨?_, ?_, ?_, ?_, ?_, ?_, ?_⟩⟩, ⟨(hfroz _).trans l0, (hfroz _).trans l1, (hfroz _).trans l2, (hfroz _).trans l3, (hfroz _).trans l4, (hfroz _).trans l5, (hfroz _).trans l6⟩, hinv.res.cong (fun i => cell_of hres i), hinv.resl.cong (fun i => frozen_of hres i), ?_, ?_⟩
 ·exact hWb c (by omega) (by omega) (fun e => by have := hown _ e; omega)
 ·rw [hcell 0 (by omega), World.cell?_setCell_other _ _ _ _ (by simp), World.cell?_setCell_other _ _ _ _ (by simp)]; exact r0
 ·rw [hcell 1 (by omega), World.cell?_setCell_other _ _ _ _ (by simp), World.cell?_setCell_other _ _ _ _ (by simp)]; exact r1
 ·rw [hcell 2 (by omega), World.cell?_setCell_other _ _ _ _ (by simp), World.cell?_setCell_other _ _ _ _ (by simp)]; exact r2
 ·rw [hcell 3 (by omega), World.cell?_setCell_other _ _ _ _ (by simp), World.cell?_setCell_other _ _ _ _ (by simp)]; exact r3
 ·rw [hcell 4 (by omega), World.cell?_setCell_other _ _ _ _ (by simp), World.cell?_setCell_same _ _ _ r4, ctF_app, ctF_one, Int.natCast_mul]
 ·rw [hcell 5 (by omega), World.cell?_setCell_same _ _ _ (by rw [World.cell?_setCell_other _ _ _ _ (by simp)]; exact r5), noF_app]
  simp [noF, noD, Bool.or_assoc]
 ·rw [cell_of hW.cell 6, World.cell?_setCell_same _ _ _ h6, hl']
 ·refine hput.stay (x := w.heap.size + 2) ⟨?_, ?_, ?_, ?_, fun c hc h2 => ?_⟩ (fun e => ?_) (fun c hc => by omega)
  ·exact hW.os.trans (os_setCells _ _ _ _).1.symm
  ·exact hW.tape.trans (os_setCells _ _ _ _).2.1.symm
  ·exact hW.output.trans (os_setCells _ _ _ _).2.2.symm
  ·rw [hW.size, size_setCells]; exact Nat.le_refl _
  ·by_cases hcg : c = g
   ·subst hcg; exact hW.row
   ·exact (hW.out c hcg h2).trans (setCells_out hcg _ _ _).symm
  ·simp only [Value.ownBlock, Option.some.injEq] at e
   omega
 ·rw [ctF_app, ctF_one]; exact hCY
end Go.Proofs.YtjcaiecapapceaaGreat.ChT
namespace Go.Proofs.YtjcaiecapapceaaGreat.ChT
open Go.RowKit P1 Cnt CntC Wid ChP Tr
theorem part_step (d : Nat) (ih : PartS d) (B : Nat) (o n : Int) (t : ByteArray) (k : F) (hok : okD (d + 1) o n t k = true) (w : World) (a : Option Addr) (cap : Nat) (fs : List Nat) (hs : SubAt w a k fs) (hfs : ∀ c ∈ fs, c < B ∧ ∀ o, w.frozen? ⟨c, o, none⟩ = false) (hB : B ≤ w.heap.size) (hc : k.len ≤ cap) :
  Calls Tryz.prog 136 #[.agg #[.int .i64 o, .int .i64 n, .string t, .slice a k.len cap]] w (PartR B w o n t k a cap) := by
 obtain ⟨i0, hi, hz0, hz1, hz2⟩ := info_parts info
 obtain ⟨hn, hkok⟩ := okD_parts hok
 have hL2 : k.len ≤ 2 := by rcases node_kinds hn with ⟨_, _, h⟩ | ⟨_, _, h⟩ | ⟨_, _, _, _, h⟩ | ⟨_, _, h⟩ | ⟨_, _, h⟩ <;> omega
 obtain ⟨L, hL⟩ : ∃ L, k.len = L := ⟨_, rfl⟩
 rw [hL] at hc hL2 ⊢
 have HL := Lib.hid hL
 have HI := Lib.hid (And.intro hi (And.intro hz0 (And.intro hz1 hz2)))
 obtain ⟨h0, hh0⟩ : ∃ h0, (o == 5) = h0 := ⟨_, rfl⟩
 have IH := Lib.hid ih
 have HS := Lib.hid hs
 have HFS := Lib.hid hfs
 have HOK := Lib.hid (And.intro hn hkok)
 have HH0 := Lib.hid hh0
 have HB := Lib.hid hB
 have hinit : ∀ (C2 : Array Value), C2 = #[.int .i64 0, .int .i64 0, .string ⟨#[]⟩, .slice none 0 0, .int .i64 0, .bool false, .slice none 0 0] → Inv B w (((w.alloc (.cells #[.int .i64 o, .int .i64 n, .string t, .slice a L cap] 25)).alloc (.cells C2 120)).alloc (.cells #[.int .i64 o, .int .i64 n, .string t, .slice a L cap, .int .i64 1, .bool h0, .slice none 0 0] 120)) o n t a L cap .nil h0 (.slice none 0 0) := by
  rintro C2 rfl
  have e1 : (w.alloc (.cells #[.int .i64 o, .int .i64 n, .string t, .slice a L cap] 25)).heap.size = w.heap.size + 1 := by simp
  have e2 : ((w.alloc (.cells #[.int .i64 o, .int .i64 n, .string t, .slice a L cap] 25)).alloc (.cells #[.int .i64 0, .int .i64 0, .string ⟨#[]⟩, .slice none 0 0, .int .i64 0, .bool false, .slice none 0 0] 120)).heap.size = w.heap.size + 2 := by simp
  refine ⟨(((Below.refl _ _).alloc (Nat.le_refl _) _).alloc (by simp) _).alloc (by simp; omega) _, by simp, ⟨none, 0, rfl, ?_⟩, ?_, ?_, ?_, GrowT.start _ _ _ _, by simp [ctF]⟩
  ·rw [← e2, show (h0 || !noF .nil) = h0 by simp [noF]]; exact Root.new _ _ _ _ _ _ _ _ _ _ _ _ _
  ·rw [← e2]; exact Loose.new _ _ _
  ·rw [← e1]; exact (Root.new _ _ _ _ _ _ _ _ _ _ _ _ _).cong (fun i => World.cell?_alloc_lt _ _ _ (by simp))
  ·rw [← e1]; exact (Loose.new _ _ _).cong (fun i => ((Below.refl _ _).alloc (Nat.le_refl _) _).frozen (p := ⟨_, _, _⟩) (by simp))
 have HINIT := Lib.hid hinit
 clear hs hfs hi hz0 hz1 hz2 hinit hn hkok hL hok ih
 go_enter Tryz.func136, Tryz.ntmps136
 go_wp2_with fail
 go_loopw [17] (fun i wr => ∃ (p g : F) (v : Value), k = p.app g ∧ i = .int .i64 (p.len : Int) ∧ Inv B w wr o n t a L cap p h0 v) (fun i _ => L - (intOf i).toNat)
 case atStart => exact ⟨.nil, k, .slice none 0 0, rfl, rfl, HINIT.out _ rfl⟩
 case round =>
  obtain ⟨p, g, v, hk, rfl, hinv⟩ := hrel
  obtain ⟨J, hp⟩ : ∃ J, p.len = J := ⟨_, rfl⟩
  rw [hp]
  have h7 : g.len = L - J := by have := HL.out; rw [hk, F.len_app, hp] at this; omega
  obtain ⟨av, cv, rfl, r0, r1, r2, r3, r4, r5, r6⟩ := hinv.root
  obtain ⟨l0, l1, l2, l3, l4, l5, l6⟩ := hinv.loose
  obtain ⟨s0, s1, s2, s3, s4, s5, s6⟩ := hinv.res
  obtain ⟨m0, m1, m2, m3, m4, m5, m6⟩ := hinv.resl
  have hsz3 := hinv.size
  have lb2 : w.heap.size + 2 < wr.heap.size := by omega
  have lb1 : w.heap.size + 1 < wr.heap.size := by omega
  obtain ⟨C, hC⟩ : ∃ C, ctF p = C := ⟨_, rfl⟩
  obtain ⟨hd, hhd⟩ : ∃ hd, (h0 || !noF p) = hd := ⟨_, rfl⟩
  rw [hC] at r4
  rw [hhd] at r5
  rw [hp] at r6
  have hCp : 0 < C := by rw [← hC]; exact ctF_pos p
  cases g with
  | nil =>
    have hJL : L ≤ J := by simp only [F.len] at h7; omega
    rw [F.app_nil] at hk
    have hJ : J = L := by have := HL.out; rw [hk, hp] at this; exact this
    have hflat : (o == 8 && !hd) = (o == 8 && noF k) := by
     rw [← hhd, ← hk, ← HH0.out]
     by_cases h8 : o = 8
     ·subst h8; simp
     ·have h9 : (o == 8) = false := beq_eq_false_iff_ne.2 h8
      rw [h9]; rfl
    have hhard : hd = !noD o k := by rw [← hhd, ← hk, ← HH0.out, noD]; simp [bne]
    have hctd : ctD o k = if (o == 8 && !hd) = true then C + 1 else C := by rw [hflat, ← hC, ← hk]; rfl
    have H := Lib.hid (And.intro hk (And.intro hhard hinv))
    have HCD := Lib.hid hctd
    have hC1 : C ≤ 100000 := by rw [← hC]; exact hinv.small
    subst hJ
    clear hk hp hC hhd h7 hinv hflat hhard hctd
    go_wp2_with fail
    refine (flattens wr (w.heap.size + 2) 0 o hd r0 r5).mono ?_
    rintro e1 w' ⟨rfl, rfl⟩
    cases hfl : (o == 8 && !hd) with
    | true =>
      have HV := Lib.hid (show ctD o k = C + 1 by rw [HCD.out, hfl]; rfl)
      clear hfl
      by_cases hC2 : C + 1 ≤ 100000
      ·have hC3 : (C : Int) + 1 ≤ 100000 := by omega
       go_wp2_with fail
       go_region
       all_goals
        go_wp2_with fail
        refine bodyPost_ret (v := .tuple #[.agg #[.int .i64 o, .int .i64 n, .string t, .slice a J cap, .int .i64 ((C : Int) + 1), .bool hd, .slice av J cv], .bool true]) (by simp [results, Tryz.results136, go_sem, s0, s1, s2, s3, s4, s5, s6]) rfl ?_
        obtain ⟨hk, hhard, hinv⟩ := H.out
        subst hk
        refine ⟨fun _ => part_end (N := C + 1) hinv HB.out HL.out rfl HV.out hhard ?_ ?_, fun h => absurd (by rw [HV.out]; omega) h⟩
        ·have hBB := HB.out
         have hx1 : ∀ c, (c < B ∨ w.heap.size + 3 ≤ c) → c ≠ w.heap.size + 1 := fun c hc => by omega
         have hx2 : ∀ c, (c < B ∨ w.heap.size + 3 ≤ c) → c ≠ w.heap.size + 1 + 1 := fun c hc => by omega
         repeat (first | (with_reducible refine Stay.drew ?_) | (with_reducible refine Stay.setCell ?_ hx1) | (with_reducible refine Stay.setCell ?_ hx2))
         exact Stay.refl _ _
        ·have hx1 : w.heap.size ≤ w.heap.size + 1 := by omega
         have hx2 : w.heap.size ≤ w.heap.size + 1 + 1 := by omega
         repeat (first | (with_reducible refine Below.drew ?_) | (with_reducible refine Below.setCell ?_ hx1 _) | (with_reducible refine Below.setCell ?_ hx2 _))
         exact Below.refl _ _
      ·have hC3 : ¬ ((C : Int) + 1 ≤ 100000) := by omega
       have hC4 : (100000 : Int) < (C : Int) + 1 := by omega
       go_wp2_with fail
       go_region
       all_goals
        go_wp2_with fail
        refine bodyPost_ret (v := .tuple #[.agg #[.int .i64 o, .int .i64 n, .string t, .slice a J cap, .int .i64 ((C : Int) + 1), .bool hd, .slice av J cv], .bool false]) (by simp [results, Tryz.results136, go_sem, hC4, s0, s1, s2, s3, s4, s5, s6]) rfl ?_
        obtain ⟨hk, hhard, hinv⟩ := H.out
        subst hk
        refine ⟨fun h => absurd h (by rw [HV.out]; omega), fun _ => ⟨_, _, _, _, _, _, _, _, _, _, _, rfl, ?_⟩⟩
        have hx1 : w.heap.size ≤ w.heap.size + 1 := by omega
        have hx2 : w.heap.size ≤ w.heap.size + 1 + 1 := by omega
        repeat (first | (with_reducible refine Below.drew ?_) | (with_reducible refine Below.setCell ?_ hx1 _) | (with_reducible refine Below.setCell ?_ hx2 _))
        exact hinv.below
    | false =>
      have HV := Lib.hid (show ctD o k = C by rw [HCD.out, hfl]; rfl)
      have hC3 : (C : Int) ≤ 100000 := by omega
      clear hfl
      go_wp2_with fail
      go_region
      all_goals
       go_wp2_with fail
       refine bodyPost_ret (v := .tuple #[.agg #[.int .i64 o, .int .i64 n, .string t, .slice a J cap, .int .i64 (C : Int), .bool hd, .slice av J cv], .bool true]) (by simp [results, Tryz.results136, go_sem, s0, s1, s2, s3, s4, s5, s6]) rfl ?_
       obtain ⟨hk, hhard, hinv⟩ := H.out
       subst hk
       refine ⟨fun _ => part_end (N := C) hinv HB.out HL.out rfl HV.out hhard ?_ ?_, fun h => absurd (by rw [HV.out]; omega) h⟩
       ·have hBB := HB.out
        have hx1 : ∀ c, (c < B ∨ w.heap.size + 3 ≤ c) → c ≠ w.heap.size + 1 := fun c hc => by omega
        have hx2 : ∀ c, (c < B ∨ w.heap.size + 3 ≤ c) → c ≠ w.heap.size + 1 + 1 := fun c hc => by omega
        repeat (first | (with_reducible refine Stay.drew ?_) | (with_reducible refine Stay.setCell ?_ hx1) | (with_reducible refine Stay.setCell ?_ hx2))
        exact Stay.refl _ _
       ·have hx1 : w.heap.size ≤ w.heap.size + 1 := by omega
        have hx2 : w.heap.size ≤ w.heap.size + 1 + 1 := by omega
        repeat (first | (with_reducible refine Below.drew ?_) | (with_reducible refine Below.setCell ?_ hx1 _) | (with_reducible refine Below.setCell ?_ hx2 _))
        exact Below.refl _ _
  | cons o1 n1 t1 k1 rr =>
    have hJL : J < L := by simp only [F.len] at h7; omega
    obtain ⟨hn, hkok⟩ := HOK.out
    have hok1 : okD d o1 n1 t1 k1 = true := by
     rw [hk, F.ok_app] at hkok
     simp only [Bool.and_eq_true] at hkok
     have := hkok.2
     rw [ok_cons, Bool.and_eq_true] at this
     exact this.1
    obtain ⟨b, off, rfl, hrow, hbB, hfB⟩ : ∃ b off, a = some ⟨b, off, none⟩ ∧ (∃ f', RowAt w k b off f' ∧ ∀ c ∈ f', c ∈ fs) ∧ b < B ∧ True := by
     rcases HS.out with ⟨h, _⟩ | ⟨b, off, f', rfl, _, hf, hr⟩
     ·exfalso; rw [h] at hk; have := congrArg F.len hk; rw [F.len_app] at this; simp [F.len] at this
     ·exact ⟨b, off, rfl, ⟨f', hr, fun c hc => by rw [hf]; simp [hc]⟩, (HFS.out b (by rw [hf]; simp)).1, trivial⟩
    obtain ⟨f', hrow, hff⟩ := hrow
    rw [hk] at hrow
    obtain ⟨a1, cap1, f1, c0, c1, c2, c3, hc1, hsub1, hin⟩ := row_at hrow
    rw [hp] at c0 c1 c2 c3
    have hbw : b < w.heap.size := Nat.lt_of_lt_of_le hbB HB.out
    rw [← hinv.below.cell (p := ⟨_, _, _⟩) hbw] at c0 c1 c2 c3
    have hHD := fun (W : World) (hW : Below wr.heap.size wr W) => IH.out B o1 n1 t1 k1 hok1 W a1 cap1 f1 (hsub1.below (B := w.heap.size) (fun c hc => Nat.lt_of_lt_of_le (HFS.out c (hff c (hin c hc))).1 HB.out) (hinv.below.trans (hW.mono hinv.below.size))) (fun c hc => ⟨(HFS.out c (hff c (hin c hc))).1, fun x => ((hinv.below.trans (hW.mono hinv.below.size)).frozen (p := ⟨c, x, none⟩) (Nat.lt_of_lt_of_le (HFS.out c (hff c (hin c hc))).1 HB.out)).trans ((HFS.out c (hff c (hin c hc))).2 x)⟩) (Nat.le_trans HB.out (Nat.le_trans hinv.below.size hW.size)) hc1
    have HD := Lib.hid hHD
    have hDI := fun (W : World) (hW : Below wr.heap.size wr W) => (show DocIn (fun c => c < B) W k1 a1 cap1 from ⟨hc1, f1, hsub1.below (B := w.heap.size) (fun c hc => Nat.lt_of_lt_of_le (HFS.out c (hff c (hin c hc))).1 HB.out) (hinv.below.trans (hW.mono hinv.below.size)), fun c hc => ⟨(HFS.out c (hff c (hin c hc))).1, Nat.lt_of_lt_of_le (HFS.out c (hff c (hin c hc))).1 (Nat.le_trans HB.out (Nat.le_trans hinv.below.size hW.size)), fun x => ((hinv.below.trans (hW.mono hinv.below.size)).frozen (p := ⟨c, x, none⟩) (Nat.lt_of_lt_of_le (HFS.out c (hff c (hin c hc))).1 HB.out)).trans ((HFS.out c (hff c (hin c hc))).2 x)⟩⟩)
    have HDI := Lib.hid hDI
    have hA := Lib.hid (show ∀ ob, Below wr.heap.size wr (wr.alloc ob) from fun ob => (Below.refl _ _).alloc (Nat.le_refl _) _)
    have HSB := Lib.hid (And.intro hsub1 (And.intro hff hin))
    have hpos : ctF k = C * (ctD o1 k1 * ctF rr) := by rw [hk, ctF_app, hC]; rfl
    have H := Lib.hid (And.intro hk (And.intro hp (And.intro hC (And.intro hhd (And.intro hinv hpos)))))
    obtain ⟨Y, hY⟩ : ∃ Y, ctD o1 k1 = Y := ⟨_, rfl⟩
    have hYp : 0 < Y := by rw [← hY]; exact ctD_pos o1 k1
    have hi0 : (0 : Int) ≤ (J : Int) := by omega
    have hi1 : (J : Int) < (L : Int) := by omega
    have HY := Lib.hid hY
    clear hn hkok hok1 hrow hff hHD hDI hsub1 hin hk hp hC hhd hinv hpos hfB h7 hY
    go_wp2_with fail
    by_cases hk1 : Y ≤ 100000
    ·refine ((HD.out _ (hA.out _)).mono (fun e w' h => h.1 (by rw [HY.out]; exact hk1))).mono ?_
     rintro e1 w2 ⟨a2, c2', rfl, ht2, hb2⟩
     have hbw2 : Below wr.heap.size wr w2 := (hA.out _).trans (hb2.mono (hA.out _).size)
     rw [HY.out]
     obtain ⟨hd1, hhd1⟩ : ∃ hd1, (!noD o1 k1) = hd1 := ⟨_, rfl⟩
     rw [hhd1]
     go_wp2_with fail
     obtain ⟨V, hV⟩ : ∃ V, w2.alloc (.cells #[.int .i64 o1, .int .i64 n1, .string t1, .slice a1 k1.len cap1, .int .i64 (Y : Int), .bool hd1, .slice a2 k1.len c2'] 120) = V := ⟨_, rfl⟩
     have hbV : Below wr.heap.size wr V := by rw [← hV]; exact hbw2.alloc hbw2.size _
     rw [hV]
     have hiV := Inv.ext H.out.2.2.2.2.1 HB.out hbV
     have q0 : V.cell? ⟨w2.heap.size, 0, none⟩ = some (.int .i64 o1) := by rw [← hV, World.cell?_alloc_new]; rfl
     have q1 : V.cell? ⟨w2.heap.size, 1, none⟩ = some (.int .i64 n1) := by rw [← hV, World.cell?_alloc_new]; rfl
     have q2 : V.cell? ⟨w2.heap.size, 2, none⟩ = some (.string t1) := by rw [← hV, World.cell?_alloc_new]; rfl
     have q3 : V.cell? ⟨w2.heap.size, 3, none⟩ = some (.slice a1 k1.len cap1) := by rw [← hV, World.cell?_alloc_new]; rfl
     have q4 : V.cell? ⟨w2.heap.size, 4, none⟩ = some (.int .i64 (Y : Int)) := by rw [← hV, World.cell?_alloc_new]; rfl
     have q5 : V.cell? ⟨w2.heap.size, 5, none⟩ = some (.bool hd1) := by rw [← hV, World.cell?_alloc_new]; rfl
     have q6 : V.cell? ⟨w2.heap.size, 6, none⟩ = some (.slice a2 k1.len c2') := by rw [← hV, World.cell?_alloc_new]; rfl
     have lq : w2.heap.size < V.heap.size := by rw [← hV]; simp
     have hw2 : w.heap.size + 3 ≤ w2.heap.size := Nat.le_trans hsz3 hbw2.size
     have hwq : (wr.alloc (.cells #[.int .i64 o1, .int .i64 n1, .string t1, .slice a1 k1.len cap1] 25)).heap.size ≤ V.heap.size := by rw [← hV]; have := hb2.size; simp at this ⊢; omega
     have ht2V : TreeSub (fun c => c < B ∨ (wr.alloc (.cells #[.int .i64 o1, .int .i64 n1, .string t1, .slice a1 k1.len cap1] 25)).heap.size ≤ c) V a2 k1 := by rw [← hV]; exact ht2.stay (Stay.below ((Below.refl _ _).alloc (Nat.le_refl _) _))
     clear s0 s1 s2 s3 s4 s5 s6 m0 m1 m2 m3 m4 m5 m6 lb1 c0 c1 c2 c3
     obtain ⟨s0, s1, s2, s3, s4, s5, s6⟩ := hiV.res
     obtain ⟨m0, m1, m2, m3, m4, m5, m6⟩ := hiV.resl
     obtain ⟨f0, f1', f2, f3, f4, f5, f6⟩ := hiV.loose
     clear l0 l1 l2 l3 l4 l5 l6
     have e4 : V.cell? ⟨w.heap.size + 2, 4, none⟩ = some (.int .i64 (C : Int)) := (hbV.cell (p := ⟨w.heap.size + 2, 4, none⟩) lb2).trans r4
     have e5 : V.cell? ⟨w.heap.size + 2, 5, none⟩ = some (.bool hd) := (hbV.cell (p := ⟨w.heap.size + 2, 5, none⟩) lb2).trans r5
     have e6 : V.cell? ⟨w.heap.size + 2, 6, none⟩ = some (.slice av J cv) := (hbV.cell (p := ⟨w.heap.size + 2, 6, none⟩) lb2).trans r6
     have lb1 : w.heap.size + 1 < V.heap.size := by have := hiV.size; omega
     have lbt : w.heap.size + 2 < V.heap.size := by have := hiV.size; omega
     clear lb2 r0 r1 r2 r3 r4 r5 r6
     have HIV := Lib.hid (And.intro hiV (And.intro ht2V (And.intro hw2 (And.intro hbw2 hbV))))
     have HH1 := Lib.hid hhd1
     have hY1 : (1 : Int) ≤ (Y : Int) := by omega
     have hY0 : ¬ ((Y : Int) = 0) := by omega
     have hY2 : (Y : Int) ≤ 100000 := by omega
     have hC1 : (C : Int) ≤ 100000 := by have := H.out.2.2.2.2.1.small; rw [H.out.2.2.1] at this; omega
     clear hV hbV hiV hbw2 hb2 ht2V hw2 hhd1 ht2
     have HWQ := Lib.hid hwq
     clear hwq
     by_cases hp : C * Y ≤ 100000
     ·have hdt : (C : Int) ≤ (100000 : Int) / (Y : Int) := (div_test hYp).2 hp
      have hP0 : 0 ≤ (C : Int) * (Y : Int) := Int.mul_nonneg (by omega) (by omega)
      have hP1 : (C : Int) * (Y : Int) ≤ 100000 := by rw [← Int.natCast_mul]; omega
      cases hd with
      | true =>
        have HZ := Lib.hid (show (true || hd1) = true from rfl)
        go_quiet (fail)
        go_wp2_with fail
        obtain ⟨U, hU⟩ : ∃ U, ((V.drewN nq).setCell ⟨w.heap.size + 1 + 1, 4, none⟩ (.int .i64 ((C : Int) * (Y : Int)))).setCell ⟨w.heap.size + 1 + 1, 5, none⟩ (.bool true) = U := ⟨_, rfl⟩
        have hbU : But V.heap.size (w.heap.size + 2) V U := by rw [← hU]; exact ((But.of_below (ext_drewN V nq)).setCell (p := ⟨w.heap.size + 1 + 1, 4, none⟩) (.inl rfl) _).setCell (p := ⟨w.heap.size + 1 + 1, 5, none⟩) (.inl rfl) _
        have hUs : V.heap.size = U.heap.size := by rw [← hU]; simp
        have hUb : U.heap[w.heap.size + 2]? = ((V.setCell ⟨w.heap.size + 2, 4, none⟩ (.int .i64 ((C : Int) * (Y : Int)))).setCell ⟨w.heap.size + 2, 5, none⟩ (.bool true)).heap[w.heap.size + 2]? := by rw [← hU]; exact setCell_at (setCell_at ((ext_drewN V nq).block _ lbt) 4 _) 5 _
        have HBU := Lib.hid (And.intro hbU (And.intro hUs hUb))
        have n6 : U.cell? ⟨w.heap.size + 2, 6, none⟩ = some (.slice av J cv) := by rw [← hU, World.cell?_setCell_other _ _ _ _ (by simp), World.cell?_setCell_other _ _ _ _ (by simp)]; exact ((ext_drewN V nq).cell lbt).trans e6
        have z6 : U.frozen? ⟨w.heap.size + 2, 6, none⟩ = false := by rw [← hU, World.frozen?_setCell, World.frozen?_setCell]; exact ((ext_drewN V nq).frozen lbt).trans f6
        have hqt : w2.heap.size ≠ w.heap.size + 2 := by have := HIV.out.2.2.1; omega
        replace q0 := (hbU.cell (c := w2.heap.size) (o := 0) lq hqt).trans q0
        replace q1 := (hbU.cell (c := w2.heap.size) (o := 1) lq hqt).trans q1
        replace q2 := (hbU.cell (c := w2.heap.size) (o := 2) lq hqt).trans q2
        replace q3 := (hbU.cell (c := w2.heap.size) (o := 3) lq hqt).trans q3
        replace q4 := (hbU.cell (c := w2.heap.size) (o := 4) lq hqt).trans q4
        replace q5 := (hbU.cell (c := w2.heap.size) (o := 5) lq hqt).trans q5
        replace q6 := (hbU.cell (c := w2.heap.size) (o := 6) lq hqt).trans q6
        rw [hU]
        clear hU
        have hGU : GrowT (fun c => c < B ∨ w.heap.size + 3 ≤ c) U 120 (w.heap.size + 3) (.slice av J cv) p := by
         have hg := HIV.out.1.grow
         rw [H.out.2.1] at hg
         exact hg.stay hbU (fun e => by have := hg.own_lt _ e; omega) (fun c hc => by have := HB.out; omega)
        have hown : ∀ k, (Value.slice av J cv).ownBlock = some k → w.heap.size + 3 ≤ k ∧ k < w2.heap.size := by
         intro k e
         have hg := H.out.2.2.2.2.1.grow
         rw [H.out.2.1] at hg
         have := hg.own_lt k e
         have := HIV.out.2.2.2.1.size
         omega
        have lU : w2.heap.size < U.heap.size := by omega
        have lt : w.heap.size + 2 < U.heap.size := by omega
        have hnt : (Value.slice av J cv).ownBlock ≠ some (w.heap.size + 2) := fun e => by have := hown _ e; omega
        have hnq : (Value.slice av J cv).ownBlock ≠ some w2.heap.size := fun e => by have := hown _ e; omega
        have hwt : w.heap.size + 3 ≤ w2.heap.size := HIV.out.2.2.1
        have HG := Lib.hid (fun ob => (hGU.stay (But.of_below (x := w.heap.size + 1) (((Below.refl U.heap.size U).drew).alloc (Nat.le_refl _) ob)) (fun e => by have := hown _ e; omega) (fun c hc => by have := HB.out; omega)))
        have HQ := Lib.hid (And.intro q0 (And.intro q1 (And.intro q2 (And.intro q3 (And.intro q4 (And.intro q5 q6))))))
        have HN := Lib.hid (And.intro n6 (And.intro z6 (And.intro lU (And.intro lt (And.intro hnt (And.intro hnq hown))))))
        have hnx : ∀ (g cp : Nat) (w' : World) (ob : Obj), Mid (fun c => c < B ∨ w.heap.size + 3 ≤ c) w' 120 (w.heap.size + 3) g cp p → (U.drew.alloc ob).grownBy w' (Value.slice av J cv).ownBlock → ((Value.slice av J cv).ownBlock = some g ∨ g = U.heap.size + 1) → ∀ W, Two w' W g (J * 7) (w.heap.size + 1 + 1) [.int .i64 o1, .int .i64 n1, .string t1, .slice a1 k1.len cap1, .int .i64 (Y : Int), .bool hd1, .slice a2 k1.len c2'] (.slice (some ⟨g, 0, none⟩) (J + 1) cp) → Inv B w W o n t (some ⟨b, off, none⟩) L cap (p.app (.cons o1 n1 t1 k1 .nil)) h0 (.slice (some ⟨g, 0, none⟩) (J + 1) cp) := by
         intro g cp w' ob hM hgr hg W hW
         obtain ⟨hk, hp', hC, hhd, hinv0, hpos⟩ := H.out
         obtain ⟨hiV, ht2V, hw2, hbw2, hbV⟩ := HIV.out
         have hiV' := hiV
         rw [hp'] at hiV'
         refine Inv.next (V := V) (U := U) (w' := w') HB.out hp' hC hhd HY.out HH1.out HZ.out hp hiV' HBU.out.1 HBU.out.2.1 HBU.out.2.2 hM hgr hg (fun k e => ?_) HWQ.out ?_ (HDI.out V hbV) ht2V hW
         ·have h1 := hinv0.grow
          rw [hp'] at h1
          have h2 := h1.own_lt k e
          exact ⟨h2.1, by simp; omega⟩
         ·have h1 := hinv0.size
          simp; omega
        have HNX := Lib.hid hnx
        have HPJ := Lib.hid H.out.2.1
        have HPL := Lib.hid (show p.len + 1 ≤ 100000 by have := H.out.2.1; omega)
        have hj0 : (0 : Int) ≤ (J : Int) := by omega
        have hjl : (J : Int) < (J : Int) + 1 := by omega
        clear hGU hown hnt hnq hqt hbU hUb hnx
        go_region_law (refine step_append_tree (D := fun c => c < B ∨ w.heap.size + 3 ≤ c) (lo := w.heap.size + 3) (v := .slice av J cv) (p := p) (d := U.heap.size) (c := 1) rfl (.tmp 51) (.tmp 54) 118 rfl Tryz.underlying118 HI.out.1 HI.out.2.1 HI.out.2.2.1 HI.out.2.2.2 (by decide) rfl (by rfl) (HG.out _) (by simp; omega) (by rfl) (zero_new _ _ _ (by simp)) HPL.out (U.heap.size + 1) (by simp) HPJ.out ?_; intro g cp w' hM hgr hg; obtain ⟨⟨y0, y1, y2, y3, y4, y5, y6⟩, yf, lg, hgl⟩ := hM.cells HPJ.out; obtain ⟨tc, tf, tl, tb⟩ := far hgr HN.out.2.2.2.1 HN.out.2.2.2.2.1; obtain ⟨kc, kf, kl, kb⟩ := far hgr HN.out.2.2.1 HN.out.2.2.2.2.2.1; have x6 := (tc 6).trans HN.out.1; have xz := (tf 6).trans HN.out.2.1; have kk0 := (kc 0).trans HQ.out.1; have kk1 := (kc 1).trans HQ.out.2.1; have kk2 := (kc 2).trans HQ.out.2.2.1; have kk3 := (kc 3).trans HQ.out.2.2.2.1; have kk4 := (kc 4).trans HQ.out.2.2.2.2.1; have kk5 := (kc 5).trans HQ.out.2.2.2.2.2.1; have kk6 := (kc 6).trans HQ.out.2.2.2.2.2.2; have z0 := yf (J * 7); have z1 := yf (J * 7 + 1); have z2 := yf (J * 7 + 2); have z3 := yf (J * 7 + 3); have z4 := yf (J * 7 + 4); have z5 := yf (J * 7 + 5); have z7 := yf (J * 7 + 6); have HM := Lib.hid (And.intro hM (And.intro hgr (And.intro hg (And.intro tb (And.intro kb (And.intro tc tf)))))); have hgt : ¬ (g = w.heap.size + 1 + 1) := (by omega); have hgt2 : ¬ (w.heap.size + 1 + 1 = g) := (by omega); clear hM hgr hg yf tc tf tb kc kf kb)
        all_goals
         go_wp2_with fail
         go_roundw
         case rel =>
          obtain ⟨hM, hgr, hg, _⟩ := HM.out
          obtain ⟨hk, hp', _⟩ := H.out
          exact ⟨p.app (.cons o1 n1 t1 k1 .nil), rr, .slice (some ⟨g, 0, none⟩) (J + 1) cp, by rw [hk, F.app_assoc]; rfl, by rw [F.len_app, hp']; go_num, HNX.out g cp w' _ hM hgr hg _ (by with_reducible (first | exact Two.a7 w' _ _ _ _ _ _ _ _ hgt2 | exact Two.b7 w' _ _ _ _ _ _ _ _ hgt2))⟩
         case measure => simp [intOf]; omega
      | false =>
        have HZ := Lib.hid (show (false || hd1) = hd1 from rfl)
        go_quiet (fail)
        go_wp2_with fail
        obtain ⟨U, hU⟩ : ∃ U, ((V.drewN nq).setCell ⟨w.heap.size + 1 + 1, 4, none⟩ (.int .i64 ((C : Int) * (Y : Int)))).setCell ⟨w.heap.size + 1 + 1, 5, none⟩ (.bool hd1) = U := ⟨_, rfl⟩
        have hbU : But V.heap.size (w.heap.size + 2) V U := by rw [← hU]; exact ((But.of_below (ext_drewN V nq)).setCell (p := ⟨w.heap.size + 1 + 1, 4, none⟩) (.inl rfl) _).setCell (p := ⟨w.heap.size + 1 + 1, 5, none⟩) (.inl rfl) _
        have hUs : V.heap.size = U.heap.size := by rw [← hU]; simp
        have hUb : U.heap[w.heap.size + 2]? = ((V.setCell ⟨w.heap.size + 2, 4, none⟩ (.int .i64 ((C : Int) * (Y : Int)))).setCell ⟨w.heap.size + 2, 5, none⟩ (.bool hd1)).heap[w.heap.size + 2]? := by rw [← hU]; exact setCell_at (setCell_at ((ext_drewN V nq).block _ lbt) 4 _) 5 _
        have HBU := Lib.hid (And.intro hbU (And.intro hUs hUb))
        have n6 : U.cell? ⟨w.heap.size + 2, 6, none⟩ = some (.slice av J cv) := by rw [← hU, World.cell?_setCell_other _ _ _ _ (by simp), World.cell?_setCell_other _ _ _ _ (by simp)]; exact ((ext_drewN V nq).cell lbt).trans e6
        have z6 : U.frozen? ⟨w.heap.size + 2, 6, none⟩ = false := by rw [← hU, World.frozen?_setCell, World.frozen?_setCell]; exact ((ext_drewN V nq).frozen lbt).trans f6
        have hqt : w2.heap.size ≠ w.heap.size + 2 := by have := HIV.out.2.2.1; omega
        replace q0 := (hbU.cell (c := w2.heap.size) (o := 0) lq hqt).trans q0
        replace q1 := (hbU.cell (c := w2.heap.size) (o := 1) lq hqt).trans q1
        replace q2 := (hbU.cell (c := w2.heap.size) (o := 2) lq hqt).trans q2
        replace q3 := (hbU.cell (c := w2.heap.size) (o := 3) lq hqt).trans q3
        replace q4 := (hbU.cell (c := w2.heap.size) (o := 4) lq hqt).trans q4
        replace q5 := (hbU.cell (c := w2.heap.size) (o := 5) lq hqt).trans q5
        replace q6 := (hbU.cell (c := w2.heap.size) (o := 6) lq hqt).trans q6
        rw [hU]
        clear hU
        have hGU : GrowT (fun c => c < B ∨ w.heap.size + 3 ≤ c) U 120 (w.heap.size + 3) (.slice av J cv) p := by
         have hg := HIV.out.1.grow
         rw [H.out.2.1] at hg
         exact hg.stay hbU (fun e => by have := hg.own_lt _ e; omega) (fun c hc => by have := HB.out; omega)
        have hown : ∀ k, (Value.slice av J cv).ownBlock = some k → w.heap.size + 3 ≤ k ∧ k < w2.heap.size := by
         intro k e
         have hg := H.out.2.2.2.2.1.grow
         rw [H.out.2.1] at hg
         have := hg.own_lt k e
         have := HIV.out.2.2.2.1.size
         omega
        have lU : w2.heap.size < U.heap.size := by omega
        have lt : w.heap.size + 2 < U.heap.size := by omega
        have hnt : (Value.slice av J cv).ownBlock ≠ some (w.heap.size + 2) := fun e => by have := hown _ e; omega
        have hnq : (Value.slice av J cv).ownBlock ≠ some w2.heap.size := fun e => by have := hown _ e; omega
        have hwt : w.heap.size + 3 ≤ w2.heap.size := HIV.out.2.2.1
        have HG := Lib.hid (fun ob => (hGU.stay (But.of_below (x := w.heap.size + 1) (((Below.refl U.heap.size U).drew).alloc (Nat.le_refl _) ob)) (fun e => by have := hown _ e; omega) (fun c hc => by have := HB.out; omega)))
        have HQ := Lib.hid (And.intro q0 (And.intro q1 (And.intro q2 (And.intro q3 (And.intro q4 (And.intro q5 q6))))))
        have HN := Lib.hid (And.intro n6 (And.intro z6 (And.intro lU (And.intro lt (And.intro hnt (And.intro hnq hown))))))
        have hnx : ∀ (g cp : Nat) (w' : World) (ob : Obj), Mid (fun c => c < B ∨ w.heap.size + 3 ≤ c) w' 120 (w.heap.size + 3) g cp p → (U.drew.alloc ob).grownBy w' (Value.slice av J cv).ownBlock → ((Value.slice av J cv).ownBlock = some g ∨ g = U.heap.size + 1) → ∀ W, Two w' W g (J * 7) (w.heap.size + 1 + 1) [.int .i64 o1, .int .i64 n1, .string t1, .slice a1 k1.len cap1, .int .i64 (Y : Int), .bool hd1, .slice a2 k1.len c2'] (.slice (some ⟨g, 0, none⟩) (J + 1) cp) → Inv B w W o n t (some ⟨b, off, none⟩) L cap (p.app (.cons o1 n1 t1 k1 .nil)) h0 (.slice (some ⟨g, 0, none⟩) (J + 1) cp) := by
         intro g cp w' ob hM hgr hg W hW
         obtain ⟨hk, hp', hC, hhd, hinv0, hpos⟩ := H.out
         obtain ⟨hiV, ht2V, hw2, hbw2, hbV⟩ := HIV.out
         have hiV' := hiV
         rw [hp'] at hiV'
         refine Inv.next (V := V) (U := U) (w' := w') HB.out hp' hC hhd HY.out HH1.out HZ.out hp hiV' HBU.out.1 HBU.out.2.1 HBU.out.2.2 hM hgr hg (fun k e => ?_) HWQ.out ?_ (HDI.out V hbV) ht2V hW
         ·have h1 := hinv0.grow
          rw [hp'] at h1
          have h2 := h1.own_lt k e
          exact ⟨h2.1, by simp; omega⟩
         ·have h1 := hinv0.size
          simp; omega
        have HNX := Lib.hid hnx
        have HPJ := Lib.hid H.out.2.1
        have HPL := Lib.hid (show p.len + 1 ≤ 100000 by have := H.out.2.1; omega)
        have hj0 : (0 : Int) ≤ (J : Int) := by omega
        have hjl : (J : Int) < (J : Int) + 1 := by omega
        clear hGU hown hnt hnq hqt hbU hUb hnx
        go_region_law (refine step_append_tree (D := fun c => c < B ∨ w.heap.size + 3 ≤ c) (lo := w.heap.size + 3) (v := .slice av J cv) (p := p) (d := U.heap.size) (c := 1) rfl (.tmp 51) (.tmp 54) 118 rfl Tryz.underlying118 HI.out.1 HI.out.2.1 HI.out.2.2.1 HI.out.2.2.2 (by decide) rfl (by rfl) (HG.out _) (by simp; omega) (by rfl) (zero_new _ _ _ (by simp)) HPL.out (U.heap.size + 1) (by simp) HPJ.out ?_; intro g cp w' hM hgr hg; obtain ⟨⟨y0, y1, y2, y3, y4, y5, y6⟩, yf, lg, hgl⟩ := hM.cells HPJ.out; obtain ⟨tc, tf, tl, tb⟩ := far hgr HN.out.2.2.2.1 HN.out.2.2.2.2.1; obtain ⟨kc, kf, kl, kb⟩ := far hgr HN.out.2.2.1 HN.out.2.2.2.2.2.1; have x6 := (tc 6).trans HN.out.1; have xz := (tf 6).trans HN.out.2.1; have kk0 := (kc 0).trans HQ.out.1; have kk1 := (kc 1).trans HQ.out.2.1; have kk2 := (kc 2).trans HQ.out.2.2.1; have kk3 := (kc 3).trans HQ.out.2.2.2.1; have kk4 := (kc 4).trans HQ.out.2.2.2.2.1; have kk5 := (kc 5).trans HQ.out.2.2.2.2.2.1; have kk6 := (kc 6).trans HQ.out.2.2.2.2.2.2; have z0 := yf (J * 7); have z1 := yf (J * 7 + 1); have z2 := yf (J * 7 + 2); have z3 := yf (J * 7 + 3); have z4 := yf (J * 7 + 4); have z5 := yf (J * 7 + 5); have z7 := yf (J * 7 + 6); have HM := Lib.hid (And.intro hM (And.intro hgr (And.intro hg (And.intro tb (And.intro kb (And.intro tc tf)))))); have hgt : ¬ (g = w.heap.size + 1 + 1) := (by omega); have hgt2 : ¬ (w.heap.size + 1 + 1 = g) := (by omega); clear hM hgr hg yf tc tf tb kc kf kb)
        all_goals
         go_wp2_with fail
         go_roundw
         case rel =>
          obtain ⟨hM, hgr, hg, _⟩ := HM.out
          obtain ⟨hk, hp', _⟩ := H.out
          exact ⟨p.app (.cons o1 n1 t1 k1 .nil), rr, .slice (some ⟨g, 0, none⟩) (J + 1) cp, by rw [hk, F.app_assoc]; rfl, by rw [F.len_app, hp']; go_num, HNX.out g cp w' _ hM hgr hg _ (by with_reducible (first | exact Two.a7 w' _ _ _ _ _ _ _ _ hgt2 | exact Two.b7 w' _ _ _ _ _ _ _ _ hgt2))⟩
         case measure => simp [intOf]; omega
     ·have hdt : ¬ ((C : Int) ≤ (100000 : Int) / (Y : Int)) := fun h => hp ((div_test hYp).1 h)
      have hdt2 : (100000 : Int) / (Y : Int) < (C : Int) := by omega
      go_quiet (fail)
      go_wp2_with fail
      refine bodyPost_ret (v := .tuple #[.agg #[.int .i64 0, .int .i64 0, .string ⟨#[]⟩, .slice none 0 0, .int .i64 0, .bool false, .slice none 0 0], .bool false]) (by simp [results, Tryz.results136, go_sem, s0, s1, s2, s3, s4, s5, s6]) rfl ?_
      obtain ⟨hk, hp', hC, hhd, hinv, hpos⟩ := H.out
      have hbig : ¬ ctD o k ≤ 100000 := by
       have h1 := ctD_ge o k
       have h2 : C * Y ≤ ctF k := by
        rw [hpos, HY.out]
        exact Nat.mul_le_mul_left _ (Nat.le_mul_of_pos_right _ (ctF_pos rr))
       omega
      refine ⟨fun h => absurd h hbig, fun _ => ⟨_, _, _, _, _, _, _, _, _, _, _, rfl, ?_⟩⟩
      have hx1 : w.heap.size ≤ w.heap.size + 1 := by omega
      repeat (first | (with_reducible refine Below.drew ?_) | (with_reducible refine Below.setCell ?_ hx1 _))
      exact HIV.out.1.below.trans ((ext_drewN _ _).mono HIV.out.1.below.size)
    ·refine ((HD.out _ (hA.out _)).mono (fun e w' h => h.2 (by rw [HY.out]; exact hk1))).mono ?_
     rintro e1 w2 ⟨ox, nx, tx, ax, lx, cx, xx, yx, ax', lx', cx', rfl, hb2⟩
     have hbw2 : Below wr.heap.size wr w2 := (hA.out _).trans (hb2.mono (hA.out _).size)
     go_wp2_with fail
     obtain ⟨V, hV⟩ : ∃ V, w2.alloc (.cells #[.int .i64 ox, .int .i64 nx, .string tx, .slice ax lx cx, .int .i64 xx, .bool yx, .slice ax' lx' cx'] 120) = V := ⟨_, rfl⟩
     have hbV : Below wr.heap.size wr V := by rw [← hV]; exact hbw2.alloc hbw2.size _
     rw [hV]
     have hiV := Inv.ext H.out.2.2.2.2.1 HB.out hbV
     clear s0 s1 s2 s3 s4 s5 s6 m0 m1 m2 m3 m4 m5 m6 lb1
     obtain ⟨s0, s1, s2, s3, s4, s5, s6⟩ := hiV.res
     obtain ⟨m0, m1, m2, m3, m4, m5, m6⟩ := hiV.resl
     have lb1 : w.heap.size + 1 < V.heap.size := by have := hiV.size; omega
     have HIV := Lib.hid hiV
     clear hV hbV hiV hbw2 hb2 r0 r1 r2 r3 r4 r5 r6 l0 l1 l2 l3 l4 l5 l6 c0 c1 c2 c3
     go_quiet (fail)
     go_wp2_with fail
     refine bodyPost_ret (v := .tuple #[.agg #[.int .i64 0, .int .i64 0, .string ⟨#[]⟩, .slice none 0 0, .int .i64 0, .bool false, .slice none 0 0], .bool false]) (by simp [results, Tryz.results136, go_sem, s0, s1, s2, s3, s4, s5, s6]) rfl ?_
     obtain ⟨hk, hp, hC, hhd, hinv, hpos⟩ := H.out
     have hbig : ¬ ctD o k ≤ 100000 := by
      have h1 := ctD_ge o k
      have h2 : Y ≤ ctF k := by
       rw [hpos, HY.out]
       exact Nat.le_trans (Nat.le_mul_of_pos_right _ (ctF_pos rr)) (Nat.le_mul_of_pos_left _ hCp)
      omega
     refine ⟨fun h => absurd h hbig, fun _ => ⟨_, _, _, _, _, _, _, _, _, _, _, rfl, ?_⟩⟩
     have hx1 : w.heap.size ≤ w.heap.size + 1 := by omega
     repeat (first | (with_reducible refine Below.drew ?_) | (with_reducible refine Below.setCell ?_ hx1 _))
     exact HIV.out.below.trans ((ext_drewN _ _).mono HIV.out.below.size)
theorem partS_all : ∀ d : Nat, PartS d := by
 intro d
 induction d with
 | zero => intro B o n t k h; rw [okD_zero] at h; cases h
 | succ d ih => intro B o n t k h w a cap fs hs hfs hB hc; exact part_step d ih B o n t k h w a cap fs hs hfs hB hc
end Go.Proofs.YtjcaiecapapceaaGreat.ChT
namespace Go.Proofs.YtjcaiecapapceaaGreat.ChC
open Go.RowKit P1 Cnt CntC Wid ChP Tr ChT
def ChY (w : World) (o n : Int) (t : ByteArray) (k : F) (a : Option Addr) (cap : Nat) (e : Ending) (w' : World) : Prop := ∃ (a' : Option Addr) (cap' : Nat), e = .returned (.tuple #[.agg #[.int .i64 o, .int .i64 n, .string t, .slice a k.len cap, .int .i64 (ctD o k : Int), .bool (!noD o k), .slice a' k.len cap'], .bool true]) ∧ TreeSub (fun _ => True) w' a' k ∧ Below w.heap.size w w'
theorem res_new (w : World) (T1 T2 : TypeId) (C : Array Value) : Root ((w.alloc (.cells C T1)).alloc (.cells #[.int .i64 0, .int .i64 0, .string ⟨#[]⟩, .slice none 0 0, .int .i64 0, .bool false, .slice none 0 0] T2)) (w.heap.size + 1) 0 0 ⟨#[]⟩ none 0 0 0 false none 0 0 ∧ Loose ((w.alloc (.cells C T1)).alloc (.cells #[.int .i64 0, .int .i64 0, .string ⟨#[]⟩, .slice none 0 0, .int .i64 0, .bool false, .slice none 0 0] T2)) (w.heap.size + 1) ∧ w.heap.size + 1 < ((w.alloc (.cells C T1)).alloc (.cells #[.int .i64 0, .int .i64 0, .string ⟨#[]⟩, .slice none 0 0, .int .i64 0, .bool false, .slice none 0 0] T2)).heap.size := by
 have e1 : (w.alloc (.cells C T1)).heap.size = w.heap.size + 1 := by simp
 refine ⟨?_, ?_, by simp⟩
 ·rw [← e1]; exact Root.new _ _ _ _ _ _ _ _ _ _ _ _ _
 ·rw [← e1]; exact Loose.new _ _ _
theorem res_later {W W' : World} {b : Nat} (h : Root W b 0 0 ⟨#[]⟩ none 0 0 0 false none 0 0 ∧ Loose W b ∧ b < W.heap.size) (k : Ext W W') : Root W' b 0 0 ⟨#[]⟩ none 0 0 0 false none 0 0 ∧ Loose W' b ∧ b < W'.heap.size :=
 ⟨h.1.cong (fun i => k.cell h.2.2), h.2.1.cong (fun i => k.frozen h.2.2), Nat.lt_of_lt_of_le h.2.2 k.size⟩
section
variable (w : World) (o n : Int) (t : ByteArray) (k : F) (a : Option Addr) (cap : Nat) (fs : List Nat)
theorem choicesN (hs : SubAt w a k fs) (hfs : ∀ c ∈ fs, c < w.heap.size ∧ ∀ o, w.frozen? ⟨c, o, none⟩ = false) (hc : k.len ≤ cap) (hsz : t.size + k.size ≤ 2097152) (hft : k.Fits) (ht : t.size ≤ maxLen) (hm : manyD o n t k = false) :
  Calls Tryz.prog 90 #[.agg #[.int .i64 o, .int .i64 n, .string t, .slice a k.len cap]] w (PartN w) := by
 have hl : k.len ≤ maxLen := by have := F.len_le_size k; unfold maxLen; omega
 have B1 := Lib.hid (show ∀ ob ob', Ext w ((w.alloc ob).alloc ob') from fun ob ob' => ((Ext.refl w).alloc _).alloc _)
 have hi := fun (w1 : World) (hw1 : Ext w w1) => PartV.docValid w1 o n t k a cap fs (hs.below (fun c hc => (hfs c hc).1) hw1) (fun c hc => Nat.lt_of_lt_of_le (hfs c hc).1 hw1.size) hc hl hft ht
 cases hk : validD o n t k with
 | false =>
   rw [hk] at hi
   have HI := Lib.hid hi
   clear hi hk hs hfs hft hm
   go_enter Tryz.func90, Tryz.ntmps90
   go_wp2_with fail
   refine (HI.out _ (B1.out _ _)).mono ?_
   rintro e1 w1 ⟨rfl, hb1⟩
   obtain ⟨⟨s0, s1, s2, s3, s4, s5, s6⟩, ⟨m0, m1, m2, m3, m4, m5, m6⟩, lb⟩ := res_later (res_new w _ _ _) hb1
   have HB := Lib.hid ((B1.out _ _).trans hb1)
   clear hb1
   go_wp2_with fail
   refine bodyPost_ret (v := .tuple #[.agg #[.int .i64 0, .int .i64 0, .string ⟨#[]⟩, .slice none 0 0, .int .i64 0, .bool false, .slice none 0 0], .bool false]) (by simp [results, Tryz.results90, go_sem, s0, s1, s2, s3, s4, s5, s6]) rfl ?_
   refine ⟨_, _, _, _, _, _, _, _, _, _, _, rfl, ?_⟩
   have hx1 : w.heap.size ≤ w.heap.size + 1 := by omega
   repeat (first | (with_reducible refine Below.drew ?_) | (with_reducible refine Below.setCell ?_ hx1 _))
   exact HB.out
 | true =>
   rw [hk] at hi
   have hct : ¬ ctD o k ≤ 100000 := by
    intro h
    rw [manyD, hk] at hm
    simp [h] at hm
   have hv : okD 40 o n t k = true := by simp only [validD, Bool.and_eq_true] at hk; exact hk.1
   have hp := fun (w1 : World) (hw1 : Ext w w1) => (partS_all 40 w.heap.size o n t k hv w1 a cap fs (hs.below (fun c hc => (hfs c hc).1) hw1) (fun c hc => ⟨(hfs c hc).1, fun x => (hw1.frozen (hfs c hc).1).trans ((hfs c hc).2 x)⟩) hw1.size hc).mono (fun e w' h => h.2 hct)
   have HI := Lib.hid hi
   have HP := Lib.hid hp
   clear hi hk hs hfs hft hm hct hv hp
   go_enter Tryz.func90, Tryz.ntmps90
   go_wp2_with fail
   refine (HI.out _ (B1.out _ _)).mono ?_
   rintro e1 w1 ⟨rfl, hb1⟩
   have hr1 := res_later (res_new w _ _ _) hb1
   have hbx : w1.cell? ⟨w.heap.size, 0, none⟩ = some (.int .i64 o) ∧ w1.cell? ⟨w.heap.size, 1, none⟩ = some (.int .i64 n) ∧ w1.cell? ⟨w.heap.size, 2, none⟩ = some (.string t) ∧ w1.cell? ⟨w.heap.size, 3, none⟩ = some (.slice a k.len cap) := by
    refine ⟨?_, ?_, ?_, ?_⟩
    all_goals (rw [Below.cell (p := ⟨_, _, _⟩) hb1 (by simp; omega)]; simp)
   obtain ⟨x0, x1, x2, x3⟩ := hbx
   have HB := Lib.hid (And.intro ((B1.out _ _).trans hb1) hr1)
   clear hb1 hr1
   go_wp2_with fail
   refine (HP.out _ HB.out.1).mono ?_
   rintro e2 w2 ⟨ox, nx, tx, ax, lx, cx, xx, yx, ax', lx', cx', rfl, hb2⟩
   obtain ⟨⟨s0, s1, s2, s3, s4, s5, s6⟩, ⟨m0, m1, m2, m3, m4, m5, m6⟩, lb⟩ := res_later HB.out.2 hb2
   have HB2 := Lib.hid (HB.out.1.trans hb2)
   clear hb2 x0 x1 x2 x3
   go_wp2_with fail
   refine bodyPost_ret (v := .tuple #[.agg #[.int .i64 ox, .int .i64 nx, .string tx, .slice ax lx cx, .int .i64 xx, .bool yx, .slice ax' lx' cx'], .bool false]) (by simp [results, Tryz.results90, go_sem, s0, s1, s2, s3, s4, s5, s6]) rfl ?_
   refine ⟨_, _, _, _, _, _, _, _, _, _, _, rfl, ?_⟩
   have hx1 : w.heap.size ≤ w.heap.size + 1 := by omega
   repeat (first | (with_reducible refine Below.drew ?_) | (with_reducible refine Below.setCell ?_ hx1 _))
   exact HB2.out
theorem choicesY (hs : SubAt w a k fs) (hfs : ∀ c ∈ fs, c < w.heap.size ∧ ∀ o, w.frozen? ⟨c, o, none⟩ = false) (hc : k.len ≤ cap) (hsz : t.size + k.size ≤ 2097152) (hft : k.Fits) (ht : t.size ≤ maxLen) (hm : manyD o n t k = true) :
  Calls Tryz.prog 90 #[.agg #[.int .i64 o, .int .i64 n, .string t, .slice a k.len cap]] w (ChY w o n t k a cap) := by
 have hl : k.len ≤ maxLen := by have := F.len_le_size k; unfold maxLen; omega
 have B1 := Lib.hid (show ∀ ob ob', Ext w ((w.alloc ob).alloc ob') from fun ob ob' => ((Ext.refl w).alloc _).alloc _)
 simp only [manyD, Bool.and_eq_true, decide_eq_true_eq] at hm
 obtain ⟨hk, hct⟩ := hm
 have hi := fun (w1 : World) (hw1 : Ext w w1) => PartV.docValid w1 o n t k a cap fs (hs.below (fun c hc => (hfs c hc).1) hw1) (fun c hc => Nat.lt_of_lt_of_le (hfs c hc).1 hw1.size) hc hl hft ht
 rw [hk] at hi
 have hv : okD 40 o n t k = true := by simp only [validD, Bool.and_eq_true] at hk; exact hk.1
 have hp := fun (w1 : World) (hw1 : Ext w w1) => (partS_all 40 w.heap.size o n t k hv w1 a cap fs (hs.below (fun c hc => (hfs c hc).1) hw1) (fun c hc => ⟨(hfs c hc).1, fun x => (hw1.frozen (hfs c hc).1).trans ((hfs c hc).2 x)⟩) hw1.size hc).mono (fun e w' h => h.1 hct)
 have HI := Lib.hid hi
 have HP := Lib.hid hp
 clear hi hk hs hfs hft hct hv hp
 go_enter Tryz.func90, Tryz.ntmps90
 go_wp2_with fail
 refine (HI.out _ (B1.out _ _)).mono ?_
 rintro e1 w1 ⟨rfl, hb1⟩
 have hr1 := res_later (res_new w _ _ _) hb1
 have hbx : w1.cell? ⟨w.heap.size, 0, none⟩ = some (.int .i64 o) ∧ w1.cell? ⟨w.heap.size, 1, none⟩ = some (.int .i64 n) ∧ w1.cell? ⟨w.heap.size, 2, none⟩ = some (.string t) ∧ w1.cell? ⟨w.heap.size, 3, none⟩ = some (.slice a k.len cap) := by
  refine ⟨?_, ?_, ?_, ?_⟩
  all_goals (rw [Below.cell (p := ⟨_, _, _⟩) hb1 (by simp; omega)]; simp)
 obtain ⟨x0, x1, x2, x3⟩ := hbx
 have HB := Lib.hid (And.intro ((B1.out _ _).trans hb1) hr1)
 clear hb1 hr1
 go_wp2_with fail
 refine (HP.out _ HB.out.1).mono ?_
 rintro e2 w2 ⟨a', c', rfl, ht2, hb2⟩
 obtain ⟨⟨s0, s1, s2, s3, s4, s5, s6⟩, ⟨m0, m1, m2, m3, m4, m5, m6⟩, lb⟩ := res_later HB.out.2 hb2
 have hx1 : ∀ c, (c < w.heap.size ∨ w1.heap.size ≤ c) → c ≠ w.heap.size + 1 := fun c hc => by have := HB.out.2.2.2; omega
 have HB2 := Lib.hid (And.intro (HB.out.1.trans hb2) (And.intro ht2 hx1))
 clear hb2 x0 x1 x2 x3 ht2 hx1
 go_wp2_with fail
 refine bodyPost_ret (v := .tuple #[.agg #[.int .i64 o, .int .i64 n, .string t, .slice a k.len cap, .int .i64 (ctD o k : Int), .bool (!noD o k), .slice a' k.len c'], .bool true]) (by simp [results, Tryz.results90, go_sem, s0, s1, s2, s3, s4, s5, s6]) rfl ?_
 have hx1 : w.heap.size ≤ w.heap.size + 1 := by omega
 have hx2 := HB2.out.2.2
 refine ⟨a', c', rfl, (HB2.out.2.1.stay (D' := fun c => c < w.heap.size ∨ w1.heap.size ≤ c) ?_).stay (Stay.imp _ (fun _ _ _ => trivial)), ?_⟩
 ·repeat (first | (with_reducible refine Stay.drew ?_) | (with_reducible refine Stay.setCell ?_ hx2))
  exact Stay.refl _ _
 ·repeat (first | (with_reducible refine Below.drew ?_) | (with_reducible refine Below.setCell ?_ hx1 _))
  exact HB2.out.1
end
end Go.Proofs.YtjcaiecapapceaaGreat.ChC
namespace Go.Proofs.YtjcaiecapapceaaGreat.ChK
open Go.RowKit P1 LayL LayV LayM LayN LayC Cnt CntC Flat Wid ChP ChS OpenR
end Go.Proofs.YtjcaiecapapceaaGreat.ChK
namespace Go.Proofs.YtjcaiecapapceaaGreat.ChL
open Go.RowKit P1 LayL LayV LayM LayN LayC Cnt CntC Flat Wid ChP Tr ChT OpenR
theorem lay_leaf (o : Int) (h6 : o ≠ 6) (h7 : o ≠ 7) (h8 : o ≠ 8) (b6 : (o == 6) = false) (b7 : (o == 7) = false) (b8 : (o == 8) = false) (n : Int) (t : ByteArray) (l cap cap' : Nat) (a : Option Addr) (hd : Bool) (w : World) (b off : Nat) (X : List (Int × ByteArray)) (i : Int) (a' : Option Addr)
  (c0 : w.cell? ⟨b, off, none⟩ = some (.int .i64 o)) (c1 : w.cell? ⟨b, off + 1, none⟩ = some (.int .i64 n)) (c2 : w.cell? ⟨b, off + 2, none⟩ = some (.string t)) (c3 : w.cell? ⟨b, off + 3, none⟩ = some (.slice a l cap)) (c5 : w.cell? ⟨b, off + 5, none⟩ = some (.bool hd)) (c6 : w.cell? ⟨b, off + 6, none⟩ = some (.slice a' l cap'))
  (hO : Calls Tryz.prog 121 #[.agg #[.int .i64 o, .int .i64 n, .string t, .slice a l cap]] w (RowsNew w X)) :
  Calls Tryz.prog 92 #[.pointer (some ⟨b, off, none⟩), .int .i64 i] w (RowsNew w X) := by
 have HO := Lib.hid hO
 clear hO
 go_enter Tryz.func92, Tryz.ntmps92
 go_wp2_with fail
 refine HO.out.mono ?_
 rintro e1 w2 ⟨a2, c2', f2, rfl, hc2, hs2, hf2, hb2⟩
 have H2 := Lib.hid (lift_rows (Below.refl w.heap.size w) rfl hc2 hs2 hf2 hb2)
 clear hc2 hs2 hf2 hb2 c0 c1 c2 c3 c5 c6
 go_wp2_with fail
 go_ret
 exact H2.out
theorem lay_nest (n : Int) (hn0 : 0 ≤ n) (hn9 : n ≤ 9) (t : ByteArray) (l cap cap' : Nat) (a : Option Addr) (hd : Bool) (w : World) (b off b1 : Nat) (X : List (Int × ByteArray)) (hX : lv X = true) (i : Int) (hl : l = 1) (a' : Option Addr) (ha' : a' = some ⟨b1, 0, none⟩) (hb : b < w.heap.size)
  (c0 : w.cell? ⟨b, off, none⟩ = some (.int .i64 6)) (c1 : w.cell? ⟨b, off + 1, none⟩ = some (.int .i64 n)) (c2 : w.cell? ⟨b, off + 2, none⟩ = some (.string t)) (c3 : w.cell? ⟨b, off + 3, none⟩ = some (.slice a l cap)) (c5 : w.cell? ⟨b, off + 5, none⟩ = some (.bool hd)) (c6 : w.cell? ⟨b, off + 6, none⟩ = some (.slice a' l cap'))
  (hK : ∀ W, Below w.heap.size w W → Calls Tryz.prog 92 #[.pointer (some ⟨b1, 0, none⟩), .int .i64 i] W (RowsNew W X)) :
  Calls Tryz.prog 92 #[.pointer (some ⟨b, off, none⟩), .int .i64 i] w (RowsNew w (nestL n X)) := by
 subst ha' hl
 have HK := Lib.hid hK
 have HN := Lib.hid (fun (W : World) (a : Option Addr) (c : Nat) (fs : List Nat) (hs : LaySub W a X fs) (hc : X.length ≤ c) => nestRows n hn0 (by omega) X hX W a c fs hs hc)
 have HW := Lib.hid (Below.refl w.heap.size w)
 clear hK hX c2 c3 c5
 go_enter Tryz.func92, Tryz.ntmps92
 go_wp2_with fail
 go_region_held3 (fun w' => w'.cell? ⟨b, off + 1, none⟩ = some (.int .i64 n) ∧ w'.cell? ⟨b, off + 6, none⟩ = some (.slice (some ⟨b1, 0, none⟩) 1 cap'))
  (first | go_keep | (refine ⟨?_, ?_⟩ <;> (first | assumption | (rw [hb2.cell (p := ⟨_, _, _⟩) (by first | (simp; done) | (simp; omega) | omega)]; assumption) | (rw [hb3.cell (p := ⟨_, _, _⟩) (by have := hb2.size; first | (simp at this ⊢; done) | (simp at this ⊢; omega) | omega), hb2.cell (p := ⟨_, _, _⟩) (by first | (simp; done) | (simp; omega) | omega)]; assumption))))
  (first
   | (go_at_call 92; refine (HK.out _ (by first | exact HW.out | exact HW.out.drew)).mono ?_; rintro e1 w2 ⟨a2, c2, f2, rfl, hc2, hs2, hf2, hb2⟩)
   | (go_at_call 137; refine (HN.out _ a2 c2 f2 hs2 hc2).mono ?_; rintro e2 w3 ⟨a3, c3, f3, rfl, hc3, hs3, hf3, hb3⟩))
 all_goals
  go_wp2_with fail
  go_ret
  have q2 : Below w.heap.size w w2 := (Below.refl _ w).drew.trans hb2
  exact lift_rows q2 rfl hc3 hs3 hf3 hb3
theorem lay_cat (n : Int) (t : ByteArray) (l cap cap' : Nat) (a : Option Addr) (hd : Bool) (w : World) (b off b1 : Nat) (X Y : List (Int × ByteArray)) (hX : lv X = true) (hY : lv Y = true) (i c q r : Int) (hi0 : 0 ≤ i) (hi1 : i ≤ 200000) (hc1 : 1 ≤ c) (hc2 : c ≤ 200000) (hq : i / c = q) (hr : i % c = r) (hl : l = 2) (a' : Option Addr) (ha' : a' = some ⟨b1, 0, none⟩) (hb : b < w.heap.size) (hb1 : b1 < w.heap.size)
  (c0 : w.cell? ⟨b, off, none⟩ = some (.int .i64 7)) (c1 : w.cell? ⟨b, off + 1, none⟩ = some (.int .i64 n)) (c2 : w.cell? ⟨b, off + 2, none⟩ = some (.string t)) (c3 : w.cell? ⟨b, off + 3, none⟩ = some (.slice a l cap)) (c5 : w.cell? ⟨b, off + 5, none⟩ = some (.bool hd)) (c6 : w.cell? ⟨b, off + 6, none⟩ = some (.slice a' l cap'))
  (d4 : w.cell? ⟨b1, 11, none⟩ = some (.int .i64 c))
  (hK : ∀ W, Below w.heap.size w W → Calls Tryz.prog 92 #[.pointer (some ⟨b1, 0, none⟩), .int .i64 q] W (RowsNew W X))
  (hK2 : ∀ W, Below w.heap.size w W → Calls Tryz.prog 92 #[.pointer (some ⟨b1, 7, none⟩), .int .i64 r] W (RowsNew W Y)) :
  Calls Tryz.prog 92 #[.pointer (some ⟨b, off, none⟩), .int .i64 i] w (RowsNew w (catL X Y)) := by
 subst ha' hl
 have HK := Lib.hid hK
 have HK2 := Lib.hid hK2
 have HN := Lib.hid (fun (W : World) (a : Option Addr) (c : Nat) (fs : List Nat) (hs : LaySub W a X fs) (hc : X.length ≤ c) (a' : Option Addr) (c' : Nat) (fs' : List Nat) (hs' : LaySub W a' Y fs') (hc' : Y.length ≤ c') => catRows X Y hX hY W a c fs hs hc a' c' fs' hs' hc')
 have qt : IntKind.i64.wrap (i.tdiv c) = q := by
  rw [← hq, Int.tdiv_eq_ediv_of_nonneg hi0]
  exact IntWalk.i64_in _ ⟨by have := Int.ediv_nonneg hi0 (show 0 ≤ c by omega); omega, by have := Int.ediv_le_self c hi0; omega⟩
 have rt : i.tmod c = r := by rw [← hr, Int.tmod_eq_emod_of_nonneg hi0]
 have HQ := Lib.hid (And.intro qt (And.intro rt (And.intro hq hr)))
 clear hK hK2 hX hY c1 c2 c3 c5 qt rt hq hr
 go_enter Tryz.func92, Tryz.ntmps92
 go_wp2_with fail
 go_quiet (fail)
 obtain ⟨w0, hw0⟩ : ∃ w0, w.drewN nq = w0 := ⟨_, rfl⟩
 have hbw : Below w.heap.size w w0 := by rw [← hw0]; exact ext_drewN _ _
 rw [hw0]
 have HW := Lib.hid hbw
 replace d4 := (hbw.cell (p := ⟨b1, 11, none⟩) hb1).trans d4
 replace hb1 := Nat.lt_of_lt_of_le hb1 hbw.size
 clear hw0 hbw c0 c6 hb
 go_wp2_with fail
 obtain ⟨qt, rt, qe, re⟩ := HQ.out
 have hc0 : ¬ (c = 0) := by omega
 have hc0b : (c == 0) = false := beq_eq_false_iff_ne.2 hc0
 go_region_held3 (fun w' => w'.cell? ⟨b1, 11, none⟩ = some (.int .i64 c))
  (first | go_keep | (first | assumption | (rw [hbX.cell (p := ⟨_, _, _⟩) (by first | (simp; done) | (simp; omega) | omega)]; assumption) | (rw [hbY.cell (p := ⟨_, _, _⟩) (by have := hbX.size; first | (simp at this ⊢; done) | (simp at this ⊢; omega) | omega), hbX.cell (p := ⟨_, _, _⟩) (by first | (simp; done) | (simp; omega) | omega)]; assumption) | (rw [hb3.cell (p := ⟨_, _, _⟩) (by have := hbX.size; have := hbY.size; first | (simp at *; omega) | omega), hbY.cell (p := ⟨_, _, _⟩) (by have := hbX.size; first | (simp at this ⊢; done) | (simp at this ⊢; omega) | omega), hbX.cell (p := ⟨_, _, _⟩) (by first | (simp; done) | (simp; omega) | omega)]; assumption)))
  (first
   | (go_at_call_of 92 (Value.pointer (some ⟨b1, 0, none⟩)); refine (HK.out _ (by first | exact HW.out | exact HW.out.drew)).mono ?_; rintro e1 wX ⟨aX, cX, fX, rfl, hcX, hsX, hfX, hbX⟩)
   | (go_at_call_of 92 (Value.pointer (some ⟨b1, 7, none⟩)); refine (HK2.out _ (HW.out.trans (((Below.refl _ w0).drew.trans hbX).mono HW.out.size))).mono ?_; rintro e1 wY ⟨aY, cY, fY, rfl, hcY, hsY, hfY, hbY⟩)
   | (go_at_call 138; refine (HN.out _ aX cX fX (hsX.below hsX.lt hbY) hcX aY cY fY hsY hcY).mono ?_; rintro e2 w3 ⟨a3, c3, f3, rfl, hc3, hs3, hf3, hb3⟩))
 all_goals
  clear qt rt qe re
  go_wp2_with fail
  go_ret
  have q2 : Below w.heap.size w wX := HW.out.trans (((Below.refl _ w0).drew.trans hbX).mono HW.out.size)
  have q3 : Below w.heap.size w wY := q2.trans (hbY.mono q2.size)
  exact lift_rows q3 rfl hc3 hs3 hf3 hb3
theorem grp_hard (n : Int) (t : ByteArray) (l cap cap' : Nat) (a : Option Addr) (hd : Bool) (w : World) (b off b1 : Nat) (i : Int) (hl : l = 1) (a' : Option Addr) (ha' : a' = some ⟨b1, 0, none⟩) (hb : b < w.heap.size) (X : List (Int × ByteArray)) (hh : hd = true) (hK : ∀ W, Below w.heap.size w W → Calls Tryz.prog 92 #[.pointer (some ⟨b1, 0, none⟩), .int .i64 i] W (RowsNew W X))
  (c0 : w.cell? ⟨b, off, none⟩ = some (.int .i64 8)) (c1 : w.cell? ⟨b, off + 1, none⟩ = some (.int .i64 n)) (c2 : w.cell? ⟨b, off + 2, none⟩ = some (.string t)) (c3 : w.cell? ⟨b, off + 3, none⟩ = some (.slice a l cap)) (c5 : w.cell? ⟨b, off + 5, none⟩ = some (.bool hd)) (c6 : w.cell? ⟨b, off + 6, none⟩ = some (.slice a' l cap')) :
  Calls Tryz.prog 139 #[.pointer (some ⟨b, off, none⟩), .int .i64 i] w (RowsNew w X) := by
 subst ha' hl
 have HFT := Lib.hid (ChT.flattens w b off 8 hd c0 c5)
 subst hh
 have HK := Lib.hid (hK w (Below.refl _ _))
 clear hK
 go_enter Tryz.func139, Tryz.ntmps139
 go_wp2_with fail
 refine HFT.out.mono ?_
 rintro e0 w0 ⟨rfl, rfl⟩
 go_wp2_with fail
 refine HK.out.mono ?_
 rintro e1 w2 ⟨a2, c2', f2, rfl, hc2, hs2, hf2, hb2⟩
 have H2 := Lib.hid (lift_rows (Below.refl w.heap.size w) rfl hc2 hs2 hf2 hb2)
 clear hc2 hs2 hf2 hb2 c0 c1 c2 c3 c5 c6
 go_wp2_with fail
 go_ret
 exact H2.out
theorem grp_deep (n : Int) (t : ByteArray) (l cap cap' : Nat) (a : Option Addr) (hd : Bool) (w : World) (b off b1 : Nat) (i : Int) (hl : l = 1) (a' : Option Addr) (ha' : a' = some ⟨b1, 0, none⟩) (hb : b < w.heap.size) (X : List (Int × ByteArray)) (hh : hd = false) (hi1 : 1 ≤ i) (hi2 : i ≤ 200000) (j : Int) (hj : i - 1 = j) (hK : ∀ W, Below w.heap.size w W → Calls Tryz.prog 92 #[.pointer (some ⟨b1, 0, none⟩), .int .i64 j] W (RowsNew W X))
  (c0 : w.cell? ⟨b, off, none⟩ = some (.int .i64 8)) (c1 : w.cell? ⟨b, off + 1, none⟩ = some (.int .i64 n)) (c2 : w.cell? ⟨b, off + 2, none⟩ = some (.string t)) (c3 : w.cell? ⟨b, off + 3, none⟩ = some (.slice a l cap)) (c5 : w.cell? ⟨b, off + 5, none⟩ = some (.bool hd)) (c6 : w.cell? ⟨b, off + 6, none⟩ = some (.slice a' l cap')) :
  Calls Tryz.prog 139 #[.pointer (some ⟨b, off, none⟩), .int .i64 i] w (RowsNew w X) := by
 subst ha' hl
 have HFT := Lib.hid (ChT.flattens w b off 8 hd c0 c5)
 subst hh hj
 have HK := Lib.hid (hK w (Below.refl _ _))
 clear hK
 go_enter Tryz.func139, Tryz.ntmps139
 go_wp2_with fail
 refine HFT.out.mono ?_
 rintro e0 w0 ⟨rfl, rfl⟩
 go_wp2_with fail
 refine HK.out.mono ?_
 rintro e1 w2 ⟨a2, c2', f2, rfl, hc2, hs2, hf2, hb2⟩
 have H2 := Lib.hid (lift_rows (Below.refl w.heap.size w) rfl hc2 hs2 hf2 hb2)
 clear hc2 hs2 hf2 hb2 c0 c1 c2 c3 c5 c6
 go_wp2_with fail
 go_ret
 exact H2.out
theorem grp_flat (n : Int) (t : ByteArray) (l cap cap' : Nat) (a : Option Addr) (hd : Bool) (w : World) (b off b1 : Nat) (i : Int) (hl : l = 1) (a' : Option Addr) (ha' : a' = some ⟨b1, 0, none⟩) (hb : b < w.heap.size) (S : ByteArray) (hh : hd = false) (hF : Calls Tryz.prog 175 #[.agg #[.int .i64 8, .int .i64 n, .string t, .slice a l cap]] w fun e w' => e = .returned (.tuple #[.string S, .bool true]) ∧ Below w.heap.size w w')
  (c0 : w.cell? ⟨b, off, none⟩ = some (.int .i64 8)) (c1 : w.cell? ⟨b, off + 1, none⟩ = some (.int .i64 n)) (c2 : w.cell? ⟨b, off + 2, none⟩ = some (.string t)) (c3 : w.cell? ⟨b, off + 3, none⟩ = some (.slice a l cap)) (c5 : w.cell? ⟨b, off + 5, none⟩ = some (.bool hd)) (c6 : w.cell? ⟨b, off + 6, none⟩ = some (.slice a' l cap')) :
  Calls Tryz.prog 139 #[.pointer (some ⟨b, off, none⟩), .int .i64 0] w (RowsNew w [(0, S)]) := by
 subst ha' hl
 have HFT := Lib.hid (ChT.flattens w b off 8 hd c0 c5)
 subst hh
 have HF := Lib.hid hF
 clear hF
 go_enter Tryz.func139, Tryz.ntmps139
 go_wp2_with fail
 refine HFT.out.mono ?_
 rintro e0 w0 ⟨rfl, rfl⟩
 go_wp2_with fail
 refine HF.out.mono ?_
 rintro e1 w2 ⟨rfl, hb2⟩
 have H2 := Lib.hid hb2
 clear hb2 c0 c1 c2 c3 c5 c6
 go_wp2_with fail
 go_ret
 exact rows_made H2.out _ _ _ (text_row S) (by simp) rfl
theorem lay_group (n : Int) (t : ByteArray) (l cap cap' : Nat) (a : Option Addr) (hd : Bool) (w : World) (b off : Nat) (X : List (Int × ByteArray)) (i : Int) (a' : Option Addr) (hb : b < w.heap.size)
  (c0 : w.cell? ⟨b, off, none⟩ = some (.int .i64 8)) (c1 : w.cell? ⟨b, off + 1, none⟩ = some (.int .i64 n)) (c2 : w.cell? ⟨b, off + 2, none⟩ = some (.string t)) (c3 : w.cell? ⟨b, off + 3, none⟩ = some (.slice a l cap)) (c5 : w.cell? ⟨b, off + 5, none⟩ = some (.bool hd)) (c6 : w.cell? ⟨b, off + 6, none⟩ = some (.slice a' l cap'))
  (hG : Calls Tryz.prog 139 #[.pointer (some ⟨b, off, none⟩), .int .i64 i] w (RowsNew w X)) :
  Calls Tryz.prog 92 #[.pointer (some ⟨b, off, none⟩), .int .i64 i] w (RowsNew w X) := by
 have HK := Lib.hid hG
 clear hG
 go_enter Tryz.func92, Tryz.ntmps92
 go_wp2_with fail
 refine HK.out.mono ?_
 rintro e1 w2 ⟨a2, c2', f2, rfl, hc2, hs2, hf2, hb2⟩
 have H2 := Lib.hid (lift_rows (Below.refl w.heap.size w) rfl hc2 hs2 hf2 hb2)
 clear hc2 hs2 hf2 hb2 c0 c1 c2 c3 c5 c6
 go_wp2_with fail
 go_ret
 exact H2.out
theorem ok_mono : ∀ (f : F) (d d' : Nat), f.ok d = true → d ≤ d' → f.ok d' = true := by
 intro f
 induction f with
 | nil => intro d d' _ _; rfl
 | cons o n t k r ihk ihr =>
   intro d d' h hd
   simp only [F.ok, Bool.and_eq_true, decide_eq_true_eq] at h ⊢
   exact ⟨⟨⟨by omega, h.1.1.2⟩, ihk _ _ h.1.2 (by omega)⟩, ihr _ _ h.2 hd⟩
theorem valid_of {d : Nat} {o n : Int} {t : ByteArray} {k : F} (h : okD d o n t k = true) (hd : d ≤ 40) (hc : 1 + k.cnt ≤ 80) : validD o n t k = true := by
 simp only [validD, okD, Bool.and_eq_true, decide_eq_true_eq] at h ⊢
 exact ⟨⟨⟨by omega, h.1.2⟩, ok_mono k _ _ h.2 (by omega)⟩, hc⟩
def At (w : World) (b off : Nat) (o n : Int) (t : ByteArray) (k : F) : Prop := b < w.heap.size ∧ ∃ (a : Option Addr) (cap : Nat) (a' : Option Addr) (cap' : Nat),
 (w.cell? ⟨b, off, none⟩ = some (.int .i64 o) ∧ w.cell? ⟨b, off + 1, none⟩ = some (.int .i64 n) ∧ w.cell? ⟨b, off + 2, none⟩ = some (.string t) ∧ w.cell? ⟨b, off + 3, none⟩ = some (.slice a k.len cap) ∧ w.cell? ⟨b, off + 4, none⟩ = some (.int .i64 (ctD o k : Int)) ∧ w.cell? ⟨b, off + 5, none⟩ = some (.bool (!noD o k)) ∧ w.cell? ⟨b, off + 6, none⟩ = some (.slice a' k.len cap')) ∧ DocIn (fun _ => True) w k a cap ∧ TreeSub (fun _ => True) w a' k
theorem At.below {w W : World} {b off : Nat} {o n : Int} {t : ByteArray} {k : F} (h : At w b off o n t k) (e : Below w.heap.size w W) : At W b off o n t k := by
 obtain ⟨hb, a, cap, a', cap', ⟨h0, h1, h2, h3, h4, h5, h6⟩, g1, g2⟩ := h
 have q : ∀ i, W.cell? ⟨b, i, none⟩ = w.cell? ⟨b, i, none⟩ := fun i => e.cell (p := ⟨b, i, none⟩) hb
 exact ⟨Nat.lt_of_lt_of_le hb e.size, a, cap, a', cap', ⟨(q _).trans h0, (q _).trans h1, (q _).trans h2, (q _).trans h3, (q _).trans h4, (q _).trans h5, (q _).trans h6⟩, g1.stay (Stay.below e), g2.stay (Stay.below e)⟩
theorem At.kid {w : World} {D : Nat → Prop} {A : Option Addr} {o n : Int} {t : ByteArray} {k r p : F} (h : TreeSub (fun _ => True) w A (p.app (.cons o n t k r))) : ∃ b, A = some ⟨b, 0, none⟩ ∧ At w b (p.len * 7) o n t k := by
 obtain ⟨b, a, cap, a', cap', e, hb, hc, h1, h2⟩ := h.at
 exact ⟨b, e, hb, a, cap, a', cap', hc, h1, h2⟩
def layS (d : Nat) : Prop := ∀ (o n : Int) (t : ByteArray) (k : F), okD d o n t k = true → 1 + k.cnt ≤ 80 → t.size + k.size ≤ 2000000 → ctD o k ≤ 100000 → ∀ (i : Nat), i < ctD o k → ∀ (w : World) (b off : Nat), At w b off o n t k →
 Calls Tryz.prog 92 #[.pointer (some ⟨b, off, none⟩), .int .i64 (i : Int)] w (RowsNew w (pkD o n t k i))
theorem layS_all : ∀ d : Nat, d ≤ 40 → layS d := by
 intro d
 induction d with
 | zero => intro _ o n t k h; rw [okD_zero] at h; cases h
 | succ d ih =>
   intro hd o n t k h hcnt hsz hct i hi w b off hat
   have IH := ih (by omega)
   have hg := fun o n t k (h : okD d o n t k = true) (hc : 1 + k.cnt ≤ 80) (i : Nat) => (pick_good d o n t k h i).lv hc (by omega)
   obtain ⟨hn, hk⟩ := okD_parts h
   obtain ⟨hb, a, cap, a', cap', ⟨c0, c1, c2, c3, c4, c5, c6⟩, ⟨hcap, fs, hsub, hfs⟩, htr⟩ := hat
   have hop := implS_all (d + 1) hd o n t k h hcnt w a cap fs hsub (fun c hc => (hfs c hc).2.1) hcap
   rcases node_kinds hn with ⟨rfl, ht, hl⟩ | ⟨ho, rfl, hl⟩ | ⟨rfl, rfl, h0, h9, hl⟩ | ⟨rfl, rfl, hl⟩ | ⟨rfl, rfl, hl⟩
   ·rw [pkD_leaf (by omega) (by omega) (by omega)]
    exact lay_leaf 2 (by decide) (by decide) (by decide) rfl rfl rfl n t _ cap cap' a _ w b off _ _ a' c0 c1 c2 c3 c5 c6 hop
   ·obtain ⟨h6, h7, h8⟩ := leaf_ne ho
    rw [pkD_leaf h6 h7 h8]
    exact lay_leaf o h6 h7 h8 (beq_eq_false_iff_ne.2 h6) (beq_eq_false_iff_ne.2 h7) (beq_eq_false_iff_ne.2 h8) n _ _ cap cap' a _ w b off _ _ a' c0 c1 c2 c3 c5 c6 hop
   ·obtain ⟨o1, n1, t1, k1, rfl⟩ := one_kid hl
    rw [ok_cons, Bool.and_eq_true] at hk
    simp only [F.cnt] at hcnt
    simp only [F.size] at hsz
    rw [ctD_other (by omega), ctF_one] at hi hct
    obtain ⟨b1, rfl, hat1⟩ := At.kid (D := fun _ => True) (p := .nil) htr
    rw [pkD_nest]
    exact lay_nest n h0 h9 _ _ cap cap' a _ w b off b1 _ (hg _ _ _ _ hk.1 (by omega) i) i rfl _ rfl hb c0 c1 c2 c3 c5 c6 (fun W hW => IH _ _ _ _ hk.1 (by omega) (by omega) hct i hi W b1 0 (hat1.below hW))
   ·obtain ⟨o1, n1, t1, k1, o2, n2, t2, k2, rfl⟩ := two_kids hl
    rw [ok_cons, ok_cons, Bool.and_eq_true, Bool.and_eq_true] at hk
    simp only [F.cnt] at hcnt
    simp only [F.size] at hsz
    rw [ctD_other (by omega), ctF_cons, ctF_one] at hi hct
    have p1 := ctD_pos o1 k1
    have p2 := ctD_pos o2 k2
    have l1 : ctD o1 k1 ≤ 100000 := Nat.le_trans (Nat.le_mul_of_pos_right _ p2) hct
    have l2 : ctD o2 k2 ≤ 100000 := Nat.le_trans (Nat.le_mul_of_pos_left _ p1) hct
    have hq1 : i / ctD o2 k2 < ctD o1 k1 := Nat.div_lt_of_lt_mul (by rw [Nat.mul_comm]; exact hi)
    have hq2 : i % ctD o2 k2 < ctD o2 k2 := Nat.mod_lt _ p2
    obtain ⟨b1, rfl, hat1⟩ := At.kid (D := fun _ => True) (p := .nil) htr
    obtain ⟨b2, hab, hat2⟩ := At.kid (D := fun _ => True) (p := .cons o1 n1 t1 k1 .nil) htr
    cases hab
    have d4 := hat2.2
    obtain ⟨_, _, _, _, ⟨_, _, _, _, d4, _, _⟩, _, _⟩ := d4
    rw [pkD_cat]
    exact lay_cat n _ _ cap cap' a _ w b off b1 _ _ (hg _ _ _ _ hk.1 (by omega) _) (hg _ _ _ _ hk.2.1 (by omega) _) i (ctD o2 k2 : Int) ((i / ctD o2 k2 : Nat) : Int) ((i % ctD o2 k2 : Nat) : Int) (by omega) (by omega) (by omega) (by omega) rfl rfl rfl _ rfl hb hat1.1 c0 c1 c2 c3 c5 c6 d4
     (fun W hW => IH _ _ _ _ hk.1 (by omega) (by omega) l1 _ hq1 W b1 0 (hat1.below hW))
     (fun W hW => IH _ _ _ _ hk.2.1 (by omega) (by omega) l2 _ hq2 W b1 7 (hat2.below hW))
   ·obtain ⟨o1, n1, t1, k1, rfl⟩ := one_kid hl
    have hval := valid_of h hd hcnt
    rw [ok_cons, Bool.and_eq_true] at hk
    have hcnt' := hcnt
    have hsz' := hsz
    simp only [F.cnt] at hcnt'
    simp only [F.size] at hsz'
    have e8 : noD 8 (.cons o1 n1 t1 k1 .nil) = noF (.cons o1 n1 t1 k1 .nil) := by simp [noD]
    have eo := noD_ops 8 (.cons o1 n1 t1 k1 .nil)
    rw [e8] at c5 eo
    rw [ctD_group, ctF_one] at hi hct
    obtain ⟨b1, rfl, hat1⟩ := At.kid (D := fun _ => True) (p := .nil) htr
    have hF := FlatI.implFlatText w 8 n ⟨#[]⟩ (.cons o1 n1 t1 k1 .nil) a cap fs hsub (fun c hc => ⟨(hfs c hc).2.1, (hfs c hc).2.2⟩) hcap (by omega) (DocK.fits_of (m := 2000000) (by unfold maxLen; omega) _ (by omega)) (Nat.zero_le _)
    refine lay_group n _ _ cap cap' a _ w b off _ i _ hb c0 c1 c2 c3 c5 c6 ?_
    rw [pkD_group]
    cases hno : noF (.cons o1 n1 t1 k1 .nil) with
    | false =>
      rw [hno] at hi hct c5
      simp only [Bool.false_eq_true, if_false] at hi hct ⊢
      exact grp_hard n _ _ cap cap' a _ w b off b1 i rfl _ rfl hb _ rfl (fun W hW => IH _ _ _ _ hk.1 (by omega) (by omega) hct i hi W b1 0 (hat1.below hW)) c0 c1 c2 c3 c5 c6
    | true =>
      rw [hno] at hi hct c5 eo
      simp only [if_true] at hi hct ⊢
      by_cases hi0 : i = 0
      ·subst hi0
       rw [if_pos rfl]
       have hcan : canD 8 n ⟨#[]⟩ (.cons o1 n1 t1 k1 .nil) = true := by rw [canD, hval, ← eo]; rfl
       have hft : ftD 8 n ⟨#[]⟩ (.cons o1 n1 t1 k1 .nil) = flD 8 ⟨#[]⟩ (.cons o1 n1 t1 k1 .nil) := by simp [ftD, hcan]
       rw [hcan, hft] at hF
       exact grp_flat n _ _ cap cap' a _ w b off b1 0 rfl _ rfl hb _ rfl hF c0 c1 c2 c3 c5 c6
      ·rw [if_neg hi0]
       exact grp_deep n _ _ cap cap' a _ w b off b1 i rfl _ rfl hb _ rfl (by omega) (by omega) ((i - 1 : Nat) : Int) (by omega) (fun W hW => IH _ _ _ _ hk.1 (by omega) (by omega) (by omega) (i - 1) (by omega) W b1 0 (hat1.below hW)) c0 c1 c2 c3 c5 c6
end Go.Proofs.YtjcaiecapapceaaGreat.ChL
namespace Go.Proofs.YtjcaiecapapceaaGreat.ChO
open Go.RowKit P1 LayL LayV LayM LayN LayC Cnt CntC Wid ChP Tr ChT ChC
theorem valid_parts {o n : Int} {t : ByteArray} {k : F} (h : manyD o n t k = true) : okD 40 o n t k = true ∧ 1 + k.cnt ≤ 80 ∧ ctD o k ≤ 100000 := by
 simp only [manyD, validD, Bool.and_eq_true, decide_eq_true_eq] at h
 exact ⟨h.1.1, h.1.2, h.2⟩
section
variable (w : World) (o n : Int) (t : ByteArray) (k : F) (a : Option Addr) (cap : Nat) (fs : List Nat) (i : Int)
end
end Go.Proofs.YtjcaiecapapceaaGreat.ChO
