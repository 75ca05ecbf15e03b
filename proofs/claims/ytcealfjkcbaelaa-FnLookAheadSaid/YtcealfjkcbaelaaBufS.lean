import Derived.Test.YtcealfjkcbaelaaFl
import Derived.Test.YtcealfjkcbaelaaRnD
import Derived.Lib.FrozenHead2
/-
  What the methods of strings.Builder do at a builder that is a field of a streamer, by the bytes that it holds.
-/
set_option linter.unusedVariables false
set_option linter.unusedSimpArgs false
namespace Go.Proofs.Ytcealfjkcbaelaa.BufS
open Go.RowKit Go.Shelf P1

/-- the other fields of a renderer: width, rest, rows, indent, flags -/
structure Fs where
  a : Value
  r : Value
  l : Value
  i : Value
  g : Value
/-- a renderer's cells -/
def cs (F : Fs) (p v : Value) : Array Value := #[F.a, F.l, F.i, p, v, F.r]
abbrev self (b : Nat) : Value := .pointer (some ⟨b, 3, none⟩)
/-- the renderer lies at block b; its builder's buffer holds these cells -/
def At (B b : Nat) (F : Fs) (p : Value) (bs : List Value) (w : World) : Prop := B ≤ b ∧ ∃ v, w.heap[b]? = some (.cells (cs F p v) 86 (0, 0)) ∧ w.ownsRowF B 5 1 v bs.length bs ∧ v.ownBlock ≠ some b ∧ (bs = [] → v = .slice none 0 0)
/-- the renderer's builder holds these bytes; what it writes lies behind block B -/
def Holds (B b : Nat) (F : Fs) (l : List UInt8) (w : World) : Prop := At B b F (.pointer none) (Lib.byteCells l) w ∨ At B b F (self b) (Lib.byteCells l) w
def Wrote (B b : Nat) (F : Fs) (l : List UInt8) (w w' : World) : Prop := Holds B b F l w' ∧ Below B w w' ∧ Lib.OthersKept 5 (some b) w w'

theorem At.lt {B b : Nat} {F : Fs} {p : Value} {bs : List Value} {w : World} (h : At B b F p bs w) : b < w.heap.size := by
  obtain ⟨_, v, hb, _⟩ := h
  exact (Array.getElem?_eq_some_iff.1 hb).1
theorem Holds.lt {B b : Nat} {F : Fs} {l : List UInt8} {w : World} (h : Holds B b F l w) : b < w.heap.size := h.elim At.lt At.lt
theorem At.cell {B b : Nat} {F : Fs} {p : Value} {bs : List Value} {w : World} (h : At B b F p bs w) : ∃ v, w.cell? ⟨b, 0, none⟩ = some F.a ∧ w.cell? ⟨b, 5, none⟩ = some F.r ∧ w.cell? ⟨b, 1, none⟩ = some F.l ∧ w.cell? ⟨b, 2, none⟩ = some F.i ∧ w.cell? ⟨b, 3, none⟩ = some p ∧ w.cell? ⟨b, 4, none⟩ = some v ∧ True := by
  obtain ⟨_, v, hb, _⟩ := h
  refine ⟨v, ?_, ?_, ?_, ?_, ?_, ?_, trivial⟩ <;> (simp only [World.cell?, hb, cs]; rfl)
theorem heap_frozen {w : World} {b : Nat} {c : Array Value} {T : TypeId} (hb : w.heap[b]? = some (.cells c T (0, 0))) (o : Nat) : w.frozen? ⟨b, o, none⟩ = false := Lib.frozen_of_heap hb o
theorem heap_set {w : World} {b : Nat} {c : Array Value} {T : TypeId} {z : Nat × Nat} (hb : w.heap[b]? = some (.cells c T z)) (o : Nat) (u : Value) : (w.setCell ⟨b, o, none⟩ u).heap[b]? = some (.cells (c.setIfInBounds o u) T z) := by
  simp [World.setCell, Array.getElem?_modify, hb]
theorem owns_set {w : World} {B b : Nat} {e : TypeId} {v : Value} {n : Nat} {xs : List Value} (h : w.ownsRowF B e 1 v n xs) (hne : v.ownBlock ≠ some b) (o : Nat) (u : Value) : (w.setCell ⟨b, o, none⟩ u).ownsRowF B e 1 v n xs :=
  h.kept (row := some b) ⟨rfl, rfl, rfl, by simp [World.setCell], fun k _ hk => Below.heap_setCell _ _ _ _ (fun e => hk (by simp [e]))⟩ (Or.inr hne)
/-- another field is stored to -/
theorem At.put {B b : Nat} {F : Fs} {p : Value} {bs : List Value} {w : World} (h : At B b F p bs w) (o : Nat) (u : Value) (F' : Fs) (p' : Value) (hc : ∀ v, (cs F p v).setIfInBounds o u = cs F' p' v) : At B b F' p' bs (w.setCell ⟨b, o, none⟩ u) := by
  obtain ⟨hB, v, hb, hown, hne, hnn⟩ := h
  exact ⟨hB, v, by rw [heap_set hb, hc], owns_set hown hne o u, hne, hnn⟩
theorem Holds.put {B b : Nat} {F : Fs} {l : List UInt8} {w : World} (h : Holds B b F l w) (o : Nat) (u : Value) (F' : Fs) (hc : ∀ p v, (cs F p v).setIfInBounds o u = cs F' p v) : Holds B b F' l (w.setCell ⟨b, o, none⟩ u) :=
  h.elim (fun x => .inl (x.put o u F' _ (hc _))) (fun x => .inr (x.put o u F' _ (hc _)))
theorem own_ne {w : World} {B : Nat} {e T : TypeId} {v : Value} {n : Nat} {xs : List Value} {b : Nat} {c : Array Value} {fr : Nat × Nat} (hown : w.ownsRowF B e 1 v n xs) (hb : w.heap[b]? = some (.cells c T fr)) (hTe : T ≠ e) : v.ownBlock ≠ some b := Lib.ownBlock_neF hown hb hTe
theorem At.drew {B b : Nat} {F : Fs} {p : Value} {bs : List Value} {w : World} (h : At B b F p bs w) : At B b F p bs w.drew := h
theorem At.grown {B b : Nat} {F : Fs} {p : Value} {bs : List Value} {w w' : World} (h : At B b F p bs w) {row : Option Nat} (hg : w.grownBy w' row) (hr : row ≠ some b) (hk : ∀ g, row = some g → ∃ c T fz, w.heap[g]? = some (.cells c T fz) ∧ T ≠ 5) : At B b F p bs w' := by
  have hlt := h.lt
  obtain ⟨hB, v, hb, hown, hne, hnn⟩ := h
  refine ⟨hB, v, (hg.block b hlt (fun e => hr e.symm)).trans hb, hown.kept hg ?_, hne, hnn⟩
  cases hv : v.ownBlock with
  | none => exact .inl rfl
  | some g =>
    refine .inr fun e => ?_
    obtain ⟨c, T, fz, hc, hT⟩ := hk g e.symm
    exact own_ne hown hc hT hv
theorem Holds.grown {B b : Nat} {F : Fs} {l : List UInt8} {w w' : World} (h : Holds B b F l w) {row : Option Nat} (hg : w.grownBy w' row) (hr : row ≠ some b) (hk : ∀ g, row = some g → ∃ c T fz, w.heap[g]? = some (.cells c T fz) ∧ T ≠ 5) : Holds B b F l w' :=
  h.elim (fun x => .inl (x.grown hg hr hk)) (fun x => .inr (x.grown hg hr hk))
theorem grown_below {w w' : World} (k : Below w.heap.size w w') : w.grownBy w' none := ⟨k.os, k.tape, k.output, k.size, fun i hi _ => k.block i hi⟩
theorem Holds.below {B b : Nat} {F : Fs} {l : List UInt8} {w w' : World} (h : Holds B b F l w) (k : Below w.heap.size w w') : Holds B b F l w' := h.grown (grown_below k) (by simp) (by simp)
theorem Holds.alloc {B b : Nat} {F : Fs} {l : List UInt8} {w : World} (h : Holds B b F l w) (o : Obj) : Holds B b F l (w.alloc o) := h.below ((Below.refl _ _).alloc (Nat.le_refl _) o)
theorem Wrote.refl {B b : Nat} {F : Fs} {l : List UInt8} {w : World} (h : Holds B b F l w) : Wrote B b F l w w := ⟨h, Below.refl _ _, Lib.OthersKept.refl _ _ _⟩
theorem Wrote.trans {B b : Nat} {F F' : Fs} {l l' : List UInt8} {w w1 w2 : World} (h : Wrote B b F l w w1) (k : Wrote B b F' l' w1 w2) : Wrote B b F' l' w w2 := ⟨k.1, h.2.1.trans k.2.1, h.2.2.trans k.2.2⟩
theorem Wrote.below {B b : Nat} {F : Fs} {l : List UInt8} {w w1 w2 : World} (h : Wrote B b F l w w1) (hB : B ≤ w.heap.size) (k : Below w1.heap.size w1 w2) : Wrote B b F l w w2 :=
  ⟨h.1.below k, h.2.1.trans (k.mono (Nat.le_trans hB h.2.1.size)), fun i o hi hb ho => by
    have h1 := h.2.2 i o hi hb ho
    exact (k.block i (Array.getElem?_eq_some_iff.1 h1).1).trans h1⟩
theorem Wrote.alloc {B b : Nat} {F : Fs} {l : List UInt8} {w : World} (h : Holds B b F l w) (hB : B ≤ w.heap.size) (o : Obj) : Wrote B b F l w (w.alloc o) :=
  (Wrote.refl h).below hB ((Below.refl _ _).alloc (Nat.le_refl _) _)
theorem Wrote.cell {B b : Nat} {F : Fs} {l : List UInt8} {w w' : World} (h : Wrote B b F l w w') {k o : Nat} {c : Array Value} {T : TypeId} {fz : Nat × Nat} (hk : w.heap[k]? = some (.cells c T fz)) (hT : T ≠ 5) (hb : k ≠ b) : w'.cell? ⟨k, o, none⟩ = w.cell? ⟨k, o, none⟩ :=
  World.cell?_of_block (w := w) ((h.2.2 k _ hk (by simpa using hb) (fun c' fz' e => hT (by cases e; rfl))).trans hk.symm)

theorem infoU : (Try.prog.info? 5).map (fun i => (i.zero, i.size, i.bytes)) = some (some (.int .u8 0), 1, 1) := by kernel_rfl
theorem cellsU : Try.prog.cellsOf 5 = 1 := by kernel_rfl

set_option maxHeartbeats 1000000 in
set_option maxRecDepth 100000 in
/-- Len: the number of bytes -/
theorem len (B b : Nat) (F : Fs) (l : List UInt8) (w : World) (h : Holds B b F l w) :
    Calls Try.prog 141 #[self b] w fun e w' => e = .returned (.int .i64 l.length) ∧ w' = w := by
  obtain ⟨v, c5, n, hv, rfl⟩ : ∃ v, w.cell? ⟨b, 4, none⟩ = some v ∧ ∃ (a : Option Addr) (cap : Nat), v = .slice a l.length cap := by
    have q : ∀ p, At B b F p (Lib.byteCells l) w → ∃ v, w.cell? ⟨b, 4, none⟩ = some v ∧ ∃ (a : Option Addr) (cap : Nat), v = .slice a l.length cap := by
      rintro p ⟨_, v, hb, hown, _⟩
      refine ⟨v, by simp only [World.cell?, hb, cs]; rfl, ?_⟩
      rw [Lib.byteCells_length] at hown
      rcases hown.2 with ⟨hv, h0⟩ | ⟨g, cap, cur, fz, hv, _⟩
      · rw [h0]; exact ⟨_, _, hv⟩
      · exact ⟨_, _, hv⟩
    exact h.elim (q _) (q _)
  clear h
  go_enter Try.func141, Try.ntmps141
  go_wp2
  go_ret
  exact ⟨rfl, rfl⟩

theorem Holds.at {B b : Nat} {F : Fs} {l : List UInt8} {w : World} (h : Holds B b F l w) : ∃ p, (p = .pointer none ∨ p = self b) ∧ At B b F p (Lib.byteCells l) w :=
  h.elim (fun x => ⟨_, .inl rfl, x⟩) (fun x => ⟨_, .inr rfl, x⟩)
theorem At.holds {B b : Nat} {F : Fs} {p : Value} {l : List UInt8} {w : World} (h : At B b F p (Lib.byteCells l) w) (hp : p = .pointer none ∨ p = self b) : Holds B b F l w := by
  rcases hp with rfl | rfl
  · exact .inl h
  · exact .inr h
theorem froze_other (w : World) (g n b : Nat) (h : g ≠ b) : (w.freeze ⟨g, 0, none⟩ n).heap[b]? = w.heap[b]? := by
  unfold World.freeze
  split
  · rfl
  · simp only [Array.getElem?_modify]; rw [if_neg h]
theorem froze_own {w : World} {B g cap n : Nat} {e : TypeId} {xs : List Value} (hown : w.ownsRowF B e 1 (.slice (some ⟨g, 0, none⟩) n cap) n xs) : (w.freeze ⟨g, 0, none⟩ n).ownsRowF B e 1 (.slice (some ⟨g, 0, none⟩) n cap) n xs := by
  obtain ⟨h1, h2⟩ := hown
  refine ⟨h1, ?_⟩
  rcases h2 with h2 | ⟨g2, c2, cur, fz, h2, h3, h4, h5, rest⟩
  · exact absurd h2.1 (by simp)
  · injection h2 with q1 q2 q3
    injection q1 with q1
    injection q1 with q1
    subst q1 q3
    unfold World.freeze
    split
    · exact .inr ⟨g, _, cur, fz, rfl, h3, h4, h5, rest⟩
    · obtain ⟨lo, hi⟩ := fz
      refine .inr ⟨g, _, cur, (if lo == hi then (0, 0 + n) else (min lo 0, max hi (0 + n))), rfl, h3, by simp [Array.getElem?_modify, h4], ?_, rest⟩
      simp only at h5
      split <;> simp <;> omega
set_option maxHeartbeats 2000000 in
set_option maxRecDepth 100000 in
theorem string_nil (B b : Nat) (F : Fs) (w : World) (h : Holds B b F [] w) :
    Calls Try.prog 116 #[self b] w fun e w' => e = .returned (.string ⟨#[]⟩) ∧ Wrote B b F [] w w' := by
  obtain ⟨p, hp, hA⟩ := h.at
  have c1 : w.cell? ⟨b, 4, none⟩ = some (.slice none 0 0) := by
    obtain ⟨_, v, hb, _, _, hnn⟩ := hA
    obtain rfl := hnn rfl
    simp only [World.cell?, hb, cs]; rfl
  have hSD : ∀ W : World, (Builtin.unsafeSliceData_ #[22] 185 #[.slice none 0 0]).run Try.prog W = .ok (.pointer none) W := fun _ => rfl
  have hUS := fun (W : World) => Lib.run_unsafeString_none (P := Try.prog) W 185 3 9 none
  have HH := Lib.hid h
  clear h hA hp
  go_enter Try.func116, Try.ntmps116
  go_wp2
  go_region
  all_goals (go_wp2; go_ret; exact ⟨rfl, HH.out, Below.drew (Below.refl B w), (Lib.OthersKept.refl _ _ w).drew⟩)

set_option maxHeartbeats 2000000 in
set_option maxRecDepth 100000 in
theorem string_some (B b : Nat) (F : Fs) (l : List UInt8) (h0 : l ≠ []) (w : World) (h : Holds B b F l w) :
    Calls Try.prog 116 #[self b] w fun e w' => e = .returned (.string ⟨l.toArray⟩) ∧ Wrote B b F l w w' := by
  obtain ⟨p, hp, hA⟩ := h.at
  obtain ⟨i0, hi, hz0, hz1, hz2⟩ := info_parts infoU
  obtain ⟨hB, v, hbk, hown, hne, hnn⟩ := hA
  have hl0 : l.length ≠ 0 := by simpa using h0
  rw [Lib.byteCells_length] at hown
  obtain ⟨g, cap, cur, fz, rfl, hbg, hg, hfz, hnc, hcm, hcs, htake⟩ : ∃ g cap cur fz, v = .slice (some ⟨g, 0, none⟩) l.length cap ∧ B ≤ g ∧ w.heap[g]? = some (.cells cur 5 fz) ∧ fz.2 ≤ l.length * 1 ∧ l.length ≤ cap ∧ cap ≤ maxLen ∧ cur.size = cap * 1 ∧ cur.toList.take (l.length * 1) = Lib.byteCells l := by
    rcases hown.2 with ⟨_, hz⟩ | ⟨g, cap, cur, fz, hv, r⟩
    · exact absurd hz hl0
    · exact ⟨g, cap, cur, fz, hv, r⟩
  have c1 : w.cell? ⟨b, 4, none⟩ = some (.slice (some ⟨g, 0, none⟩) l.length cap) := by simp only [World.cell?, hbk, cs]; rfl
  have hSD : (Builtin.unsafeSliceData_ #[22] 185 #[.slice (some ⟨g, 0, none⟩) l.length cap]).run Try.prog w.drew = .ok (.pointer (some ⟨g, 0, none⟩)) w.drew :=
    Lib.run_unsafeSliceData_row _ _ _ _ _ _ (by omega)
  have hUS : (Builtin.unsafeString_ #[185, 3] 9 #[.pointer (some ⟨g, 0, none⟩), .int .i64 l.length]).run Try.prog w.drew = .ok (.string ⟨l.toArray⟩) (w.drew.freeze ⟨g, 0, none⟩ l.length) := by
    refine Lib.run_unsafeString_row w.drew 185 3 9 5 Try.underlying185 cellsU g cur.size (by have hg' : w.drew.heap[g]? = some (.cells cur 5 fz) := hg; simp [World.shape?, hg']) l h0 (by omega) (by unfold maxLen at hcm; omega) ?_
    intro j x hx
    exact hown.cells (g := g) rfl j (.int .u8 x.toNat) (by simp [Lib.byteCells, hx])
  have hgb : g ≠ b := fun e => hne (by simp [Value.ownBlock, e])
  have hkeep : Holds B b F l (w.drew.freeze ⟨g, 0, none⟩ l.length) := by
    refine At.holds (p := p) ⟨hB, .slice (some ⟨g, 0, none⟩) l.length cap, ?_, ?_, hne, fun e => absurd (by have := congrArg List.length e; rw [Lib.byteCells_length] at this; exact this) hl0⟩ hp
    · exact (froze_other w.drew g _ b hgb).trans hbk
    · rw [Lib.byteCells_length]; exact froze_own (w := w.drew) hown
  have HH := Lib.hid (And.intro hkeep (And.intro hbg hg))
  clear h hp hkeep hfz hcs htake hown hne hnn hbk hbg hg
  go_enter Try.func116, Try.ntmps116
  go_wp2
  go_region
  all_goals (go_wp2; go_ret; exact ⟨rfl, HH.out.1, Lib.below_freeze (Below.drew (Below.refl B w)) (p := ⟨g, 0, none⟩) HH.out.2.1 _, ((Lib.OthersKept.refl _ _ w).drew).freeze ⟨g, 0, none⟩ _ ⟨cur, fz, HH.out.2.2⟩⟩)

/-- String: the bytes, which are frozen from then on -/
theorem string (B b : Nat) (F : Fs) (l : List UInt8) (w : World) (h : Holds B b F l w) :
    Calls Try.prog 116 #[self b] w fun e w' => e = .returned (.string ⟨l.toArray⟩) ∧ Wrote B b F l w w' := by
  by_cases h0 : l = []
  · subst h0; exact string_nil B b F w h
  · exact string_some B b F l h0 w h

end Go.Proofs.Ytcealfjkcbaelaa.BufS

