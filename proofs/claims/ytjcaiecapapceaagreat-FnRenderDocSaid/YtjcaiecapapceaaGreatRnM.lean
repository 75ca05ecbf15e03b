import Derived.Test.YtjcaiecapapceaaGreatRnB
/-
 A renderer of the program in memory: what is left of the document, the lines, the line that is not complete, the flags.
-/
set_option linter.unusedVariables false
set_option linter.unusedSimpArgs false
namespace Go.Proofs.YtjcaiecapapceaaGreat.RnM
open Go.RowKit Go.Shelf P1 Cnt CntC Flat Wid ChP Rn Bwd BufQ
open LayN (cells2 cells2_len cells2_one)
open LayC (cells2_app)
theorem info5 : (Tryz.prog.info? 109).map (fun i => (i.zero.map (fun z => z.cells.size), i.size, i.bytes)) = some (some 5, 5, 64) := by kernel_rfl
theorem info2 : (Tryz.prog.info? 67).map (fun i => (i.zero.map (fun z => z.cells.size), i.size, i.bytes)) = some (some 2, 2, 24) := by kernel_rfl
theorem info1 : (Tryz.prog.info? 4).map (fun i => (i.zero.map (fun z => z.cells.size), i.size, i.bytes)) = some (some 1, 1, 1) := by kernel_rfl
theorem info_some {P : Program} {T : TypeId} {n b : Nat} (h : (P.info? T).map (fun i => (i.zero.map (fun z => z.cells.size), i.size, i.bytes)) = some (some n, n, b)) : ∃ i z, P.info? T = some i ∧ i.zero = some z ∧ i.size = n ∧ i.bytes = b ∧ z.cells.size = n := by
 obtain ⟨i, h1, h2⟩ := Option.map_eq_some_iff.1 h
 simp only [Prod.mk.injEq] at h2
 obtain ⟨z, hz, hzs⟩ := Option.map_eq_some_iff.1 h2.1
 exact ⟨i, z, h1, hz, h2.2.1, h2.2.2, hzs⟩
theorem own_block {w : World} {B : Nat} {T : TypeId} {n m : Nat} {v : Value} {xs : List Value} (h : w.ownsRow B T n v m xs) : ∀ g, v.ownBlock = some g → ∃ c, w.heap[g]? = some (.cells c T (0, 0)) := by
 intro g hg
 rcases h.2 with ⟨rfl, _⟩ | ⟨g', cap, cur, rfl, _, hgg, _⟩
 ·simp [Value.ownBlock] at hg
 ·simp only [Value.ownBlock, Option.some.injEq] at hg; subst hg; exact ⟨_, hgg⟩
theorem own_ne {w : World} {B : Nat} {T : TypeId} {n m : Nat} {v : Value} {xs : List Value} (h : w.ownsRow B T n v m xs) {g : Nat} {c : Array Value} {T' : TypeId} {z : Nat × Nat} (hg : w.heap[g]? = some (.cells c T' z)) (hT : T ≠ T') : v.ownBlock ≠ some g := by
 intro e
 obtain ⟨c', hc⟩ := own_block h g e
 rw [hg] at hc
 injection hc with hc
 injection hc with _ hc
 exact hT hc.symm
theorem own_or {v : Value} {g : Option Nat} (h : ∀ k, g = some k → v.ownBlock ≠ some k) : v.ownBlock = none ∨ v.ownBlock ≠ g := by
 cases hv : v.ownBlock with
 | none => exact .inl rfl
 | some k => exact .inr fun e => h k e.symm hv
theorem own_wrote {w w' : World} {B b : Nat} {F : Fs} {l : List UInt8} {T : TypeId} {n m : Nat} {v : Value} {xs : List Value} (h : w.ownsRow B T n v m xs) (hT : T ≠ 5) (hR : T ≠ 61) (hb : Holds B b F l w) (k : Lib.OthersKept 5 (some b) w w') : w'.ownsRow B T n v m xs := by
 obtain ⟨h1, h2⟩ := h
 refine ⟨h1, ?_⟩
 rcases h2 with h2 | ⟨g, cap, cur, rfl, h3, h4, h5⟩
 ·exact .inl h2
 ·refine .inr ⟨g, cap, cur, rfl, h3, k g _ h4 ?_ (fun c fz e => hT (by cases e; rfl)), h5⟩
  intro e
  injection e with e
  subst e
  obtain ⟨p, _, _, v, hbk, _⟩ := hb.at
  rw [h4] at hbk
  injection hbk with hbk
  injection hbk with _ hbk
  exact hR hbk
theorem stack_wrote {w w' : World} {B b lo n : Nat} {α : Type} {CV : α → List Value → Prop} {F : Fs} {l : List UInt8} {T : TypeId} {v : Value} {st : List α} (h : StackG CV n w T B v st) (hT : T ≠ 5) (hR : T ≠ 61) (hb : Holds B b F l w) (k : Lib.OthersKept 5 (some b) w w') : StackG CV n w' T B v st := by
 obtain ⟨xs, h1, h2⟩ := h
 exact ⟨xs, own_wrote h1 hT hR hb k, h2⟩
theorem ne1 : 109 ≠ 5 := by decide
theorem ne2 : 67 ≠ 5 := by decide
theorem ne3 : 4 ≠ 5 := by decide
theorem ne4 : 109 ≠ 61 := by decide
theorem ne5 : 67 ≠ 61 := by decide
theorem ne6 : 4 ≠ 61 := by decide
theorem ne7 : 109 ≠ 67 := by decide
theorem ne8 : 109 ≠ 4 := by decide
theorem ne9 : 67 ≠ 4 := by decide
def KeptBut (ts : List TypeId) (b : Nat) (w w' : World) : Prop := ∀ k c T z, w.heap[k]? = some (.cells c T z) → k ≠ b → T ∉ ts → w'.heap[k]? = some (.cells c T z)
theorem KeptBut.trans {ts : List TypeId} {b : Nat} {w w1 w2 : World} (h : KeptBut ts b w w1) (k : KeptBut ts b w1 w2) : KeptBut ts b w w2 := fun i c T z h1 h2 h3 => k i c T z (h i c T z h1 h2 h3) h2 h3
theorem kept_others {ts : List TypeId} {b : Nat} {w w' : World} (h : Lib.OthersKept 5 (some b) w w') (ht : 5 ∈ ts) : KeptBut ts b w w' := fun k c T z h1 h2 h3 => h k _ h1 (by simpa using h2) (fun c' z' e => h3 (by cases e; exact ht))
theorem kept_ext {ts : List TypeId} {b : Nat} {w w' : World} (h : Below w.heap.size w w') : KeptBut ts b w w' := fun k c T z h1 _ _ => (h.block k (Array.getElem?_eq_some_iff.1 h1).1).trans h1
theorem kept_set (ts : List TypeId) (b o : Nat) (w : World) (u : Value) : KeptBut ts b w (w.setCell ⟨b, o, none⟩ u) := fun k c T z h1 h2 _ => (Below.heap_setCell _ _ _ _ (fun e => h2 e)).trans h1
theorem kept_append {ts : List TypeId} {b : Nat} {w w' : World} {B : Nat} {T : TypeId} {n m : Nat} {v : Value} {xs : List Value} {o : Obj} (hg : (w.alloc o).grownBy w' v.ownBlock) (h : w.ownsRow B T n v m xs) (ht : T ∈ ts) : KeptBut ts b w w' := fun k c T' z h1 h2 h3 => by
 have hk := (Array.getElem?_eq_some_iff.1 h1).1
 refine (hg.block k (by simp; omega) (fun e => ?_)).trans ((Below.heap_alloc _ _ _ hk).trans h1)
 obtain ⟨c', hc⟩ := own_block h k e.symm
 rw [h1] at hc
 injection hc with hc
 injection hc with _ hc
 exact h3 (hc ▸ ht)
structure RF (w0 : World) (B b : Nat) (W : Int) (its : List Itm) (s : St) (F : Fs) (w : World) : Prop where
 hold : Holds B b F s.txt.data.toList w
 rest : StackG (ItV w0 B) 5 w 109 B F.r its
 rows : w.ownsRow B 67 2 F.l s.rows.length (cells2 s.rows)
 flags : w.ownsRow B 4 1 F.g s.flags.length (s.flags.map Value.bool)
 ind : F.i = .int .i64 s.ind
 wid : F.a = .int .i64 W
def RS (w0 : World) (B b : Nat) (W : Int) (its : List Itm) (s : St) (w : World) : Prop := ∃ F, RF w0 B b W its s F w
section
variable {w0 w w' : World} {B b : Nat} {W : Int} {its : List Itm} {s : St} {F : Fs}
theorem RF.grown_none (h : RF w0 B b W its s F w) (k : w.grownBy w' none) : RF w0 B b W its s F w' :=
 ⟨h.hold.grown k (by simp) (by simp), h.rest.kept k (own_or (by simp)), h.rows.kept k (own_or (by simp)), h.flags.kept k (own_or (by simp)), h.ind, h.wid⟩
theorem RF.below (h : RF w0 B b W its s F w) (k : Below w.heap.size w w') : RF w0 B b W its s F w' := h.grown_none (grown_below k)
theorem RS.below (h : RS w0 B b W its s w) (k : Below w.heap.size w w') : RS w0 B b W its s w' := by obtain ⟨F, h⟩ := h; exact ⟨F, h.below k⟩
theorem RF.wrote (h : RF w0 B b W its s F w) {l : List UInt8} (k : Wrote B b F l w w') {t : ByteArray} (ht : t.data.toList = l) : RF w0 B b W its { s with txt := t } F w' :=
 ⟨by rw [show ({ s with txt := t } : St).txt = t from rfl, ht]; exact k.1, stack_wrote (lo := B) h.rest ne1 ne4 h.hold k.2.2, own_wrote h.rows ne2 ne5 h.hold k.2.2, own_wrote h.flags ne3 ne6 h.hold k.2.2, h.ind, h.wid⟩
theorem RF.block (h : RF w0 B b W its s F w) : ∃ c, w.heap[b]? = some (.cells c 61 (0, 0)) := by
 obtain ⟨p, _, _, v, hb, _⟩ := h.hold.at
 exact ⟨_, hb⟩
theorem RF.cells (h : RF w0 B b W its s F w) : w.cell? ⟨b, 0, none⟩ = some (.int .i64 W) ∧ w.cell? ⟨b, 5, none⟩ = some F.r ∧ w.cell? ⟨b, 1, none⟩ = some F.l ∧ w.cell? ⟨b, 2, none⟩ = some (.int .i64 s.ind) ∧ w.cell? ⟨b, 6, none⟩ = some F.g ∧ (∀ o, w.frozen? ⟨b, o, none⟩ = false) ∧ b < w.heap.size ∧ B ≤ b := by
 obtain ⟨p, hp, hA⟩ := h.hold.at
 obtain ⟨v, c0, c1, c2, c3, _, _, c6⟩ := hA.cell
 obtain ⟨c, hc⟩ := h.block
 exact ⟨by rw [c0, h.wid], c1, c2, by rw [c3, h.ind], c6, heap_frozen hc, (Array.getElem?_eq_some_iff.1 hc).1, hA.1⟩
theorem grown_set (w : World) (b o : Nat) (u : Value) : w.grownBy (w.setCell ⟨b, o, none⟩ u) (some b) := ⟨rfl, rfl, rfl, by simp [World.setCell], fun k _ hk => Below.heap_setCell _ _ _ _ (fun e => hk (by simp [e]))⟩
theorem RF.set (h : RF w0 B b W its s F w) {row : Option Nat} {w1 : World} (hg : w.grownBy w1 row) (hrow : ∀ g, row = some g → ∃ c T, w.heap[g]? = some (.cells c T (0, 0)) ∧ T ≠ 5 ∧ T ≠ 61)
  (o : Nat) (u : Value) (F' : Fs) (hc : ∀ p v, (cs F p v).setIfInBounds o u = cs F' p v) (its' : List Itm) (s' : St) (hs : s'.txt = s.txt)
  (hrest : StackG (ItV w0 B) 5 w1 109 B F'.r its') (hrows : w1.ownsRow B 67 2 F'.l s'.rows.length (cells2 s'.rows)) (hflags : w1.ownsRow B 4 1 F'.g s'.flags.length (s'.flags.map Value.bool)) (hi : F'.i = .int .i64 s'.ind) (hw : F'.a = .int .i64 W) :
  RF w0 B b W its' s' F' (w1.setCell ⟨b, o, none⟩ u) := by
 obtain ⟨c, hcb⟩ := h.block
 have hbl := (Array.getElem?_eq_some_iff.1 hcb).1
 have hrb : row ≠ some b := fun e => by
  obtain ⟨c', T, h1, h2, h3⟩ := hrow b e
  rw [hcb] at h1; injection h1 with h1; injection h1 with _ h1; exact h3 h1.symm
 have hH := h.hold.grown hg hrb (fun g e => by obtain ⟨c', T, h1, h2, h3⟩ := hrow g e; exact ⟨c', T, _, h1, h2⟩)
 have hcb1 : w1.heap[b]? = some (.cells c 61 (0, 0)) := (hg.block b hbl (fun e => hrb e.symm)).trans hcb
 have hk := grown_set w1 b o u
 have q : ∀ {T : TypeId} {n m : Nat} {v : Value} {xs : List Value}, w1.ownsRow B T n v m xs → T ≠ 61 → (w1.setCell ⟨b, o, none⟩ u).ownsRow B T n v m xs := fun h1 hT =>
  h1.kept hk (own_or (fun k e => by cases e; exact own_ne h1 hcb1 hT))
 obtain ⟨xs, x1, x2⟩ := hrest
 exact ⟨by rw [hs]; exact hH.put o u F' hc, ⟨xs, q x1 ne4, x2⟩, q hrows ne5, q hflags ne6, hi, hw⟩
end
end Go.Proofs.YtjcaiecapapceaaGreat.RnM
