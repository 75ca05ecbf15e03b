import Derived.Test.YtjcaiecapapceaaGreatCpA
import Derived.ProofKit
/-
 What the model's l1Mutate comes to: some document of a bounded size, in memory of its own.
-/
set_option linter.unusedVariables false
set_option linter.unusedSimpArgs false
set_option maxRecDepth 100000
set_option maxHeartbeats 12800000
namespace Go.Proofs.YtjcaiecapapceaaGreat.Mut
open Go.RowKit P1 Draw Draw2 Copy CopyS DrA DrD
theorem Grow.but {w w' : World} {T : TypeId} {lo x : Nat} {v : Value} {p : F} {fs : List Nat} (h : Grow w T lo v p fs) (k : But w.heap.size x w w') (hx : x < lo) : Grow w' T lo v p fs := by
 obtain ⟨⟨xs, h1⟩, h2, h3, h4⟩ := h
 have hg : w.grownBy w' (some x) := ⟨k.os, k.tape, k.output, k.size, fun i hi hne => k.block i hi (fun e => hne (by rw [e]))⟩
 have hc : ∀ c ∈ fs, ∀ o, w'.cell? ⟨c, o, none⟩ = w.cell? ⟨c, o, none⟩ := fun c hc o => k.cell (h3.lt c hc) (by have := (h3.2 c hc).1; omega)
 refine ⟨⟨xs, h1.kept hg ?_⟩, ?_, h3.alike k.size (fun c hc o => k.frozen (h3.lt c hc) (by have := (h3.2 c hc).1; omega)), Nat.le_trans h4 k.size⟩
 ·right
  intro e
  have := (h1.lt x e).1
  omega
 ·rcases h2 with h2 | ⟨b, cap, f', e, hp, rfl, hr⟩
  ·exact .inl h2
  ·exact .inr ⟨b, cap, f', e, hp, rfl, hr.congr (hc b (by simp)) (fun c hm => hc c (by simp [hm]))⟩
theorem Grow.setAt {w : World} {T : TypeId} {lo : Nat} {v : Value} {p : F} {fs : List Nat} (h : Grow w T lo v p fs) {a : Addr} (ho : v.ownBlock ≠ some a.block) (hf : a.block ∉ fs) (u : Value) : Grow (w.setCell a u) T lo v p fs := by
 obtain ⟨⟨xs, h1⟩, h2, h3, h4⟩ := h
 have hg : w.grownBy (w.setCell a u) (some a.block) := ⟨rfl, rfl, rfl, by simp [World.setCell], fun k hk hne => Below.heap_setCell _ _ _ _ (fun e => hne (by rw [e]))⟩
 have hc : ∀ c ∈ fs, ∀ o, (w.setCell a u).cell? ⟨c, o, none⟩ = w.cell? ⟨c, o, none⟩ := fun c hc o => World.cell?_setCell_other _ _ _ _ (fun e => hf (by subst e; exact hc))
 refine ⟨⟨xs, h1.kept hg (.inr ho)⟩, ?_, h3.alike (by simp) (fun c _ o => World.frozen?_setCell _ _ _ _), by simpa using h4⟩
 rcases h2 with h2 | ⟨b, cap, f', e, hp, rfl, hr⟩
 ·exact .inl h2
 ·exact .inr ⟨b, cap, f', e, hp, rfl, hr.congr (hc b (by simp)) (fun c hm => hc c (by simp [hm]))⟩
theorem rdSet' {wr : World} {x lo q b o : Nat} (h : Rd wr x lo q) (hb : x < b) (u : Value) : Rd (wr.setCell ⟨b, o, none⟩ u) x lo q := by
 obtain ⟨a, l, c, h0, h1, h2, h3, h4, h5, h6⟩ := h
 refine ⟨a, l, c, by rw [World.cell?_setCell_other _ _ _ _ (by intro e; injection e with e1; omega)]; exact h0, by rw [World.cell?_setCell_other _ _ _ _ (by intro e; injection e with e1; omega)]; exact h1, by rw [World.frozen?_setCell]; exact h2, h3, h4, h5, fun hl => ?_⟩
 obtain ⟨b', off, ha, hb', hc⟩ := h6 hl
 refine ⟨b', off, ha, hb', fun i hi => ?_⟩
 obtain ⟨v, hv, hcell⟩ := hc i hi
 exact ⟨v, hv, by rw [World.cell?_setCell_other _ _ _ _ (by intro e; injection e with e1; omega)]; exact hcell⟩
def DocOut (w : World) (x lo p c M : Nat) (e : Ending) (w' : World) : Prop := ∃ (o n : Int) (t : ByteArray) (k : F) (a : Option Addr) (cap : Nat) (fs : List Nat) (q : Nat), e = .returned (.agg #[.int .i64 o, .int .i64 n, .string t, .slice a k.len cap]) ∧ k.len ≤ cap ∧ t.size + k.size ≤ M ∧
 SubAt w' a k fs ∧ Fresh w.heap.size w' fs ∧ Rd w' x lo q ∧ q ≤ p + c ∧ But w.heap.size x w w'
structure MS (w wr : World) (x lo q B : Nat) (o n : Int) (t : ByteArray) (v : Value) (k : F) (fs : List Nat) : Prop where
 rd : Rd wr x lo q
 but : But w.heap.size x w wr
 th : wr.there (w.heap.size + 1) 0 4
 c0 : wr.cell? ⟨B, 0, none⟩ = some (.int .i64 o)
 c1 : wr.cell? ⟨B, 1, none⟩ = some (.int .i64 n)
 c2 : wr.cell? ⟨B, 2, none⟩ = some (.string t)
 c3 : wr.cell? ⟨B, 3, none⟩ = some v
 fz : ∀ i, wr.frozen? ⟨B, i, none⟩ = false
 hB : w.heap.size + 5 ≤ B
 lt : B < wr.heap.size
 gr : Grow wr 25 (w.heap.size + 5) v k fs
 oB : v.ownBlock ≠ some B
 fB : B ∉ fs
section
variable {w wr w' : World} {x lo q B : Nat} {o n : Int} {t : ByteArray} {v : Value} {k : F} {fs : List Nat}
theorem MS.step (h : MS w wr x lo q B o n t v k fs) (hx : x < w.heap.size) {q' : Nat} (kk : But wr.heap.size x wr w') (hr : Rd w' x lo q') : MS w w' x lo q' B o n t v k fs := by
 have hB := h.hB
 have hl := h.lt
 have hne : B ≠ x := by omega
 exact ⟨hr, h.but.trans (kk.mono h.but.size), fun j hj => ⟨by rw [kk.cell (by omega) (by omega)]; exact (h.th j hj).1, by rw [kk.frozen (by omega) (by omega)]; exact (h.th j hj).2⟩, (kk.cell hl hne).trans h.c0, (kk.cell hl hne).trans h.c1, (kk.cell hl hne).trans h.c2, (kk.cell hl hne).trans h.c3, fun i => (kk.frozen hl hne).trans (h.fz i), hB, Nat.lt_of_lt_of_le hl kk.size, Grow.but h.gr kk (by omega), h.oB, h.fB⟩
theorem MS.alloc (h : MS w wr x lo q B o n t v k fs) (hx : x < w.heap.size) (ob : Obj) : MS w (wr.alloc ob) x lo q B o n t v k fs :=
 h.step hx ((But.refl _ _ _).alloc (Nat.le_refl _) _) (rdBelow h.rd (by have := h.hB; have := h.lt; omega) ((Below.refl _ _).alloc (Nat.le_refl _) _))
theorem MS.setB (h : MS w wr x lo q B o n t v k fs) (hx : x < w.heap.size) (i : Nat) (u : Value) {o' n' : Int} {t' : ByteArray}
  (e0 : (wr.setCell ⟨B, i, none⟩ u).cell? ⟨B, 0, none⟩ = some (.int .i64 o')) (e1 : (wr.setCell ⟨B, i, none⟩ u).cell? ⟨B, 1, none⟩ = some (.int .i64 n')) (e2 : (wr.setCell ⟨B, i, none⟩ u).cell? ⟨B, 2, none⟩ = some (.string t')) (e3 : (wr.setCell ⟨B, i, none⟩ u).cell? ⟨B, 3, none⟩ = some v) :
  MS w (wr.setCell ⟨B, i, none⟩ u) x lo q B o' n' t' v k fs := by
 have hB := h.hB
 refine ⟨rdSet' h.rd (by omega) _, h.but.setCell (Or.inr (by show w.heap.size ≤ B; omega)) _, fun j hj => ⟨?_, by rw [World.frozen?_setCell]; exact (h.th j hj).2⟩, e0, e1, e2, e3, fun i => by rw [World.frozen?_setCell]; exact h.fz i, hB, by simpa using h.lt, Grow.setAt h.gr h.oB h.fB u, h.oB, h.fB⟩
 rw [World.cell?_setCell_other _ _ _ _ (fun e => by injection e with e4; omega)]
 exact (h.th j hj).1
theorem MS.set0 (h : MS w wr x lo q B o n t v k fs) (hx : x < w.heap.size) (o' : Int) : MS w (wr.setCell ⟨B, 0, none⟩ (.int .i64 o')) x lo q B o' n t v k fs :=
 h.setB hx 0 _ (World.cell?_setCell_same _ _ _ h.c0) (by rw [World.cell?_setCell_other _ _ _ _ (by simp)]; exact h.c1) (by rw [World.cell?_setCell_other _ _ _ _ (by simp)]; exact h.c2) (by rw [World.cell?_setCell_other _ _ _ _ (by simp)]; exact h.c3)
theorem MS.set1 (h : MS w wr x lo q B o n t v k fs) (hx : x < w.heap.size) (n' : Int) : MS w (wr.setCell ⟨B, 1, none⟩ (.int .i64 n')) x lo q B o n' t v k fs :=
 h.setB hx 1 _ (by rw [World.cell?_setCell_other _ _ _ _ (by simp)]; exact h.c0) (World.cell?_setCell_same _ _ _ h.c1) (by rw [World.cell?_setCell_other _ _ _ _ (by simp)]; exact h.c2) (by rw [World.cell?_setCell_other _ _ _ _ (by simp)]; exact h.c3)
theorem MS.set2 (h : MS w wr x lo q B o n t v k fs) (hx : x < w.heap.size) (t' : ByteArray) : MS w (wr.setCell ⟨B, 2, none⟩ (.string t')) x lo q B o n t' v k fs :=
 h.setB hx 2 _ (by rw [World.cell?_setCell_other _ _ _ _ (by simp)]; exact h.c0) (by rw [World.cell?_setCell_other _ _ _ _ (by simp)]; exact h.c1) (World.cell?_setCell_same _ _ _ h.c2) (by rw [World.cell?_setCell_other _ _ _ _ (by simp)]; exact h.c3)
theorem MS.end (h : MS w wr x lo q B o n t v k fs) (hx : x < w.heap.size) {w4 : World} {p c M : Nat} (ht : Touch (w.heap.size + 1) (w.heap.size + 2) wr w4) (hM : t.size + k.size ≤ M) (hq : q ≤ p + c) : DocOut w x lo p c M (.returned (.agg #[.int .i64 o, .int .i64 n, .string t, v])) w4 := by
 obtain ⟨a, cap, rfl, hc, hs, _⟩ := h.gr.slice
 have hlo : ∀ c ∈ fs, w.heap.size + 2 ≤ c := fun c hc => by have := (h.gr.fresh.2 c hc).1; omega
 exact ⟨o, n, t, k, a, cap, fs, q, rfl, hc, hM, ht.sub hs (fun c hc => Or.inr (hlo c hc)), (ht.fresh h.gr.fresh (fun c hc => Or.inr (hlo c hc))).mono (by omega), rdTouch h.rd (by omega) ht, hq, butTouch h.but ht (by omega)⟩
end
-- the walk
def bits5 : List ByteArray := [⟨#[]⟩, ⟨#[65]⟩, ⟨#[97, 98, 99, 100, 101, 102, 103, 104, 105, 106, 107, 108, 109]⟩, ⟨#[120, 32, 121]⟩, ⟨#[122]⟩]
theorem bits5_small : ∀ s ∈ bits5, s.size ≤ 13 := by decide
def MutAt (d : Nat) (k : F) : Prop := ∀ (w : World) (x lo p : Nat) (o n : Int) (t : ByteArray) (a : Option Addr) (cap : Nat) (fs : List Nat), SubAt w a k fs → (∀ c ∈ fs, c < w.heap.size) → k.len ≤ cap → k.size ≤ 4000000 → t.size ≤ 4000000 → Rd w x lo p → p + (3 + 2 * d) ≤ 1073741824 → x < w.heap.size →
 Calls Tryz.prog 81 #[.pointer (some ⟨x, 0, none⟩), .agg #[.int .i64 o, .int .i64 n, .string t, .slice a k.len cap]] w (DocOut w x lo p (3 + 2 * d) (t.size + k.size + 20))
theorem app_ne (k : F) (o n : Int) (t : ByteArray) (j : F) : k.app (.cons o n t j .nil) ≠ .nil := fun e => by
 have := congrArg F.len e
 rw [F.len_app] at this
 simp [F.len] at this
theorem MS.grown {w wr wr' : World} {x lo q B : Nat} {o n : Int} {t : ByteArray} {v v' : Value} {k k' : F} {fs fs' : List Nat} (h : MS w wr x lo q B o n t v k fs) (hx : x < w.heap.size) (hG : Grow wr' 25 (w.heap.size + 5) v' k' fs') (hb : Below (w.heap.size + 5) wr wr') (hgb : wr.grownBy wr' v.ownBlock)
  (hwh : ∀ q ∈ fs', some q = v.ownBlock ∨ q ∈ fs ∨ q ∈ ([] : List Nat) ∨ q = wr.heap.size) (hne : k' ≠ .nil) :
  (wr'.cell? ⟨B, 3, none⟩ = some v ∧ wr'.frozen? ⟨B, 3, none⟩ = false) ∧ MS w (wr'.setCell ⟨B, 3, none⟩ v') x lo q B o n t v' k' fs' := by
 have hB := h.hB
 have hl := h.lt
 have hbk : wr'.heap[B]? = wr.heap[B]? := hgb.block B hl (fun e => h.oB e.symm)
 have hc : ∀ i, wr'.cell? ⟨B, i, none⟩ = wr.cell? ⟨B, i, none⟩ := fun i => World.cell?_of_block (w := wr) hbk
 have hz : ∀ i, wr'.frozen? ⟨B, i, none⟩ = wr.frozen? ⟨B, i, none⟩ := fun i => World.frozen?_of_block (w := wr) hbk
 have hfB : B ∉ fs' := fun hm => by
  rcases hwh B hm with e | e | e | e
  ·exact h.oB e.symm
  ·exact h.fB e
  ·cases e
  ·omega
 have hoB : v'.ownBlock ≠ some B := fun e => by
  rcases hG.2.1 with ⟨h1, _⟩ | ⟨b, cap, f', rfl, _, rfl, _⟩
  ·exact hne h1
  ·simp only [Value.ownBlock, Option.some.injEq] at e
   subst e
   exact hfB (by simp)
 refine ⟨⟨(hc 3).trans h.c3, (hz 3).trans (h.fz 3)⟩, rdSet' (rdBelow h.rd (by omega) hb) (by omega) _, (h.but.trans (But.of_below (hb.mono (by omega)))).setCell (Or.inr (by show w.heap.size ≤ B; omega)) _, fun j hj => ⟨?_, ?_⟩, ?_, ?_, ?_, World.cell?_setCell_same _ _ _ ((hc 3).trans h.c3), fun i => by rw [World.frozen?_setCell]; exact (hz i).trans (h.fz i), hB, by have := hb.size; simp; omega, Grow.setAt hG hoB hfB _, hoB, hfB⟩
 ·rw [World.cell?_setCell_other _ _ _ _ (fun e => by injection e with e4; omega)]
  exact (there_below h.th (by omega) hb j hj).1
 ·rw [World.frozen?_setCell]
  exact (there_below h.th (by omega) hb j hj).2
 ·rw [World.cell?_setCell_other _ _ _ _ (by simp)]; exact (hc 0).trans h.c0
 ·rw [World.cell?_setCell_other _ _ _ _ (by simp)]; exact (hc 1).trans h.c1
 ·rw [World.cell?_setCell_other _ _ _ _ (by simp)]; exact (hc 2).trans h.c2
theorem ms_start {w w1 : World} {c1 c2 : Array Value} {x lo p L cap' : Nat} {o n : Int} {t : ByteArray} {k : F} {gs : List Nat} {a' : Option Addr} (hx : x < w.heap.size) (hrd : Rd w x lo p) (hA : Below w.heap.size w ((w.alloc (.cells c1 25)).alloc (.cells c2 25))) (h2 : c2.size = 4)
  (hb : Below ((w.alloc (.cells c1 25)).alloc (.cells c2 25)).heap.size ((w.alloc (.cells c1 25)).alloc (.cells c2 25)) w1) (hG : Grow w1 25 (((w.alloc (.cells c1 25)).alloc (.cells c2 25)).heap.size + 3) (.slice a' L cap') k gs) :
  MS w (w1.alloc (.cells #[.int .i64 o, .int .i64 n, .string t, .slice a' L cap'] 25)) x lo p w1.heap.size o n t (.slice a' L cap') k gs := by
 have hsz : ((w.alloc (.cells c1 25)).alloc (.cells c2 25)).heap.size = w.heap.size + 2 := by simp
 have hW : Below w.heap.size w w1 := hA.trans (hb.mono (by omega))
 have hW2 : Below w.heap.size w (w1.alloc (.cells #[.int .i64 o, .int .i64 n, .string t, .slice a' L cap'] 25)) := hW.alloc hW.size _
 have hth : ((w.alloc (.cells c1 25)).alloc (.cells c2 25)).there (w.heap.size + 1) 0 4 := by
  have := there_new (w.alloc (.cells c1 25)) c2 25 4 (by omega)
  simpa using this
 have hlo := hG.2.2.2
 rw [hsz] at hG hlo
 refine ⟨rdBelow hrd hx hW2, But.of_below hW2, there_below (there_below hth (by omega) hb) (B := w1.heap.size) (by omega) ((Below.refl _ _).alloc (Nat.le_refl _) _), ?_, ?_, ?_, ?_, fun i => World.frozen?_alloc_new _ _ _ _, by omega, by simp, hG.alloc _, fun e => ?_, fun hc => ?_⟩
 ·rw [World.cell?_alloc_new]; rfl
 ·rw [World.cell?_alloc_new]; rfl
 ·rw [World.cell?_alloc_new]; rfl
 ·rw [World.cell?_alloc_new]; rfl
 ·have := (hG.own_lt _ e).2; omega
 ·have := hG.fresh.lt _ hc; omega
theorem own_set {w : World} {base : Nat} {e : TypeId} {size : Nat} {v : Value} {n : Nat} (h : ∃ xs, w.ownsRow base e size v n xs) {g : Nat} (hv : v.ownBlock = some g) (i : Nat) (u : Value) : ∃ xs, (w.setCell ⟨g, i, none⟩ u).ownsRow base e size v n xs := by
 obtain ⟨xs, h1, h2⟩ := h
 rcases h2 with ⟨rfl, _⟩ | ⟨g', cap, cur, rfl, hb, hg, hnc, hcm, hcs, htake⟩
 ·cases hv
 ·obtain rfl : g' = g := by simpa [Value.ownBlock] using hv
  have hle : n * size ≤ cap * size := Nat.mul_le_mul_right size hnc
  refine ⟨(cur.setIfInBounds i u).toList.take (n * size), ?_, .inr ⟨g', cap, cur.setIfInBounds i u, rfl, hb, heap_setCell_same w g' i cur e u hg, hnc, hcm, by simpa using hcs, rfl⟩⟩
  rw [List.length_take, Array.length_toList, Array.size_setIfInBounds, hcs]
  exact Nat.min_eq_left hle
def put4 (w : World) (g i : Nat) (o n : Int) (t : ByteArray) (v : Value) : World := (((w.setCell ⟨g, i, none⟩ (.int .i64 o)).setCell ⟨g, i + 1, none⟩ (.int .i64 n)).setCell ⟨g, i + 2, none⟩ (.string t)).setCell ⟨g, i + 3, none⟩ v
theorem put4_out {w : World} {g i c x : Nat} {o n : Int} {t : ByteArray} {v : Value} (h : c ≠ g ∨ x < i ∨ i + 4 ≤ x) : (put4 w g i o n t v).cell? ⟨c, x, none⟩ = w.cell? ⟨c, x, none⟩ := by
 unfold put4
 rw [World.cell?_setCell_other _ _ _ _ (fun e => by injection e with e1 e2; omega), World.cell?_setCell_other _ _ _ _ (fun e => by injection e with e1 e2; omega), World.cell?_setCell_other _ _ _ _ (fun e => by injection e with e1 e2; omega), World.cell?_setCell_other _ _ _ _ (fun e => by injection e with e1 e2; omega)]
theorem put4_frozen {w : World} {g i : Nat} {o n : Int} {t : ByteArray} {v : Value} (a : Addr) : (put4 w g i o n t v).frozen? a = w.frozen? a := by
 unfold put4; rw [World.frozen?_setCell, World.frozen?_setCell, World.frozen?_setCell, World.frozen?_setCell]
theorem put4_in {w : World} {g i : Nat} {o n : Int} {t : ByteArray} {v u0 u1 u2 u3 : Value} (h0 : w.cell? ⟨g, i, none⟩ = some u0) (h1 : w.cell? ⟨g, i + 1, none⟩ = some u1) (h2 : w.cell? ⟨g, i + 2, none⟩ = some u2) (h3 : w.cell? ⟨g, i + 3, none⟩ = some u3) :
  (put4 w g i o n t v).cell? ⟨g, i, none⟩ = some (.int .i64 o) ∧ (put4 w g i o n t v).cell? ⟨g, i + 1, none⟩ = some (.int .i64 n) ∧ (put4 w g i o n t v).cell? ⟨g, i + 2, none⟩ = some (.string t) ∧ (put4 w g i o n t v).cell? ⟨g, i + 3, none⟩ = some v := by
 unfold put4
 have hn : ∀ a b : Nat, a ≠ b → (⟨g, a, none⟩ : Addr) ≠ ⟨g, b, none⟩ := fun a b h e => by injection e with _ e; exact h e
 refine ⟨?_, ?_, ?_, ?_⟩
 ·rw [World.cell?_setCell_other _ _ _ _ (hn _ _ (by omega)), World.cell?_setCell_other _ _ _ _ (hn _ _ (by omega)), World.cell?_setCell_other _ _ _ _ (hn _ _ (by omega))]
  exact World.cell?_setCell_same _ _ _ h0
 ·rw [World.cell?_setCell_other _ _ _ _ (hn _ _ (by omega)), World.cell?_setCell_other _ _ _ _ (hn _ _ (by omega))]
  exact World.cell?_setCell_same _ _ _ (by rw [World.cell?_setCell_other _ _ _ _ (hn _ _ (by omega))]; exact h1)
 ·rw [World.cell?_setCell_other _ _ _ _ (hn _ _ (by omega))]
  exact World.cell?_setCell_same _ _ _ (by rw [World.cell?_setCell_other _ _ _ _ (hn _ _ (by omega)), World.cell?_setCell_other _ _ _ _ (hn _ _ (by omega))]; exact h2)
 ·exact World.cell?_setCell_same _ _ _ (by rw [World.cell?_setCell_other _ _ _ _ (hn _ _ (by omega)), World.cell?_setCell_other _ _ _ _ (hn _ _ (by omega)), World.cell?_setCell_other _ _ _ _ (hn _ _ (by omega))]; exact h3)
theorem MS.swap {w W w8 : World} {x lo q q' B g L cap1 : Nat} {cap' : Nat} {o n o1 n1 o2 n2 : Int} {t t1 t2 : ByteArray} {pr r k1 k2 : F} {gs f2 : List Nat} {a2 : Option Addr} (h : MS w W x lo q B o n t (.slice (some ⟨g, 0, none⟩) L cap') (pr.app (.cons o1 n1 t1 k1 r)) gs) (hx : x < w.heap.size)
  (hb : But W.heap.size x W w8) (hr : Rd w8 x lo q') (hs : SubAt w8 a2 k2 f2) (hf : Fresh W.heap.size w8 f2) (hc : k2.len ≤ cap1) :
  ∃ gs', MS w (put4 w8 g (pr.len * 4) o2 n2 t2 (.slice a2 k2.len cap1)) x lo q' B o n t (.slice (some ⟨g, 0, none⟩) L cap') (pr.app (.cons o2 n2 t2 k2 r)) gs' := by
 have h8 := h.step hx hb hr
 have hgl := h.gr.own_lt g rfl
 have hBg : B ≠ g := fun e => h.oB (by rw [e]; rfl)
 have hnil : ∀ (p : F) (a b : Int) (c : ByteArray) (d e : F), p.app (.cons a b c d e) ≠ .nil := fun p a b c d e h => by
  have := congrArg F.len h
  rw [F.len_app] at this
  simp [F.len] at this
 obtain ⟨h81, h82, h83, h84⟩ := h8.gr
 rcases h82 with ⟨h, _⟩ | ⟨b, cp, f', e, _, rfl, hrow⟩
 ·exact absurd h (hnil _ _ _ _ _ _)
 injection e with e1 e2 e3
 injection e1 with e1
 injection e1 with e1
 subst e1
 have hnd := List.nodup_cons.1 h83.1
 have hltW : ∀ c ∈ g :: f', c < W.heap.size := h.gr.fresh.lt
 obtain ⟨a, cap, f1, fk, f3, c0, c1, c2, c3, _, _, _, _, hfe⟩ := hrow.parts
 rw [Nat.zero_add] at c0 c1 c2 c3
 obtain ⟨p0, p1, p2, p3⟩ := put4_in (o := o2) (n := n2) (t := t2) (v := .slice a2 k2.len cap1) c0 c1 c2 c3
 have hkeep : ∀ c, c ≠ g → ∀ y, (put4 w8 g (pr.len * 4) o2 n2 t2 (.slice a2 k2.len cap1)).cell? ⟨c, y, none⟩ = w8.cell? ⟨c, y, none⟩ := fun c hc y => put4_out (.inl hc)
 have hs9 : SubAt (put4 w8 g (pr.len * 4) o2 n2 t2 (.slice a2 k2.len cap1)) a2 k2 f2 := hs.congr (fun c hc y => hkeep c (by have := (hf.2 c hc).1; omega) y)
 obtain ⟨f1, fk, f3, hfe, hrow9⟩ := hrow.setDoc (w' := put4 w8 g (pr.len * 4) o2 n2 t2 (.slice a2 k2.len cap1)) (o' := o2) (n' := n2) (t' := t2) (fun y hy => put4_out (.inr (by omega))) (fun c hc y => hkeep c (fun e => hnd.1 (by rw [← e]; exact hc)) y) (by rw [Nat.zero_add]; exact p0) (by rw [Nat.zero_add]; exact p1) (by rw [Nat.zero_add]; exact p2) (by rw [Nat.zero_add]; exact p3) hc hs9
 subst hfe
 have hfr9 : Fresh (w.heap.size + 5) w8 (g :: (f1 ++ (f2 ++ f3))) := h83.swap hltW hf h.gr.2.2.2
 have hsz9 : (put4 w8 g (pr.len * 4) o2 n2 t2 (.slice a2 k2.len cap1)).heap.size = w8.heap.size := by unfold put4; simp
 have hlen : (pr.app (.cons o2 n2 t2 k2 r)).len = (pr.app (.cons o1 n1 t1 k1 r)).len := by rw [F.len_app, F.len_app]; rfl
 refine ⟨g :: (f1 ++ (f2 ++ f3)), ?_, ?_, fun j hj => ⟨?_, by rw [put4_frozen]; exact (h8.th j hj).2⟩, (hkeep B hBg 0).trans h8.c0, (hkeep B hBg 1).trans h8.c1, (hkeep B hBg 2).trans h8.c2, (hkeep B hBg 3).trans h8.c3, fun i => (put4_frozen _).trans (h8.fz i), h8.hB, by rw [hsz9]; exact h8.lt, ⟨?_, ?_, ?_, by rw [hsz9]; exact h84⟩, h8.oB, fun hm => ?_⟩
 ·unfold put4
  exact rdSet' (rdSet' (rdSet' (rdSet' hr (by omega) _) (by omega) _) (by omega) _) (by omega) _
 ·unfold put4
  exact (((h8.but.setCell (Or.inr (by show w.heap.size ≤ g; omega)) _).setCell (Or.inr (by show w.heap.size ≤ g; omega)) _).setCell (Or.inr (by show w.heap.size ≤ g; omega)) _).setCell (Or.inr (by show w.heap.size ≤ g; omega)) _
 ·rw [hkeep _ (by omega)]; exact (h8.th j hj).1
 ·rw [hlen]
  unfold put4
  exact own_set (own_set (own_set (own_set h81 rfl _ _) rfl _ _) rfl _ _) rfl _ _
 ·exact .inr ⟨g, cap', f1 ++ (f2 ++ f3), by rw [hlen, e2], hnil _ _ _ _ _ _, rfl, hrow9⟩
 ·exact hfr9.alike (by rw [hsz9]; exact Nat.le_refl _) (fun c _ y => put4_frozen _)
 ·rcases List.mem_cons.1 hm with e | hm
  ·exact hBg e
  ·simp only [List.mem_append] at hm
   rcases hm with hm | hm | hm
   ·exact h8.fB (by simp [hm])
   ·have := (hf.2 B hm).1; have := h.lt; omega
   ·exact h8.fB (by simp [hm])
theorem mut_step (d : Nat) (w : World) (x lo p : Nat) (o n : Int) (t : ByteArray) (k : F) (ih : ∀ (pr r : F) (o1 n1 : Int) (t1 : ByteArray) (k1 : F), k = pr.app (.cons o1 n1 t1 k1 r) → MutAt d k1) (a : Option Addr) (cap : Nat) (fs : List Nat) (hs : SubAt w a k fs) (hfs : ∀ c ∈ fs, c < w.heap.size) (hc : k.len ≤ cap) (hsz : k.size ≤ 4000000) (ht : t.size ≤ 4000000)
  (hrd : Rd w x lo p) (hp : p + (5 + 2 * d) ≤ 1073741824) (hx : x < w.heap.size) :
  Calls Tryz.prog 81 #[.pointer (some ⟨x, 0, none⟩), .agg #[.int .i64 o, .int .i64 n, .string t, .slice a k.len cap]] w (DocOut w x lo p (5 + 2 * d) (t.size + k.size + 20)) := by
 obtain ⟨i0, hi, hz0, hz1, hz2⟩ := info_parts To.info
 have HI := Lib.hid (And.intro hi (And.intro hz0 (And.intro hz1 hz2)))
 clear hi hz0 hz1 hz2
 have hA : ∀ o1 o2, Below w.heap.size w ((w.alloc o1).alloc o2) := fun o1 o2 => ((Below.refl _ _).alloc (Nat.le_refl _) _).alloc (by simp) _
 have HC := Lib.hid (fun o1 o2 => l1CopyG ((w.alloc o1).alloc o2) o n t k a cap fs (hs.below hfs (hA o1 o2)) (fun c hc => by have := hfs c hc; simp; omega) hc (by omega) (by omega))
 have HA := Lib.hid hA
 have IH := Lib.hid ih
 have HX := Lib.hid hx
 have HRD := Lib.hid hrd
 obtain ⟨L, hL⟩ : ∃ L, k.len = L := ⟨_, rfl⟩
 have HL := Lib.hid hL
 have hL4 : L ≤ 4000000 := by have := F.len_le_size k; omega
 rw [hL] at HC hc ⊢
 clear hA ih hrd hs hfs hL
 go_enter Tryz.func81, Tryz.ntmps81
 go_wp2_with fail
 refine (HC.out _ _).mono ?_
 rintro e1 w1 ⟨v, gs, rfl, hG, hb1⟩
 obtain ⟨a', cap', rfl, hc', hs', _⟩ := hG.slice
 rw [HL.out] at hc' hG ⊢
 have hw1 : w.heap.size + 2 ≤ w1.heap.size := by have := hb1.size; simpa using this
 have h0 : MS w (w1.alloc (.cells #[.int .i64 o, .int .i64 n, .string t, .slice a' L cap'] 25)) x lo p w1.heap.size o n t (.slice a' L cap') k gs := ms_start hx HRD.out (HA.out _ _) rfl hb1 hG
 have S0 := Lib.hid h0
 clear hG hb1 hs' h0
 rcases Nat.eq_zero_or_pos L with h0 | h0
 ·have hn0 : ¬ ((0 : Int) < (L : Int)) := by omega
  clear h0
  have HP := Lib.hid (pick (w1.alloc (.cells #[.int .i64 o, .int .i64 n, .string t, .slice a' L cap'] 25)) x lo (p) 14 S0.out.rd (by omega))
  go_wp2_with fail
  refine HP.out.mono ?_
  rintro e6 w6 ⟨s, rfl, hs0, hs1, hrd6, hbut6⟩
  have S6 := Lib.hid (S0.out.step HX.out hbut6 hrd6)
  have hA6 : ∀ ob, Below w6.heap.size w6 (w6.alloc ob) := fun ob => (Below.refl _ _).alloc (Nat.le_refl _) _
  have hx6 : x < w6.heap.size := by have := S6.out.hB; have := S6.out.lt; have := HX.out; omega
  have hsc : s = 0 ∨ s = 1 ∨ s = 2 ∨ s = 3 ∨ (s ≠ 0 ∧ s ≠ 1 ∧ s ≠ 2 ∧ s ≠ 3) := by omega
  clear hs0 hs1 hrd6 hbut6
  rcases hsc with rfl | rfl | rfl | rfl | ⟨g0, g1, g2, g3⟩
  ·have HN := Lib.hid (Draw.num (w6.alloc (.cells #[.int .i64 (0), .int .i64 (9), .int .i64 (1), .int .i64 (3), .int .i64 (7)] 3)) x lo (p + 1) w6.heap.size 0 5 [0, 9, 1, 3, 7] (rdBelow S6.out.rd hx6 (hA6 _)) (by omega) (fun j hj => by
     rw [World.cell?_alloc_new]
     have hj' : j < 5 := hj
     match j, hj' with
     | 0, _ => rfl
     | 1, _ => rfl
     | 2, _ => rfl
     | 3, _ => rfl
     | 4, _ => rfl) (by decide) (by decide) (by decide) (by simp) (by omega))
   clear hA6
   go_wp2_with fail
   refine HN.out.mono ?_
   rintro e7 w7 ⟨r7, hmem, rfl, hrd7, hbutn⟩
   have hbut7 : But w6.heap.size x w6 w7 := ((But.refl _ _ _).alloc (Nat.le_refl _) _).trans (hbutn.mono (by simp))
   have h7 := S6.out.step HX.out hbut7 hrd7
   have S7 := Lib.hid h7
   have S8 := Lib.hid (h7.set0 HX.out r7)
   have k0 := h7.c0
   have f0 := h7.fz 0
   clear hmem hrd7 hbutn hbut7 h7
   obtain ⟨⟨u0, u1, u2, u3, y0, y1, y2, y3⟩, z0, z1, z2, z3⟩ := there_at S8.out.th
   have d0 := S8.out.c0
   have d1 := S8.out.c1
   have d2 := S8.out.c2
   have d3 := S8.out.c3
   have hl1 : w.heap.size + 1 < w7.heap.size := by have := S7.out.hB; have := S7.out.lt; omega
   go_wp2_with fail
   refine bodyPost_ret (v := .agg #[.int .i64 r7, .int .i64 n, .string t, (.slice a' L cap')]) (by simp [results, Tryz.results81, go_sem, y0, y1, y2, y3, hl1]) rfl ?_
   refine S8.out.end HX.out (ht := ?_) (by omega) (by omega)
   repeat (first | exact Touch.refl _ _ _ | refine Touch.setCell ?_ (by simp) (by simp) _)
  ·have HN := Lib.hid (Draw.num (w6.alloc (.cells #[.int .i64 (10), .int .i64 (-1), .int .i64 (1)] 3)) x lo (p + 1) w6.heap.size 0 3 [10, -1, 1] (rdBelow S6.out.rd hx6 (hA6 _)) (by omega) (fun j hj => by
     rw [World.cell?_alloc_new]
     have hj' : j < 3 := hj
     match j, hj' with
     | 0, _ => rfl
     | 1, _ => rfl
     | 2, _ => rfl) (by decide) (by decide) (by decide) (by simp) (by omega))
   clear hA6
   go_wp2_with fail
   refine HN.out.mono ?_
   rintro e7 w7 ⟨r7, hmem, rfl, hrd7, hbutn⟩
   have hbut7 : But w6.heap.size x w6 w7 := ((But.refl _ _ _).alloc (Nat.le_refl _) _).trans (hbutn.mono (by simp))
   have h7 := S6.out.step HX.out hbut7 hrd7
   have S7 := Lib.hid h7
   have S8 := Lib.hid (h7.set1 HX.out r7)
   have k1 := h7.c1
   have f1 := h7.fz 1
   clear hmem hrd7 hbutn hbut7 h7
   obtain ⟨⟨u0, u1, u2, u3, y0, y1, y2, y3⟩, z0, z1, z2, z3⟩ := there_at S8.out.th
   have d0 := S8.out.c0
   have d1 := S8.out.c1
   have d2 := S8.out.c2
   have d3 := S8.out.c3
   have hl1 : w.heap.size + 1 < w7.heap.size := by have := S7.out.hB; have := S7.out.lt; omega
   go_wp2_with fail
   refine bodyPost_ret (v := .agg #[.int .i64 o, .int .i64 r7, .string t, (.slice a' L cap')]) (by simp [results, Tryz.results81, go_sem, y0, y1, y2, y3, hl1]) rfl ?_
   refine S8.out.end HX.out (ht := ?_) (by omega) (by omega)
   repeat (first | exact Touch.refl _ _ _ | refine Touch.setCell ?_ (by simp) (by simp) _)
  ·have HN := Lib.hid (Draw.of (w6.alloc (.cells #[.string ⟨#[]⟩, .string ⟨#[65]⟩, .string ⟨#[97, 98, 99, 100, 101, 102, 103, 104, 105, 106, 107, 108, 109]⟩, .string ⟨#[120, 32, 121]⟩, .string ⟨#[122]⟩] 9)) x lo (p + 1) w6.heap.size 0 5 bits5 (rdBelow S6.out.rd hx6 (hA6 _)) (by omega) (fun j hj => by
     rw [World.cell?_alloc_new]
     have hj' : j < 5 := hj
     match j, hj' with
     | 0, _ => rfl
     | 1, _ => rfl
     | 2, _ => rfl
     | 3, _ => rfl
     | 4, _ => rfl) (by decide) (by decide) (by decide) (by simp) (by omega))
   clear hA6
   go_wp2_with fail
   refine HN.out.mono ?_
   rintro e7 w7 ⟨r7, hmem, rfl, hrd7, hbutn⟩
   have hbut7 : But w6.heap.size x w6 w7 := ((But.refl _ _ _).alloc (Nat.le_refl _) _).trans (hbutn.mono (by simp))
   have h7 := S6.out.step HX.out hbut7 hrd7
   have hr13 := bits5_small r7 hmem
   have S7 := Lib.hid h7
   have S8 := Lib.hid (h7.set2 HX.out r7)
   have k2 := h7.c2
   have f2 := h7.fz 2
   clear hmem hrd7 hbutn hbut7 h7
   obtain ⟨⟨u0, u1, u2, u3, y0, y1, y2, y3⟩, z0, z1, z2, z3⟩ := there_at S8.out.th
   have d0 := S8.out.c0
   have d1 := S8.out.c1
   have d2 := S8.out.c2
   have d3 := S8.out.c3
   have hl1 : w.heap.size + 1 < w7.heap.size := by have := S7.out.hB; have := S7.out.lt; omega
   go_wp2_with fail
   refine bodyPost_ret (v := .agg #[.int .i64 o, .int .i64 n, .string r7, (.slice a' L cap')]) (by simp [results, Tryz.results81, go_sem, y0, y1, y2, y3, hl1]) rfl ?_
   refine S8.out.end HX.out (ht := ?_) (by omega) (by omega)
   repeat (first | exact Touch.refl _ _ _ | refine Touch.setCell ?_ (by simp) (by simp) _)
  ·have HAP := Lib.hid (fun ob => S6.out.alloc HX.out ob)
   have hk3 := S6.out.c3
   have HL2 := Lib.hid (show k.len + 1 ≤ 1099511627776 by have := HL.out; omega)
   have HHS := Lib.hid (show ∀ ob : Obj, w.heap.size + 5 ≤ (w6.alloc ob).heap.size ∧ (∀ q ∈ gs, q < (w6.alloc ob).heap.size) ∧ (∀ q, (Value.slice a' L cap').ownBlock = some q → q < (w6.alloc ob).heap.size) from fun ob => by
    have h := S6.out.alloc HX.out ob
    exact ⟨h.gr.2.2.2, h.gr.fresh.lt, fun q hq => (h.gr.own_lt q hq).2⟩)
   clear hA6
   go_wp2_with (at_builtin; refine (append_doc2 rfl (.tmp 58) (.tmp 60) 23 rfl Tryz.underlying23 HI.out.1 HI.out.2.1 HI.out.2.2.1 HI.out.2.2.2 rfl (fs := gs) (p := k) (v := .slice a' L cap') (lo := w.heap.size + 5) rfl (HAP.out _).gr (d := w6.heap.size) (c := 1) (k := .nil) (f1 := []) rfl (cell_new w6 _ _ 0 _ rfl) (cell_new w6 _ _ 1 _ rfl) (cell_new w6 _ _ 2 _ rfl) (cell_new w6 _ _ 3 _ rfl) (Nat.le_refl _) (.inl ⟨rfl, rfl⟩) (Fresh.nil _ _) (HHS.out (.cells #[] 0)).1 (HHS.out (.cells #[] 0)).2.1 (HHS.out (.cells #[] 0)).2.2 HL2.out ?_); intro v' w7 fs' hG7 hb7 hgb7 hwh7; obtain ⟨a7, cap7, rfl, hc7, hs7, hcm7⟩ := hG7.slice; obtain ⟨m7, hm7l⟩ : ∃ m, (k.app (.cons 1 0 ⟨#[]⟩ .nil .nil)).len = m := ⟨_, rfl⟩; rw [hm7l] at hG7 ⊢; clear hc7 hs7 hcm7; have hm7 := MS.grown (HAP.out _) HX.out hG7 hb7 hgb7 hwh7 (app_ne k _ _ _ _); have k3 := hm7.1.1; have f3 := hm7.1.2; have S8 := Lib.hid hm7.2; clear hG7 hb7 hgb7 hwh7 hm7; obtain ⟨⟨u0, u1, u2, u3, y0, y1, y2, y3⟩, z0, z1, z2, z3⟩ := there_at S8.out.th; have d0 := S8.out.c0; have d1 := S8.out.c1; have d2 := S8.out.c2; have d3 := S8.out.c3; have hl1 : w.heap.size + 1 < w7.heap.size := (by have h1 := S8.out.hB; have h2 := S8.out.lt; simp at h2; omega))
   refine bodyPost_ret (v := .agg #[.int .i64 o, .int .i64 n, .string t, (.slice a7 m7 cap7)]) (by simp [results, Tryz.results81, go_sem, y0, y1, y2, y3, hl1]) rfl ?_
   refine S8.out.end HX.out (ht := ?_) (by rw [F.size_app]; have h5 : (F.cons 1 0 ⟨#[]⟩ .nil .nil).size ≤ 5 := (by decide); omega) (by omega)
   repeat (first | exact Touch.refl _ _ _ | refine Touch.setCell ?_ (by simp) (by simp) _)
  ·have b0 : (s == 0) = false := beq_eq_false_iff_ne.2 g0
   have b1 : (s == 1) = false := beq_eq_false_iff_ne.2 g1
   have b2 : (s == 2) = false := beq_eq_false_iff_ne.2 g2
   have b3 : (s == 3) = false := beq_eq_false_iff_ne.2 g3
   clear hA6
   obtain ⟨⟨u0, u1, u2, u3, y0, y1, y2, y3⟩, z0, z1, z2, z3⟩ := there_at S6.out.th
   have d0 := S6.out.c0
   have d1 := S6.out.c1
   have d2 := S6.out.c2
   have d3 := S6.out.c3
   have hl1 : w.heap.size + 1 < w6.heap.size := by have := S6.out.hB; have := S6.out.lt; omega
   clear g0 g1 g2 g3 hx6
   go_wp2_with fail
   refine bodyPost_ret (v := .agg #[.int .i64 o, .int .i64 n, .string t, (.slice a' L cap')]) (by simp [results, Tryz.results81, go_sem, y0, y1, y2, y3, hl1]) rfl ?_
   refine S6.out.end HX.out (ht := ?_) (by omega) (by omega)
   repeat (first | exact Touch.refl _ _ _ | refine Touch.setCell ?_ (by simp) (by simp) _)
 ·have hn0 : (0 : Int) < (L : Int) := by omega
  have HP0 := Lib.hid (pick (w1.alloc (.cells #[.int .i64 o, .int .i64 n, .string t, .slice a' L cap'] 25)) x lo p 2 S0.out.rd (by omega))
  go_wp2_with fail
  refine HP0.out.mono ?_
  rintro e2 w2 ⟨r2, rfl, hr20, hr21, hrd2, hbut2⟩
  have S2 := Lib.hid (S0.out.step HX.out hbut2 hrd2)
  have hr : r2 = 0 ∨ r2 = 1 := by omega
  clear hrd2 hbut2 hr20 hr21
  rcases hr with rfl | rfl
  ·skip
   have HP := Lib.hid (pick w2 x lo (p + 1) 14 S2.out.rd (by omega))
   go_wp2_with fail
   refine HP.out.mono ?_
   rintro e6 w6 ⟨s, rfl, hs0, hs1, hrd6, hbut6⟩
   have S6 := Lib.hid (S2.out.step HX.out hbut6 hrd6)
   have hA6 : ∀ ob, Below w6.heap.size w6 (w6.alloc ob) := fun ob => (Below.refl _ _).alloc (Nat.le_refl _) _
   have hx6 : x < w6.heap.size := by have := S6.out.hB; have := S6.out.lt; have := HX.out; omega
   have hsc : s = 0 ∨ s = 1 ∨ s = 2 ∨ s = 3 ∨ (s ≠ 0 ∧ s ≠ 1 ∧ s ≠ 2 ∧ s ≠ 3) := by omega
   clear hs0 hs1 hrd6 hbut6
   rcases hsc with rfl | rfl | rfl | rfl | ⟨g0, g1, g2, g3⟩
   ·have HN := Lib.hid (Draw.num (w6.alloc (.cells #[.int .i64 (0), .int .i64 (9), .int .i64 (1), .int .i64 (3), .int .i64 (7)] 3)) x lo (p + 1 + 1) w6.heap.size 0 5 [0, 9, 1, 3, 7] (rdBelow S6.out.rd hx6 (hA6 _)) (by omega) (fun j hj => by
      rw [World.cell?_alloc_new]
      have hj' : j < 5 := hj
      match j, hj' with
      | 0, _ => rfl
      | 1, _ => rfl
      | 2, _ => rfl
      | 3, _ => rfl
      | 4, _ => rfl) (by decide) (by decide) (by decide) (by simp) (by omega))
    clear hA6
    go_wp2_with fail
    refine HN.out.mono ?_
    rintro e7 w7 ⟨r7, hmem, rfl, hrd7, hbutn⟩
    have hbut7 : But w6.heap.size x w6 w7 := ((But.refl _ _ _).alloc (Nat.le_refl _) _).trans (hbutn.mono (by simp))
    have h7 := S6.out.step HX.out hbut7 hrd7
    have S7 := Lib.hid h7
    have S8 := Lib.hid (h7.set0 HX.out r7)
    have k0 := h7.c0
    have f0 := h7.fz 0
    clear hmem hrd7 hbutn hbut7 h7
    obtain ⟨⟨u0, u1, u2, u3, y0, y1, y2, y3⟩, z0, z1, z2, z3⟩ := there_at S8.out.th
    have d0 := S8.out.c0
    have d1 := S8.out.c1
    have d2 := S8.out.c2
    have d3 := S8.out.c3
    have hl1 : w.heap.size + 1 < w7.heap.size := by have := S7.out.hB; have := S7.out.lt; omega
    go_wp2_with fail
    refine bodyPost_ret (v := .agg #[.int .i64 r7, .int .i64 n, .string t, (.slice a' L cap')]) (by simp [results, Tryz.results81, go_sem, y0, y1, y2, y3, hl1]) rfl ?_
    refine S8.out.end HX.out (ht := ?_) (by omega) (by omega)
    repeat (first | exact Touch.refl _ _ _ | refine Touch.setCell ?_ (by simp) (by simp) _)
   ·have HN := Lib.hid (Draw.num (w6.alloc (.cells #[.int .i64 (10), .int .i64 (-1), .int .i64 (1)] 3)) x lo (p + 1 + 1) w6.heap.size 0 3 [10, -1, 1] (rdBelow S6.out.rd hx6 (hA6 _)) (by omega) (fun j hj => by
      rw [World.cell?_alloc_new]
      have hj' : j < 3 := hj
      match j, hj' with
      | 0, _ => rfl
      | 1, _ => rfl
      | 2, _ => rfl) (by decide) (by decide) (by decide) (by simp) (by omega))
    clear hA6
    go_wp2_with fail
    refine HN.out.mono ?_
    rintro e7 w7 ⟨r7, hmem, rfl, hrd7, hbutn⟩
    have hbut7 : But w6.heap.size x w6 w7 := ((But.refl _ _ _).alloc (Nat.le_refl _) _).trans (hbutn.mono (by simp))
    have h7 := S6.out.step HX.out hbut7 hrd7
    have S7 := Lib.hid h7
    have S8 := Lib.hid (h7.set1 HX.out r7)
    have k1 := h7.c1
    have f1 := h7.fz 1
    clear hmem hrd7 hbutn hbut7 h7
    obtain ⟨⟨u0, u1, u2, u3, y0, y1, y2, y3⟩, z0, z1, z2, z3⟩ := there_at S8.out.th
    have d0 := S8.out.c0
    have d1 := S8.out.c1
    have d2 := S8.out.c2
    have d3 := S8.out.c3
    have hl1 : w.heap.size + 1 < w7.heap.size := by have := S7.out.hB; have := S7.out.lt; omega
    go_wp2_with fail
    refine bodyPost_ret (v := .agg #[.int .i64 o, .int .i64 r7, .string t, (.slice a' L cap')]) (by simp [results, Tryz.results81, go_sem, y0, y1, y2, y3, hl1]) rfl ?_
    refine S8.out.end HX.out (ht := ?_) (by omega) (by omega)
    repeat (first | exact Touch.refl _ _ _ | refine Touch.setCell ?_ (by simp) (by simp) _)
   ·have HN := Lib.hid (Draw.of (w6.alloc (.cells #[.string ⟨#[]⟩, .string ⟨#[65]⟩, .string ⟨#[97, 98, 99, 100, 101, 102, 103, 104, 105, 106, 107, 108, 109]⟩, .string ⟨#[120, 32, 121]⟩, .string ⟨#[122]⟩] 9)) x lo (p + 1 + 1) w6.heap.size 0 5 bits5 (rdBelow S6.out.rd hx6 (hA6 _)) (by omega) (fun j hj => by
      rw [World.cell?_alloc_new]
      have hj' : j < 5 := hj
      match j, hj' with
      | 0, _ => rfl
      | 1, _ => rfl
      | 2, _ => rfl
      | 3, _ => rfl
      | 4, _ => rfl) (by decide) (by decide) (by decide) (by simp) (by omega))
    clear hA6
    go_wp2_with fail
    refine HN.out.mono ?_
    rintro e7 w7 ⟨r7, hmem, rfl, hrd7, hbutn⟩
    have hbut7 : But w6.heap.size x w6 w7 := ((But.refl _ _ _).alloc (Nat.le_refl _) _).trans (hbutn.mono (by simp))
    have h7 := S6.out.step HX.out hbut7 hrd7
    have hr13 := bits5_small r7 hmem
    have S7 := Lib.hid h7
    have S8 := Lib.hid (h7.set2 HX.out r7)
    have k2 := h7.c2
    have f2 := h7.fz 2
    clear hmem hrd7 hbutn hbut7 h7
    obtain ⟨⟨u0, u1, u2, u3, y0, y1, y2, y3⟩, z0, z1, z2, z3⟩ := there_at S8.out.th
    have d0 := S8.out.c0
    have d1 := S8.out.c1
    have d2 := S8.out.c2
    have d3 := S8.out.c3
    have hl1 : w.heap.size + 1 < w7.heap.size := by have := S7.out.hB; have := S7.out.lt; omega
    go_wp2_with fail
    refine bodyPost_ret (v := .agg #[.int .i64 o, .int .i64 n, .string r7, (.slice a' L cap')]) (by simp [results, Tryz.results81, go_sem, y0, y1, y2, y3, hl1]) rfl ?_
    refine S8.out.end HX.out (ht := ?_) (by omega) (by omega)
    repeat (first | exact Touch.refl _ _ _ | refine Touch.setCell ?_ (by simp) (by simp) _)
   ·have HAP := Lib.hid (fun ob => S6.out.alloc HX.out ob)
    have hk3 := S6.out.c3
    have HL2 := Lib.hid (show k.len + 1 ≤ 1099511627776 by have := HL.out; omega)
    have HHS := Lib.hid (show ∀ ob : Obj, w.heap.size + 5 ≤ (w6.alloc ob).heap.size ∧ (∀ q ∈ gs, q < (w6.alloc ob).heap.size) ∧ (∀ q, (Value.slice a' L cap').ownBlock = some q → q < (w6.alloc ob).heap.size) from fun ob => by
     have h := S6.out.alloc HX.out ob
     exact ⟨h.gr.2.2.2, h.gr.fresh.lt, fun q hq => (h.gr.own_lt q hq).2⟩)
    clear hA6
    go_wp2_with (at_builtin; refine (append_doc2 rfl (.tmp 58) (.tmp 60) 23 rfl Tryz.underlying23 HI.out.1 HI.out.2.1 HI.out.2.2.1 HI.out.2.2.2 rfl (fs := gs) (p := k) (v := .slice a' L cap') (lo := w.heap.size + 5) rfl (HAP.out _).gr (d := w6.heap.size) (c := 1) (k := .nil) (f1 := []) rfl (cell_new w6 _ _ 0 _ rfl) (cell_new w6 _ _ 1 _ rfl) (cell_new w6 _ _ 2 _ rfl) (cell_new w6 _ _ 3 _ rfl) (Nat.le_refl _) (.inl ⟨rfl, rfl⟩) (Fresh.nil _ _) (HHS.out (.cells #[] 0)).1 (HHS.out (.cells #[] 0)).2.1 (HHS.out (.cells #[] 0)).2.2 HL2.out ?_); intro v' w7 fs' hG7 hb7 hgb7 hwh7; obtain ⟨a7, cap7, rfl, hc7, hs7, hcm7⟩ := hG7.slice; obtain ⟨m7, hm7l⟩ : ∃ m, (k.app (.cons 1 0 ⟨#[]⟩ .nil .nil)).len = m := ⟨_, rfl⟩; rw [hm7l] at hG7 ⊢; clear hc7 hs7 hcm7; have hm7 := MS.grown (HAP.out _) HX.out hG7 hb7 hgb7 hwh7 (app_ne k _ _ _ _); have k3 := hm7.1.1; have f3 := hm7.1.2; have S8 := Lib.hid hm7.2; clear hG7 hb7 hgb7 hwh7 hm7; obtain ⟨⟨u0, u1, u2, u3, y0, y1, y2, y3⟩, z0, z1, z2, z3⟩ := there_at S8.out.th; have d0 := S8.out.c0; have d1 := S8.out.c1; have d2 := S8.out.c2; have d3 := S8.out.c3; have hl1 : w.heap.size + 1 < w7.heap.size := (by have h1 := S8.out.hB; have h2 := S8.out.lt; simp at h2; omega))
    refine bodyPost_ret (v := .agg #[.int .i64 o, .int .i64 n, .string t, (.slice a7 m7 cap7)]) (by simp [results, Tryz.results81, go_sem, y0, y1, y2, y3, hl1]) rfl ?_
    refine S8.out.end HX.out (ht := ?_) (by rw [F.size_app]; have h5 : (F.cons 1 0 ⟨#[]⟩ .nil .nil).size ≤ 5 := (by decide); omega) (by omega)
    repeat (first | exact Touch.refl _ _ _ | refine Touch.setCell ?_ (by simp) (by simp) _)
   ·have b0 : (s == 0) = false := beq_eq_false_iff_ne.2 g0
    have b1 : (s == 1) = false := beq_eq_false_iff_ne.2 g1
    have b2 : (s == 2) = false := beq_eq_false_iff_ne.2 g2
    have b3 : (s == 3) = false := beq_eq_false_iff_ne.2 g3
    clear hA6
    obtain ⟨⟨u0, u1, u2, u3, y0, y1, y2, y3⟩, z0, z1, z2, z3⟩ := there_at S6.out.th
    have d0 := S6.out.c0
    have d1 := S6.out.c1
    have d2 := S6.out.c2
    have d3 := S6.out.c3
    have hl1 : w.heap.size + 1 < w6.heap.size := by have := S6.out.hB; have := S6.out.lt; omega
    clear g0 g1 g2 g3 hx6
    go_wp2_with fail
    refine bodyPost_ret (v := .agg #[.int .i64 o, .int .i64 n, .string t, (.slice a' L cap')]) (by simp [results, Tryz.results81, go_sem, y0, y1, y2, y3, hl1]) rfl ?_
    refine S6.out.end HX.out (ht := ?_) (by omega) (by omega)
    repeat (first | exact Touch.refl _ _ _ | refine Touch.setCell ?_ (by simp) (by simp) _)
  ·obtain ⟨g, rfl⟩ : ∃ g, a' = some ⟨g, 0, none⟩ := by
    rcases S2.out.gr.2.1 with ⟨h, _⟩ | ⟨b, cp, f', e, _⟩
    ·have := HL.out; rw [h] at this; simp only [F.len] at this; omega
    ·injection e with e1 e2 e3
     exact ⟨b, e1⟩
   have HP := Lib.hid (pick w2 x lo (p + 1) L S2.out.rd (by omega))
   have k3 := S2.out.c3
   have hl2 := S2.out.lt
   go_wp2_with fail
   refine HP.out.mono ?_
   rintro e6 w6 ⟨s, rfl, hs0, hs1, hrd6, hbut6⟩
   have S6 := Lib.hid (S2.out.step HX.out hbut6 hrd6)
   obtain ⟨J, rfl⟩ : ∃ J : Nat, s = (J : Int) := ⟨s.toNat, by omega⟩
   have hJ : J < L := by omega
   obtain ⟨pr, o1, n1, t1, k1, r, hk, hpj⟩ := F.split_at (f := k) (j := J) (by rw [HL.out]; exact hJ)
   have S6' := S6.out
   rw [hk] at S6'
   have hgl := S6'.gr.own_lt g rfl
   have hgr := S6'.gr
   obtain ⟨_, h82, h83, h84⟩ := hgr
   rcases h82 with ⟨h, _⟩ | ⟨b, cp, f', e, _, hgs, hrow⟩
   ·have := congrArg F.len h
    rw [F.len_app] at this
    simp [F.len] at this
   injection e with e1 e2 e3
   injection e1 with e1
   injection e1 with e1
   subst e1
   clear e2 e3
   obtain ⟨a1, cap1, f1, fk, f3, c0, c1, c2, c3, hc1, hs1', _, _, hfe⟩ := hrow.parts
   rw [Nat.zero_add, hpj] at c0 c1 c2 c3
   have hfz : ∀ i, w6.frozen? ⟨g, i, none⟩ = false := (h83.2 g (by rw [hgs]; simp)).2.2
   have hfk : ∀ c ∈ fk, c < w6.heap.size := fun c hc => (h83.2 c (by rw [hgs, hfe]; simp [hc])).2.1
   have hsize : pr.size + (1 + t1.size + k1.size) + r.size = k.size := by rw [hk, F.size_app]; simp only [F.size]; omega
   have hco := IH.out pr r o1 n1 t1 k1 hk w6.drew x lo (p + 1 + 1) o1 n1 t1 a1 cap1 fk (hs1'.congr (fun _ _ _ => rfl)) (fun c hc => hfk c hc) hc1 (by omega) (by omega) (rdBelow S6.out.rd (by have := S6.out.hB; have := S6.out.lt; omega) ((Below.refl _ _).drew)) (by omega) (by show x < w6.heap.size; have := S6.out.hB; have := S6.out.lt; omega)
   have hsw := fun (w8 : World) (q' : Nat) (o2 n2 : Int) (t2 : ByteArray) (k2 : F) (a2 : Option Addr) (cap2 : Nat) (f2 : List Nat) (h1 : But w6.drew.heap.size x w6.drew w8) (h2 : Rd w8 x lo q') (h3 : SubAt w8 a2 k2 f2) (h4 : Fresh w6.drew.heap.size w8 f2) (h5 : k2.len ≤ cap2) => MS.swap (o2 := o2) (n2 := n2) (t2 := t2) S6' HX.out ((show But w6.heap.size x w6 w6.drew from (But.refl _ _ _).drew).trans h1) h2 h3 h4 h5
   rw [hpj] at hsw
   have HCO := Lib.hid hco
   have HSW := Lib.hid hsw
   have HSZ := Lib.hid hsize
   have k6 := S6.out.c3
   have hl6 := S6.out.lt
   have hg6 : g < w6.heap.size := hgl.2
   have hBx : w1.heap.size ≠ x := by have := S6.out.hB; omega
   have hgx : g ≠ x := by have := hgl.1; omega
   have HG := Lib.hid hgl.1
   clear hrd6 hbut6 hs0 hs1 hk hpj S6' h83 h84 hrow hgs hfe hc1 hs1' hfk hsize hco hsw hgl HP
   have z0 := hfz (J * 4)
   have z1 := hfz (J * 4 + 1)
   have z2 := hfz (J * 4 + 2)
   have z3 := hfz (J * 4 + 3)
   clear hfz
   go_wp2_with fail
   first | go_region_with (go_at_call 81; refine HCO.out.mono ?_; rintro e8 w8 ⟨o2, n2, t2, k2, a2, cap2, f2, q2, rfl, hc2, hM2, hs2, hf2, hr2, hq2, hb2⟩; obtain ⟨gs9, h9⟩ := HSW.out w8 q2 o2 n2 t2 k2 a2 cap2 f2 hb2 hr2 hs2 hf2 hc2; have v0 := (hb2.cell (c := g) (o := J * 4) hg6 hgx).trans c0; have v1 := (hb2.cell (c := g) (o := J * 4 + 1) hg6 hgx).trans c1; have v2 := (hb2.cell (c := g) (o := J * 4 + 2) hg6 hgx).trans c2; have v3 := (hb2.cell (c := g) (o := J * 4 + 3) hg6 hgx).trans c3; have y0 := (hb2.frozen (c := g) (o := J * 4) hg6 hgx).trans z0; have y1 := (hb2.frozen (c := g) (o := J * 4 + 1) hg6 hgx).trans z1; have y2 := (hb2.frozen (c := g) (o := J * 4 + 2) hg6 hgx).trans z2; have y3 := (hb2.frozen (c := g) (o := J * 4 + 3) hg6 hgx).trans z3; have S9 := Lib.hid h9; have H9 := Lib.hid (And.intro hM2 hq2); have k8 := (hb2.cell (c := w1.heap.size) (o := 3) hl6 hBx).trans k6; clear h9 hM2 hq2 hs2 hf2 hr2) | fail
   all_goals
    clear v0 v1 v2 v3 y0 y1 y2 y3 k8
    obtain ⟨w9, hw9⟩ : ∃ w9, put4 w8 g (J * 4) o2 n2 t2 (.slice a2 k2.len cap2) = w9 := ⟨_, rfl⟩
    have hsz9 : w9.heap.size = w8.heap.size := by rw [← hw9]; unfold put4; simp
    have hw8 := hw9
    unfold put4 at hw8
    rw [hw8]
    rw [hw9] at S9
    have hl1 : w.heap.size + 1 < w9.heap.size := by have := hb2.size; have h1 : w6.drew.heap.size = w6.heap.size := rfl; have := HG.out; omega
    clear hw8 hw9 hsz9
    obtain ⟨⟨u0, u1, u2, u3, y0, y1, y2, y3⟩, z0, z1, z2, z3⟩ := there_at S9.out.th
    have d0 := S9.out.c0
    have d1 := S9.out.c1
    have d2 := S9.out.c2
    have d3 := S9.out.c3
    go_wp2_with fail
    refine bodyPost_ret (v := .agg #[.int .i64 o, .int .i64 n, .string t, (.slice (some ⟨g, 0, none⟩) L cap')]) (by simp [results, Tryz.results81, go_sem, y0, y1, y2, y3, hl1]) rfl ?_
    refine S9.out.end HX.out (ht := ?_) (by have h1 := HSZ.out; have h2 := H9.out.1; rw [F.size_app]; simp only [F.size]; omega) (by have h2 := H9.out.2; omega)
    refine Touch.setCell (Touch.setCell (Touch.setCell (Touch.setCell (Touch.refl _ _ _) ?_ ?_ _) ?_ ?_ _) ?_ ?_ _) ?_ ?_ _ <;> simp
end Go.Proofs.YtjcaiecapapceaaGreat.Mut
namespace Go.Proofs.YtjcaiecapapceaaGreat.Mut2
open Go.RowKit P1 Draw Draw2 Copy CopyS DrA DrD Mut
theorem mutAt (d : Nat) : ∀ k : F, k.deep ≤ d → MutAt (d + 1) k := by
 induction d with
 | zero =>
   intro k hk w x lo p o n t a cap fs hs hfs hc hsz ht hrd hp hx
   rw [show 3 + 2 * (0 + 1) = 5 + 2 * 0 from rfl]
   exact mut_step 0 w x lo p o n t k (fun pr r o1 n1 t1 k1 e => by rw [e, F.deep_app] at hk; simp only [F.deep] at hk; omega) a cap fs hs hfs hc hsz ht hrd (by omega) hx
 | succ d ih =>
   intro k hk w x lo p o n t a cap fs hs hfs hc hsz ht hrd hp hx
   rw [show 3 + 2 * (d + 1 + 1) = 5 + 2 * (d + 1) by omega]
   exact mut_step (d + 1) w x lo p o n t k (fun pr r o1 n1 t1 k1 e => ih k1 (by rw [e, F.deep_app] at hk; simp only [F.deep] at hk; omega)) a cap fs hs hfs hc hsz ht hrd (by omega) hx
theorem deep_le_size (f : F) : f.deep ≤ f.size := by
 induction f with
 | nil => simp [F.deep]
 | cons o n t k r ihk ihr => simp only [F.deep, F.size]; omega
theorem l1Mutate (w : World) (x lo p M : Nat) (o n : Int) (t : ByteArray) (k : F) (a : Option Addr) (cap : Nat) (fs : List Nat) (hs : SubAt w a k fs) (hfs : ∀ c ∈ fs, c < w.heap.size) (hc : k.len ≤ cap) (hM : t.size + k.size ≤ M) (hM1 : M ≤ 1000000) (hrd : Rd w x lo p) (hp : p + (5 + 2 * M) ≤ 1073741824) (hx : x < w.heap.size) :
  Calls Tryz.prog 81 #[.pointer (some ⟨x, 0, none⟩), .agg #[.int .i64 o, .int .i64 n, .string t, .slice a k.len cap]] w (DocOut w x lo p (5 + 2 * M) (M + 20)) := by
 have hd := deep_le_size k
 refine (mutAt k.deep k (Nat.le_refl _) w x lo p o n t a cap fs hs hfs hc (by omega) (by omega) hrd (by omega) hx).mono ?_
 rintro e w' ⟨o1, n1, t1, k1, a1, cap1, f1, q, h1, h2, h3, h4, h5, h6, h7, h8⟩
 exact ⟨o1, n1, t1, k1, a1, cap1, f1, q, h1, h2, by omega, h4, h5, h6, by omega, h8⟩
end Go.Proofs.YtjcaiecapapceaaGreat.Mut2
namespace Go.Proofs.YtjcaiecapapceaaGreat.LawC
open Go.ChangeShapes Go.WideShapes Go.ChangeAt Go.RowKit P1 Draw6
theorem bytes_of {W : World} {a : Addr} {l : Nat} {zs : List Int} (hl : l ≤ zs.length) (hc : ∀ i, i < zs.length → W.cell? (a.add i) = some (.int .u8 (zs.getD i 0))) (hz : ∀ n ∈ zs, (Lit.int .u8 n).wf = true) : Bytes W (some a) l := by
 intro h0
 have hsp : a.spot = none := by
  have h := hc 0 (by omega)
  rw [show a.add 0 = a from rfl] at h
  unfold World.cell? at h
  split at h
  ·split at h
   ·cases h
   ·rename_i hs; simpa using hs
  ·cases h
 obtain ⟨b, off, sp⟩ := a
 obtain rfl : sp = none := hsp
 refine ⟨b, off, rfl, World.block_lt_of_cell? _ _ (hc 0 (by omega)), fun i hi => ?_⟩
 have hi' : i < zs.length := by omega
 have h2 := hz (zs.getD i 0) (by rw [List.getD_eq_getElem?_getD, List.getElem?_eq_getElem hi']; exact List.getElem_mem hi')
 have h1 : IntKind.u8.min = 0 := rfl
 have h3 : IntKind.u8.max = 255 := rfl
 simp only [Lit.wf, Bool.and_eq_true, decide_eq_true_eq] at h2
 refine ⟨(zs.getD i 0).toNat, by omega, ?_⟩
 have e : ((zs.getD i 0).toNat : Int) = zs.getD i 0 := by omega
 rw [e]
 have ea : ((⟨b, off, none⟩ : Addr).add i) = ⟨b, off + i, none⟩ := by
  unfold Addr.add
  split
  ·rename_i h0; subst h0; rfl
  ·rfl
 rw [← ea]
 exact hc i hi'
theorem opened {H : Type} {enc : TypeId × Value → H} {W : World} {a : Option Addr} {len cap : Nat} {d : DataW H} {p : List MemPlace} (h0 : DataW.Trod enc Tryz.prog W 0 (fun _ => true) true 22 (.slice a len cap) d p) :
  Bytes W a len ∧ len ≤ cap ∧ cap ≤ maxLen := by
 have hc : Tryz.prog.cellsOf 5 = 1 := by kernel_rfl
 obtain ⟨fuel, hf⟩ := h0
 rcases open_ints Tryz.underlying22 Tryz.underlying5 hc hf with ⟨hcs, hx⟩ | ⟨a, len', cap', zs, hcs, _, hl, hm, hz, hx, hcell, hwz⟩
 ·simp [Value.cells] at hcs
  obtain ⟨rfl, rfl, rfl⟩ := hcs
  exact ⟨fun h => by omega, by omega, by unfold maxLen; omega⟩
 ·simp [Value.cells] at hcs
  obtain ⟨rfl, rfl, rfl⟩ := hcs
  simp only [if_true] at hz
  exact ⟨bytes_of (by omega) hcell hwz, hl, hm⟩
theorem bytes_below {w W : World} {a : Option Addr} {len : Nat} (h : Bytes w a len) (k : Below w.heap.size w W) : Bytes W a len := fun h0 => by
 obtain ⟨b, off, ha, hb, hc⟩ := h h0
 refine ⟨b, off, ha, Nat.lt_of_lt_of_le hb k.size, fun i hi => ?_⟩
 obtain ⟨v, hv, hcell⟩ := hc i hi
 exact ⟨v, hv, (k.cell (p := ⟨b, off + i, none⟩) hb).trans hcell⟩
end Go.Proofs.YtjcaiecapapceaaGreat.LawC
namespace Go.Proofs.YtjcaiecapapceaaGreat.DrI
open Go.RowKit P1 Draw Draw2 Draw6 Copy DrA DrD Mut Mut2
theorem opened' {w w1 : World} {ob : Obj} (h : Below (w.alloc ob).heap.size (w.alloc ob) w1) : Below w.heap.size w w1 := ((Below.refl _ _).alloc (Nat.le_refl _) _).trans (h.mono (by simp))
theorem four_new {w w1 : World} {T : TypeId} {u0 u1 u2 u3 : Value} (h : Below (w.alloc (.cells #[u0, u1, u2, u3] T)).heap.size (w.alloc (.cells #[u0, u1, u2, u3] T)) w1) : w1.there w.heap.size 0 4 := by
 have := there_new w #[u0, u1, u2, u3] T 4 (by simp)
 exact there_below this (by simp) h
theorem there_but {w w' : World} {b B x : Nat} (h : w.there b 0 4) (k : But B x w w') (hb : b < B) (hx : b ≠ x) : w'.there b 0 4 := fun j hj => ⟨by rw [k.cell hb hx]; exact (h j hj).1, by rw [k.frozen hb hx]; exact (h j hj).2⟩
end Go.Proofs.YtjcaiecapapceaaGreat.DrI
namespace Go.Proofs.YtjcaiecapapceaaGreat.DrK
open Go.RowKit P1 Draw Draw2 Draw6 Copy DrA DrD Mut Mut2 DrI
end Go.Proofs.YtjcaiecapapceaaGreat.DrK
namespace Go.Proofs.YtjcaiecapapceaaGreat.DrL
open Go.RowKit P1 Draw Draw2 Draw6 Copy DrA DrD Mut Mut2 DrI
end Go.Proofs.YtjcaiecapapceaaGreat.DrL
