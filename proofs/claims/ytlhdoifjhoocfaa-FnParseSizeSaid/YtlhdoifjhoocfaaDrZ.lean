import Derived.Test.YtlhdoifjhoocfaaCopyG
import Derived.Test.YtlhdoifjhoocfaaPl
import Derived.Test.YtlhdoifjhoocfaaDrY
import Derived.Test.YtlhdoifjhoocfaaDrX
import Derived.ProofKit
/-
  What the model's l1Mutate comes to: some document of a bounded size, in memory of its own.
-/
set_option linter.unusedVariables false
set_option linter.unusedSimpArgs false
namespace Go.Proofs.Ytlhdoifjhoocfaa.Mut
open Go.RowKit P1 Draw Draw2 Copy CopyS DrA DrD

theorem Grow.but {w w' : World} {T : TypeId} {lo x : Nat} {v : Value} {p : F} {fs : List Nat} (h : Grow w T lo v p fs) (k : But w.heap.size x w w') (hx : x < lo) : Grow w' T lo v p fs := by
  obtain ⟨⟨xs, h1⟩, h2, h3, h4⟩ := h
  have hg : w.grownBy w' (some x) := ⟨k.os, k.tape, k.output, k.size, fun i hi hne => k.block i hi (fun e => hne (by rw [e]))⟩
  have hc : ∀ c ∈ fs, ∀ o, w'.cell? ⟨c, o, none⟩ = w.cell? ⟨c, o, none⟩ := fun c hc o => k.cell (h3.lt c hc) (by have := (h3.2 c hc).1; omega)
  refine ⟨⟨xs, h1.kept hg ?_⟩, ?_, h3.alike k.size (fun c hc o => k.frozen (h3.lt c hc) (by have := (h3.2 c hc).1; omega)), Nat.le_trans h4 k.size⟩
  · right
    intro e
    have := (h1.lt x e).1
    omega
  · rcases h2 with h2 | ⟨b, cap, f', e, hp, rfl, hr⟩
    · exact .inl h2
    · exact .inr ⟨b, cap, f', e, hp, rfl, hr.congr (hc b (by simp)) (fun c hm => hc c (by simp [hm]))⟩
theorem Grow.setAt {w : World} {T : TypeId} {lo : Nat} {v : Value} {p : F} {fs : List Nat} (h : Grow w T lo v p fs) {a : Addr} (ho : v.ownBlock ≠ some a.block) (hf : a.block ∉ fs) (u : Value) : Grow (w.setCell a u) T lo v p fs := by
  obtain ⟨⟨xs, h1⟩, h2, h3, h4⟩ := h
  have hg : w.grownBy (w.setCell a u) (some a.block) := ⟨rfl, rfl, rfl, by simp [World.setCell], fun k hk hne => Below.heap_setCell _ _ _ _ (fun e => hne (by rw [e]))⟩
  have hc : ∀ c ∈ fs, ∀ o, (w.setCell a u).cell? ⟨c, o, none⟩ = w.cell? ⟨c, o, none⟩ := fun c hc o => World.cell?_setCell_other _ _ _ _ (fun e => hf (by subst e; exact hc))
  refine ⟨⟨xs, h1.kept hg (.inr ho)⟩, ?_, h3.alike (by simp) (fun c _ o => World.frozen?_setCell _ _ _ _), by simpa using h4⟩
  rcases h2 with h2 | ⟨b, cap, f', e, hp, rfl, hr⟩
  · exact .inl h2
  · exact .inr ⟨b, cap, f', e, hp, rfl, hr.congr (hc b (by simp)) (fun c hm => hc c (by simp [hm]))⟩

theorem rdSet' {wr : World} {x lo q b o : Nat} (h : Rd wr x lo q) (hb : x < b) (u : Value) : Rd (wr.setCell ⟨b, o, none⟩ u) x lo q := by
  obtain ⟨a, l, c, h0, h1, h2, h3, h4, h5, h6⟩ := h
  refine ⟨a, l, c, by rw [World.cell?_setCell_other _ _ _ _ (by intro e; injection e with e1; omega)]; exact h0, by rw [World.cell?_setCell_other _ _ _ _ (by intro e; injection e with e1; omega)]; exact h1, by rw [World.frozen?_setCell]; exact h2, h3, h4, h5, fun hl => ?_⟩
  obtain ⟨b', off, ha, hb', hc⟩ := h6 hl
  refine ⟨b', off, ha, hb', fun i hi => ?_⟩
  obtain ⟨v, hv, hcell⟩ := hc i hi
  exact ⟨v, hv, by rw [World.cell?_setCell_other _ _ _ _ (by intro e; injection e with e1; omega)]; exact hcell⟩

/-- some document, in memory of its own -/
def DocOut (w : World) (x lo p c M : Nat) (e : Ending) (w' : World) : Prop := ∃ (o n : Int) (t : ByteArray) (k : F) (a : Option Addr) (cap : Nat) (fs : List Nat) (q : Nat), e = .returned (.agg #[.int .i64 o, .int .i64 n, .string t, .slice a k.len cap]) ∧ k.len ≤ cap ∧ t.size + k.size ≤ M ∧
  SubAt w' a k fs ∧ Fresh w.heap.size w' fs ∧ Rd w' x lo q ∧ q ≤ p + c ∧ But w.heap.size x w w'

/-- the copy that is worked on: its variable at block B, its list in a row of the call's own -/
structure MS (w wr : World) (x lo q B : Nat) (o n : Int) (t : ByteArray) (v : Value) (k : F) (fs : List Nat) : Prop where
  rd : Rd wr x lo q
  but : But w.heap.size x w wr
  th : wr.there (w.heap.size + 1) 0 4
  c0 : wr.cell? ⟨B, 0, none⟩ = some (.int .i64 o)
  c1 : wr.cell? ⟨B, 1, none⟩ = some (.int .i64 n)
  c2 : wr.cell? ⟨B, 2, none⟩ = some (.string t)
  c3 : wr.cell? ⟨B, 3, none⟩ = some v
  fz : ∀ i, wr.frozen? ⟨B, i, none⟩ = false
  hB : w.heap.size + 5 ≤ B
  lt : B < wr.heap.size
  gr : Grow wr 26 (w.heap.size + 5) v k fs
  oB : v.ownBlock ≠ some B
  fB : B ∉ fs

section
variable {w wr w' : World} {x lo q B : Nat} {o n : Int} {t : ByteArray} {v : Value} {k : F} {fs : List Nat}
theorem MS.step (h : MS w wr x lo q B o n t v k fs) (hx : x < w.heap.size) {q' : Nat} (kk : But wr.heap.size x wr w') (hr : Rd w' x lo q') : MS w w' x lo q' B o n t v k fs := by
  have hB := h.hB
  have hl := h.lt
  have hne : B ≠ x := by omega
  exact ⟨hr, h.but.trans (kk.mono h.but.size), fun j hj => ⟨by rw [kk.cell (by omega) (by omega)]; exact (h.th j hj).1, by rw [kk.frozen (by omega) (by omega)]; exact (h.th j hj).2⟩, (kk.cell hl hne).trans h.c0, (kk.cell hl hne).trans h.c1, (kk.cell hl hne).trans h.c2, (kk.cell hl hne).trans h.c3, fun i => (kk.frozen hl hne).trans (h.fz i), hB, Nat.lt_of_lt_of_le hl kk.size, Grow.but h.gr kk (by omega), h.oB, h.fB⟩
theorem MS.alloc (h : MS w wr x lo q B o n t v k fs) (hx : x < w.heap.size) (ob : Obj) : MS w (wr.alloc ob) x lo q B o n t v k fs :=
  h.step hx ((But.refl _ _ _).alloc (Nat.le_refl _) _) (rdBelow h.rd (by have := h.hB; have := h.lt; omega) ((Below.refl _ _).alloc (Nat.le_refl _) _))
theorem MS.setB (h : MS w wr x lo q B o n t v k fs) (hx : x < w.heap.size) (i : Nat) (u : Value) {o' n' : Int} {t' : ByteArray}
    (e0 : (wr.setCell ⟨B, i, none⟩ u).cell? ⟨B, 0, none⟩ = some (.int .i64 o')) (e1 : (wr.setCell ⟨B, i, none⟩ u).cell? ⟨B, 1, none⟩ = some (.int .i64 n')) (e2 : (wr.setCell ⟨B, i, none⟩ u).cell? ⟨B, 2, none⟩ = some (.string t')) (e3 : (wr.setCell ⟨B, i, none⟩ u).cell? ⟨B, 3, none⟩ = some v) :
    MS w (wr.setCell ⟨B, i, none⟩ u) x lo q B o' n' t' v k fs := by
  have hB := h.hB
  refine ⟨rdSet' h.rd (by omega) _, h.but.setCell (Or.inr (by show w.heap.size ≤ B; omega)) _, fun j hj => ⟨?_, by rw [World.frozen?_setCell]; exact (h.th j hj).2⟩, e0, e1, e2, e3, fun i => by rw [World.frozen?_setCell]; exact h.fz i, hB, by simpa using h.lt, Grow.setAt h.gr h.oB h.fB u, h.oB, h.fB⟩
  rw [World.cell?_setCell_other _ _ _ _ (fun e => by injection e with e4; omega)]
  exact (h.th j hj).1
theorem MS.set0 (h : MS w wr x lo q B o n t v k fs) (hx : x < w.heap.size) (o' : Int) : MS w (wr.setCell ⟨B, 0, none⟩ (.int .i64 o')) x lo q B o' n t v k fs :=
  h.setB hx 0 _ (World.cell?_setCell_same _ _ _ h.c0) (by rw [World.cell?_setCell_other _ _ _ _ (by simp)]; exact h.c1) (by rw [World.cell?_setCell_other _ _ _ _ (by simp)]; exact h.c2) (by rw [World.cell?_setCell_other _ _ _ _ (by simp)]; exact h.c3)
theorem MS.set1 (h : MS w wr x lo q B o n t v k fs) (hx : x < w.heap.size) (n' : Int) : MS w (wr.setCell ⟨B, 1, none⟩ (.int .i64 n')) x lo q B o n' t v k fs :=
  h.setB hx 1 _ (by rw [World.cell?_setCell_other _ _ _ _ (by simp)]; exact h.c0) (World.cell?_setCell_same _ _ _ h.c1) (by rw [World.cell?_setCell_other _ _ _ _ (by simp)]; exact h.c2) (by rw [World.cell?_setCell_other _ _ _ _ (by simp)]; exact h.c3)
theorem MS.set2 (h : MS w wr x lo q B o n t v k fs) (hx : x < w.heap.size) (t' : ByteArray) : MS w (wr.setCell ⟨B, 2, none⟩ (.string t')) x lo q B o n t' v k fs :=
  h.setB hx 2 _ (by rw [World.cell?_setCell_other _ _ _ _ (by simp)]; exact h.c0) (by rw [World.cell?_setCell_other _ _ _ _ (by simp)]; exact h.c1) (World.cell?_setCell_same _ _ _ h.c2) (by rw [World.cell?_setCell_other _ _ _ _ (by simp)]; exact h.c3)
theorem MS.end (h : MS w wr x lo q B o n t v k fs) (hx : x < w.heap.size) {w4 : World} {p c M : Nat} (ht : Touch (w.heap.size + 1) (w.heap.size + 2) wr w4) (hM : t.size + k.size ≤ M) (hq : q ≤ p + c) : DocOut w x lo p c M (.returned (.agg #[.int .i64 o, .int .i64 n, .string t, v])) w4 := by
  obtain ⟨a, cap, rfl, hc, hs, _⟩ := h.gr.slice
  have hlo : ∀ c ∈ fs, w.heap.size + 2 ≤ c := fun c hc => by have := (h.gr.fresh.2 c hc).1; omega
  exact ⟨o, n, t, k, a, cap, fs, q, rfl, hc, hM, ht.sub hs (fun c hc => Or.inr (hlo c hc)), (ht.fresh h.gr.fresh (fun c hc => Or.inr (hlo c hc))).mono (by omega), rdTouch h.rd (by omega) ht, hq, butTouch h.but ht (by omega)⟩
end

-- the walk
def bits5 : List ByteArray := [⟨#[]⟩, ⟨#[65]⟩, ⟨#[97, 98, 99, 100, 101, 102, 103, 104, 105, 106, 107, 108, 109]⟩, ⟨#[120, 32, 121]⟩, ⟨#[122]⟩]
theorem bits5_small : ∀ s ∈ bits5, s.size ≤ 13 := by decide

theorem app_ne (k : F) (o n : Int) (t : ByteArray) (j : F) : k.app (.cons o n t j .nil) ≠ .nil := fun e => by
  have := congrArg F.len e
  rw [F.len_app] at this
  simp [F.len] at this
theorem MS.grown {w wr wr' : World} {x lo q B : Nat} {o n : Int} {t : ByteArray} {v v' : Value} {k k' : F} {fs fs' : List Nat} (h : MS w wr x lo q B o n t v k fs) (hx : x < w.heap.size) (hG : Grow wr' 26 (w.heap.size + 5) v' k' fs') (hb : Below (w.heap.size + 5) wr wr') (hgb : wr.grownBy wr' v.ownBlock)
    (hwh : ∀ q ∈ fs', some q = v.ownBlock ∨ q ∈ fs ∨ q ∈ ([] : List Nat) ∨ q = wr.heap.size) (hne : k' ≠ .nil) :
    (wr'.cell? ⟨B, 3, none⟩ = some v ∧ wr'.frozen? ⟨B, 3, none⟩ = false) ∧ MS w (wr'.setCell ⟨B, 3, none⟩ v') x lo q B o n t v' k' fs' := by
  have hB := h.hB
  have hl := h.lt
  have hbk : wr'.heap[B]? = wr.heap[B]? := hgb.block B hl (fun e => h.oB e.symm)
  have hc : ∀ i, wr'.cell? ⟨B, i, none⟩ = wr.cell? ⟨B, i, none⟩ := fun i => World.cell?_of_block (w := wr) hbk
  have hz : ∀ i, wr'.frozen? ⟨B, i, none⟩ = wr.frozen? ⟨B, i, none⟩ := fun i => World.frozen?_of_block (w := wr) hbk
  have hfB : B ∉ fs' := fun hm => by
    rcases hwh B hm with e | e | e | e
    · exact h.oB e.symm
    · exact h.fB e
    · cases e
    · omega
  have hoB : v'.ownBlock ≠ some B := fun e => by
    rcases hG.2.1 with ⟨h1, _⟩ | ⟨b, cap, f', rfl, _, rfl, _⟩
    · exact hne h1
    · simp only [Value.ownBlock, Option.some.injEq] at e
      subst e
      exact hfB (by simp)
  refine ⟨⟨(hc 3).trans h.c3, (hz 3).trans (h.fz 3)⟩, rdSet' (rdBelow h.rd (by omega) hb) (by omega) _, (h.but.trans (But.of_below (hb.mono (by omega)))).setCell (Or.inr (by show w.heap.size ≤ B; omega)) _, fun j hj => ⟨?_, ?_⟩, ?_, ?_, ?_, World.cell?_setCell_same _ _ _ ((hc 3).trans h.c3), fun i => by rw [World.frozen?_setCell]; exact (hz i).trans (h.fz i), hB, by have := hb.size; simp; omega, Grow.setAt hG hoB hfB _, hoB, hfB⟩
  · rw [World.cell?_setCell_other _ _ _ _ (fun e => by injection e with e4; omega)]
    exact (there_below h.th (by omega) hb j hj).1
  · rw [World.frozen?_setCell]
    exact (there_below h.th (by omega) hb j hj).2
  · rw [World.cell?_setCell_other _ _ _ _ (by simp)]; exact (hc 0).trans h.c0
  · rw [World.cell?_setCell_other _ _ _ _ (by simp)]; exact (hc 1).trans h.c1
  · rw [World.cell?_setCell_other _ _ _ _ (by simp)]; exact (hc 2).trans h.c2
theorem ms_start {w w1 : World} {c1 c2 : Array Value} {x lo p L cap' : Nat} {o n : Int} {t : ByteArray} {k : F} {gs : List Nat} {a' : Option Addr} (hx : x < w.heap.size) (hrd : Rd w x lo p) (hA : Below w.heap.size w ((w.alloc (.cells c1 26)).alloc (.cells c2 26))) (h2 : c2.size = 4)
    (hb : Below ((w.alloc (.cells c1 26)).alloc (.cells c2 26)).heap.size ((w.alloc (.cells c1 26)).alloc (.cells c2 26)) w1) (hG : Grow w1 26 (((w.alloc (.cells c1 26)).alloc (.cells c2 26)).heap.size + 3) (.slice a' L cap') k gs) :
    MS w (w1.alloc (.cells #[.int .i64 o, .int .i64 n, .string t, .slice a' L cap'] 26)) x lo p w1.heap.size o n t (.slice a' L cap') k gs := by
  have hsz : ((w.alloc (.cells c1 26)).alloc (.cells c2 26)).heap.size = w.heap.size + 2 := by simp
  have hW : Below w.heap.size w w1 := hA.trans (hb.mono (by omega))
  have hW2 : Below w.heap.size w (w1.alloc (.cells #[.int .i64 o, .int .i64 n, .string t, .slice a' L cap'] 26)) := hW.alloc hW.size _
  have hth : ((w.alloc (.cells c1 26)).alloc (.cells c2 26)).there (w.heap.size + 1) 0 4 := by
    have := there_new (w.alloc (.cells c1 26)) c2 26 4 (by omega)
    simpa using this
  have hlo := hG.2.2.2
  rw [hsz] at hG hlo
  refine ⟨rdBelow hrd hx hW2, But.of_below hW2, there_below (there_below hth (by omega) hb) (B := w1.heap.size) (by omega) ((Below.refl _ _).alloc (Nat.le_refl _) _), ?_, ?_, ?_, ?_, fun i => World.frozen?_alloc_new _ _ _ _, by omega, by simp, hG.alloc _, fun e => ?_, fun hc => ?_⟩
  · rw [World.cell?_alloc_new]; rfl
  · rw [World.cell?_alloc_new]; rfl
  · rw [World.cell?_alloc_new]; rfl
  · rw [World.cell?_alloc_new]; rfl
  · have := (hG.own_lt _ e).2; omega
  · have := hG.fresh.lt _ hc; omega

theorem own_set {w : World} {base : Nat} {e : TypeId} {size : Nat} {v : Value} {n : Nat} (h : ∃ xs, w.ownsRow base e size v n xs) {g : Nat} (hv : v.ownBlock = some g) (i : Nat) (u : Value) : ∃ xs, (w.setCell ⟨g, i, none⟩ u).ownsRow base e size v n xs := by
  obtain ⟨xs, h1, h2⟩ := h
  rcases h2 with ⟨rfl, _⟩ | ⟨g', cap, cur, rfl, hb, hg, hnc, hcm, hcs, htake⟩
  · cases hv
  · obtain rfl : g' = g := by simpa [Value.ownBlock] using hv
    have hle : n * size ≤ cap * size := Nat.mul_le_mul_right size hnc
    refine ⟨(cur.setIfInBounds i u).toList.take (n * size), ?_, .inr ⟨g', cap, cur.setIfInBounds i u, rfl, hb, heap_setCell_same w g' i cur e u hg, hnc, hcm, by simpa using hcs, rfl⟩⟩
    rw [List.length_take, Array.length_toList, Array.size_setIfInBounds, hcs]
    exact Nat.min_eq_left hle

/-- the world behind the store of a document -/
def put4 (w : World) (g i : Nat) (o n : Int) (t : ByteArray) (v : Value) : World := (((w.setCell ⟨g, i, none⟩ (.int .i64 o)).setCell ⟨g, i + 1, none⟩ (.int .i64 n)).setCell ⟨g, i + 2, none⟩ (.string t)).setCell ⟨g, i + 3, none⟩ v

theorem put4_out {w : World} {g i c x : Nat} {o n : Int} {t : ByteArray} {v : Value} (h : c ≠ g ∨ x < i ∨ i + 4 ≤ x) : (put4 w g i o n t v).cell? ⟨c, x, none⟩ = w.cell? ⟨c, x, none⟩ := by
  unfold put4
  rw [World.cell?_setCell_other _ _ _ _ (fun e => by injection e with e1 e2; omega), World.cell?_setCell_other _ _ _ _ (fun e => by injection e with e1 e2; omega), World.cell?_setCell_other _ _ _ _ (fun e => by injection e with e1 e2; omega), World.cell?_setCell_other _ _ _ _ (fun e => by injection e with e1 e2; omega)]
theorem put4_frozen {w : World} {g i : Nat} {o n : Int} {t : ByteArray} {v : Value} (a : Addr) : (put4 w g i o n t v).frozen? a = w.frozen? a := by
  unfold put4; rw [World.frozen?_setCell, World.frozen?_setCell, World.frozen?_setCell, World.frozen?_setCell]
theorem put4_in {w : World} {g i : Nat} {o n : Int} {t : ByteArray} {v u0 u1 u2 u3 : Value} (h0 : w.cell? ⟨g, i, none⟩ = some u0) (h1 : w.cell? ⟨g, i + 1, none⟩ = some u1) (h2 : w.cell? ⟨g, i + 2, none⟩ = some u2) (h3 : w.cell? ⟨g, i + 3, none⟩ = some u3) :
    (put4 w g i o n t v).cell? ⟨g, i, none⟩ = some (.int .i64 o) ∧ (put4 w g i o n t v).cell? ⟨g, i + 1, none⟩ = some (.int .i64 n) ∧ (put4 w g i o n t v).cell? ⟨g, i + 2, none⟩ = some (.string t) ∧ (put4 w g i o n t v).cell? ⟨g, i + 3, none⟩ = some v := by
  unfold put4
  have hn : ∀ a b : Nat, a ≠ b → (⟨g, a, none⟩ : Addr) ≠ ⟨g, b, none⟩ := fun a b h e => by injection e with _ e; exact h e
  refine ⟨?_, ?_, ?_, ?_⟩
  · rw [World.cell?_setCell_other _ _ _ _ (hn _ _ (by omega)), World.cell?_setCell_other _ _ _ _ (hn _ _ (by omega)), World.cell?_setCell_other _ _ _ _ (hn _ _ (by omega))]
    exact World.cell?_setCell_same _ _ _ h0
  · rw [World.cell?_setCell_other _ _ _ _ (hn _ _ (by omega)), World.cell?_setCell_other _ _ _ _ (hn _ _ (by omega))]
    exact World.cell?_setCell_same _ _ _ (by rw [World.cell?_setCell_other _ _ _ _ (hn _ _ (by omega))]; exact h1)
  · rw [World.cell?_setCell_other _ _ _ _ (hn _ _ (by omega))]
    exact World.cell?_setCell_same _ _ _ (by rw [World.cell?_setCell_other _ _ _ _ (hn _ _ (by omega)), World.cell?_setCell_other _ _ _ _ (hn _ _ (by omega))]; exact h2)
  · exact World.cell?_setCell_same _ _ _ (by rw [World.cell?_setCell_other _ _ _ _ (hn _ _ (by omega)), World.cell?_setCell_other _ _ _ _ (hn _ _ (by omega)), World.cell?_setCell_other _ _ _ _ (hn _ _ (by omega))]; exact h3)

/-- one document of the copy has been changed for another -/
theorem MS.swap {w W w8 : World} {x lo q q' B g L cap1 : Nat} {cap' : Nat} {o n o1 n1 o2 n2 : Int} {t t1 t2 : ByteArray} {pr r k1 k2 : F} {gs f2 : List Nat} {a2 : Option Addr} (h : MS w W x lo q B o n t (.slice (some ⟨g, 0, none⟩) L cap') (pr.app (.cons o1 n1 t1 k1 r)) gs) (hx : x < w.heap.size)
    (hb : But W.heap.size x W w8) (hr : Rd w8 x lo q') (hs : SubAt w8 a2 k2 f2) (hf : Fresh W.heap.size w8 f2) (hc : k2.len ≤ cap1) :
    ∃ gs', MS w (put4 w8 g (pr.len * 4) o2 n2 t2 (.slice a2 k2.len cap1)) x lo q' B o n t (.slice (some ⟨g, 0, none⟩) L cap') (pr.app (.cons o2 n2 t2 k2 r)) gs' := by
  have h8 := h.step hx hb hr
  have hgl := h.gr.own_lt g rfl
  have hBg : B ≠ g := fun e => h.oB (by rw [e]; rfl)
  have hnil : ∀ (p : F) (a b : Int) (c : ByteArray) (d e : F), p.app (.cons a b c d e) ≠ .nil := fun p a b c d e h => by
    have := congrArg F.len h
    rw [F.len_app] at this
    simp [F.len] at this
  obtain ⟨h81, h82, h83, h84⟩ := h8.gr
  rcases h82 with ⟨h, _⟩ | ⟨b, cp, f', e, _, rfl, hrow⟩
  · exact absurd h (hnil _ _ _ _ _ _)
  injection e with e1 e2 e3
  injection e1 with e1
  injection e1 with e1
  subst e1
  have hnd := List.nodup_cons.1 h83.1
  have hltW : ∀ c ∈ g :: f', c < W.heap.size := h.gr.fresh.lt
  obtain ⟨a, cap, f1, fk, f3, c0, c1, c2, c3, _, _, _, _, hfe⟩ := hrow.parts
  rw [Nat.zero_add] at c0 c1 c2 c3
  obtain ⟨p0, p1, p2, p3⟩ := put4_in (o := o2) (n := n2) (t := t2) (v := .slice a2 k2.len cap1) c0 c1 c2 c3
  have hkeep : ∀ c, c ≠ g → ∀ y, (put4 w8 g (pr.len * 4) o2 n2 t2 (.slice a2 k2.len cap1)).cell? ⟨c, y, none⟩ = w8.cell? ⟨c, y, none⟩ := fun c hc y => put4_out (.inl hc)
  have hs9 : SubAt (put4 w8 g (pr.len * 4) o2 n2 t2 (.slice a2 k2.len cap1)) a2 k2 f2 := hs.congr (fun c hc y => hkeep c (by have := (hf.2 c hc).1; omega) y)
  obtain ⟨f1, fk, f3, hfe, hrow9⟩ := hrow.setDoc (w' := put4 w8 g (pr.len * 4) o2 n2 t2 (.slice a2 k2.len cap1)) (o' := o2) (n' := n2) (t' := t2) (fun y hy => put4_out (.inr (by omega))) (fun c hc y => hkeep c (fun e => hnd.1 (by rw [← e]; exact hc)) y) (by rw [Nat.zero_add]; exact p0) (by rw [Nat.zero_add]; exact p1) (by rw [Nat.zero_add]; exact p2) (by rw [Nat.zero_add]; exact p3) hc hs9
  subst hfe
  have hfr9 : Fresh (w.heap.size + 5) w8 (g :: (f1 ++ (f2 ++ f3))) := h83.swap hltW hf h.gr.2.2.2
  have hsz9 : (put4 w8 g (pr.len * 4) o2 n2 t2 (.slice a2 k2.len cap1)).heap.size = w8.heap.size := by unfold put4; simp
  have hlen : (pr.app (.cons o2 n2 t2 k2 r)).len = (pr.app (.cons o1 n1 t1 k1 r)).len := by rw [F.len_app, F.len_app]; rfl
  refine ⟨g :: (f1 ++ (f2 ++ f3)), ?_, ?_, fun j hj => ⟨?_, by rw [put4_frozen]; exact (h8.th j hj).2⟩, (hkeep B hBg 0).trans h8.c0, (hkeep B hBg 1).trans h8.c1, (hkeep B hBg 2).trans h8.c2, (hkeep B hBg 3).trans h8.c3, fun i => (put4_frozen _).trans (h8.fz i), h8.hB, by rw [hsz9]; exact h8.lt, ⟨?_, ?_, ?_, by rw [hsz9]; exact h84⟩, h8.oB, fun hm => ?_⟩
  · unfold put4
    exact rdSet' (rdSet' (rdSet' (rdSet' hr (by omega) _) (by omega) _) (by omega) _) (by omega) _
  · unfold put4
    exact (((h8.but.setCell (Or.inr (by show w.heap.size ≤ g; omega)) _).setCell (Or.inr (by show w.heap.size ≤ g; omega)) _).setCell (Or.inr (by show w.heap.size ≤ g; omega)) _).setCell (Or.inr (by show w.heap.size ≤ g; omega)) _
  · rw [hkeep _ (by omega)]; exact (h8.th j hj).1
  · rw [hlen]
    unfold put4
    exact own_set (own_set (own_set (own_set h81 rfl _ _) rfl _ _) rfl _ _) rfl _ _
  · exact .inr ⟨g, cap', f1 ++ (f2 ++ f3), by rw [hlen, e2], hnil _ _ _ _ _ _, rfl, hrow9⟩
  · exact hfr9.alike (by rw [hsz9]; exact Nat.le_refl _) (fun c _ y => put4_frozen _)
  · rcases List.mem_cons.1 hm with e | hm
    · exact hBg e
    · simp only [List.mem_append] at hm
      rcases hm with hm | hm | hm
      · exact h8.fB (by simp [hm])
      · have := (hf.2 B hm).1; have := h.lt; omega
      · exact h8.fB (by simp [hm])

end Go.Proofs.Ytlhdoifjhoocfaa.Mut

/-
  The contract of the model's l1Mutate, at the documents of every list.
-/
set_option linter.unusedVariables false
set_option linter.unusedSimpArgs false
namespace Go.Proofs.Ytlhdoifjhoocfaa.Mut2
open Go.RowKit P1 Draw Draw2 Copy CopyS DrA DrD Mut
theorem deep_le_size (f : F) : f.deep ≤ f.size := by
  induction f with
  | nil => simp [F.deep]
  | cons o n t k r ihk ihr => simp only [F.deep, F.size]; omega

end Go.Proofs.Ytlhdoifjhoocfaa.Mut2

/-
  An argument of bytes, opened; and what a law's walk over draws needs.
-/
set_option linter.unusedVariables false
set_option linter.unusedSimpArgs false
namespace Go.Proofs.Ytlhdoifjhoocfaa.LawC
open Go.ChangeShapes Go.WideShapes Go.ChangeAt Go.RowKit P1 Draw6

theorem bytes_of {W : World} {a : Addr} {l : Nat} {zs : List Int} (hl : l ≤ zs.length) (hc : ∀ i, i < zs.length → W.cell? (a.add i) = some (.int .u8 (zs.getD i 0))) (hz : ∀ n ∈ zs, (Lit.int .u8 n).wf = true) : Bytes W (some a) l := by
  intro h0
  have hsp : a.spot = none := by
    have h := hc 0 (by omega)
    rw [show a.add 0 = a from rfl] at h
    unfold World.cell? at h
    split at h
    · split at h
      · cases h
      · rename_i hs; simpa using hs
    · cases h
  obtain ⟨b, off, sp⟩ := a
  obtain rfl : sp = none := hsp
  refine ⟨b, off, rfl, World.block_lt_of_cell? _ _ (hc 0 (by omega)), fun i hi => ?_⟩
  have hi' : i < zs.length := by omega
  have h2 := hz (zs.getD i 0) (by rw [List.getD_eq_getElem?_getD, List.getElem?_eq_getElem hi']; exact List.getElem_mem hi')
  have h1 : IntKind.u8.min = 0 := rfl
  have h3 : IntKind.u8.max = 255 := rfl
  simp only [Lit.wf, Bool.and_eq_true, decide_eq_true_eq] at h2
  refine ⟨(zs.getD i 0).toNat, by omega, ?_⟩
  have e : ((zs.getD i 0).toNat : Int) = zs.getD i 0 := by omega
  rw [e]
  have ea : ((⟨b, off, none⟩ : Addr).add i) = ⟨b, off + i, none⟩ := by
    unfold Addr.add
    split
    · rename_i h0; subst h0; rfl
    · rfl
  rw [← ea]
  exact hc i hi'

theorem opened {H : Type} {enc : TypeId × Value → H} {W : World} {a : Option Addr} {len cap : Nat} {d : DataW H} {p : List MemPlace} (h0 : DataW.Trod enc Try.prog W 0 (fun _ => true) true 22 (.slice a len cap) d p) :
    Bytes W a len ∧ len ≤ cap ∧ cap ≤ maxLen := by
  have hc : Try.prog.cellsOf 5 = 1 := by kernel_rfl
  obtain ⟨fuel, hf⟩ := h0
  rcases open_ints Try.underlying22 Try.underlying5 hc hf with ⟨hcs, hx⟩ | ⟨a, len', cap', zs, hcs, _, hl, hm, hz, hx, hcell, hwz⟩
  · simp [Value.cells] at hcs
    obtain ⟨rfl, rfl, rfl⟩ := hcs
    exact ⟨fun h => by omega, by omega, by unfold maxLen; omega⟩
  · simp [Value.cells] at hcs
    obtain ⟨rfl, rfl, rfl⟩ := hcs
    simp only [if_true] at hz
    exact ⟨bytes_of (by omega) hcell hwz, hl, hm⟩

theorem bytes_below {w W : World} {a : Option Addr} {len : Nat} (h : Bytes w a len) (k : Below w.heap.size w W) : Bytes W a len := fun h0 => by
  obtain ⟨b, off, ha, hb, hc⟩ := h h0
  refine ⟨b, off, ha, Nat.lt_of_lt_of_le hb k.size, fun i hi => ?_⟩
  obtain ⟨v, hv, hcell⟩ := hc i hi
  exact ⟨v, hv, (k.cell (p := ⟨b, off + i, none⟩) hb).trans hcell⟩
end Go.Proofs.Ytlhdoifjhoocfaa.LawC

/-
  What the model's draws of documents, perhaps changed in a place or two, come to: some document of a bounded size in memory of its own.
-/
set_option linter.unusedVariables false
set_option linter.unusedSimpArgs false
namespace Go.Proofs.Ytlhdoifjhoocfaa.DrI
open Go.RowKit P1 Draw Draw2 Draw6 Copy DrA DrD Mut Mut2

/-- some document -/
def DocDraw (w : World) (e : Ending) (w' : World) : Prop := ∃ (o n : Int) (t : ByteArray) (k : F) (a : Option Addr) (cap : Nat) (fs : List Nat), e = .returned (.agg #[.int .i64 o, .int .i64 n, .string t, .slice a k.len cap]) ∧ k.len ≤ cap ∧ t.size + k.size ≤ 1040 ∧ SubAt w' a k fs ∧ Fresh w.heap.size w' fs ∧ Below w.heap.size w w'
/-- some document, and a number -/
def OpsDraw (w : World) (e : Ending) (w' : World) : Prop := ∃ (o n : Int) (t : ByteArray) (k : F) (a : Option Addr) (cap : Nat) (fs : List Nat) (op : Int), e = .returned (.tuple #[.agg #[.int .i64 o, .int .i64 n, .string t, .slice a k.len cap], .int .i64 op]) ∧ k.len ≤ cap ∧ t.size + k.size ≤ 1040 ∧ SubAt w' a k fs ∧ Fresh w.heap.size w' fs ∧ Below w.heap.size w w'

theorem opened' {w w1 : World} {ob : Obj} (h : Below (w.alloc ob).heap.size (w.alloc ob) w1) : Below w.heap.size w w1 := ((Below.refl _ _).alloc (Nat.le_refl _) _).trans (h.mono (by simp))

theorem four_new {w w1 : World} {T : TypeId} {u0 u1 u2 u3 : Value} (h : Below (w.alloc (.cells #[u0, u1, u2, u3] T)).heap.size (w.alloc (.cells #[u0, u1, u2, u3] T)) w1) : w1.there w.heap.size 0 4 := by
  have := there_new w #[u0, u1, u2, u3] T 4 (by simp)
  exact there_below this (by simp) h

theorem there_but {w w' : World} {b B x : Nat} (h : w.there b 0 4) (k : But B x w w') (hb : b < B) (hx : b ≠ x) : w'.there b 0 4 := fun j hj => ⟨by rw [k.cell hb hx]; exact (h j hj).1, by rw [k.frozen hb hx]; exact (h j hj).2⟩

end Go.Proofs.Ytlhdoifjhoocfaa.DrI

/-
  What the model's DrawFlatText comes to: some document of a bounded size in memory of its own.
-/
set_option linter.unusedVariables false
set_option linter.unusedSimpArgs false
namespace Go.Proofs.Ytlhdoifjhoocfaa.DrK
open Go.RowKit P1 Draw Draw2 Draw6 Copy DrA DrD Mut Mut2 DrI

theorem box_new (w : World) (T : TypeId) (u0 u1 u2 u3 : Value) : (w.alloc (.cells #[u0, u1, u2, u3] T)).cell? ⟨w.heap.size, 0, none⟩ = some u0 ∧ (w.alloc (.cells #[u0, u1, u2, u3] T)).cell? ⟨w.heap.size, 1, none⟩ = some u1 ∧ (w.alloc (.cells #[u0, u1, u2, u3] T)).cell? ⟨w.heap.size, 2, none⟩ = some u2 ∧ (w.alloc (.cells #[u0, u1, u2, u3] T)).cell? ⟨w.heap.size, 3, none⟩ = some u3 := by
  refine ⟨?_, ?_, ?_, ?_⟩ <;> (rw [World.cell?_alloc_new]; rfl)

end Go.Proofs.Ytlhdoifjhoocfaa.DrK

/-
  What the model's DrawOpenLayout comes to.
-/
set_option linter.unusedVariables false
set_option linter.unusedSimpArgs false
namespace Go.Proofs.Ytlhdoifjhoocfaa.DrL
open Go.RowKit P1 Draw Draw2 Draw6 Copy DrA DrD Mut Mut2 DrI
end Go.Proofs.Ytlhdoifjhoocfaa.DrL

