import Derived.Test.YtafhefmjnjibdaaRfL
/-
  A range over a function whose rounds put what is handed over into new variables; nothing here speaks of the program.
-/
set_option linter.unusedVariables false
set_option linter.unusedSimpArgs false
namespace Go.Proofs.Ytafhefmjnjibdaa.Rf
open Go.RowKit Go.Shelf

section
variable {P : Program}
/-- The statement 'for .. := range g' that puts what is handed over into new variables: the caller's invariant I k W (k rounds are over), Ix c W (a round has left by the jump c). -/
theorem rangeFunc_gives2 {g : Operand} {ps : Array Tmp} {assign body : Code} {Q : Exit → Act → World → Prop} {a : Act} {w : World} {n : Nat}
    {gf : Nat} {lb : Array Value} (hg : a.eval g = .func (.func gf) #[] lb) (eg : Enters P gf) (hn : 3 ≤ n)
    {X : Nat → Array Value → World → World → Prop} {Pc : Nat → Prop} {N : Nat} (hseq : Gives P gf lb X Pc N w) (hPc : ∀ c, Pc c → c < w.heap.size) (hps : ∀ k args A W, X k args A W → args.size = ps.size)
    (I : Nat → World → Prop) (Ix : Code → World → Prop) (hI : ∀ k A B, I k A → w.heap.size ≤ A.heap.size → Turn w.heap.size A B → I k B) (hIe : ∀ A B, I 0 A → Ext A B → I 0 B) (hIx : ∀ c A B, Ix c A → w.heap.size ≤ A.heap.size → Turn w.heap.size A B → Ix c B) (h0 : I 0 w) (a₁ : Array Value → World → Act) (nw : Array Value → World → World) (hnw : ∀ args W, Ext W (nw args W))
    (hassign : ∀ (l k : Nat) (args : Array Value) (A W : World) (K : Act → World → Prop), X k args A W → K (a₁ args W) (nw args W) →
      assign.wpIn (Fence.wide.inRound l) (n - 1 - 1) P (Exit.then K (fun _ _ _ => False)) { tmps := (ps.zip args).foldl (fun t (p, v) => t.setIfInBounds p v) a.tmps, defers := [] } W)
    (hbody : ∀ (l k : Nat) (args : Array Value) (A W0 W : World), k < N → w.heap.size + 2 ≤ A.heap.size → I k A → Ext A W0 → X k args A W0 → Turn w.heap.size (nw args W0) W → body.wpIn (Fence.wide.inRound l) (n - 1 - 1) P (post Pc I Ix k W) (a₁ args W0) W)
    (hdone : ∀ (D : Nat) (A W : World), w.heap.size ≤ D → I N A → (∃ B, Ext A B ∧ Turn w.heap.size B W) → W.heap[D]? = some (.deferred (some [])) → Q .normal { a with defers := { target := .collected D, args := #[] } :: a.defers } W)
    (hstop : ∀ (D : Nat) (c : Code) (A W : World), w.heap.size ≤ D → Ix c A → (∃ B, Ext A B ∧ Turn w.heap.size B W) → W.heap[D]? = some (.deferred (some [])) → c.wpIn Fence.wide n P Q { a with defers := { target := .collected D, args := #[] } :: a.defers } W) :
    (Code.rangeFunc g ps assign body).wpIn Fence.wide n P Q a w := by
  refine wpIn_rangeFunc fun fn hfn => ?_
  obtain ⟨rec, hrec⟩ : ∃ rec : LoopState → Option Code → Loop, rec = fun st pe => { state := st, pending := pe, fn, tmps := a.tmps, params := ps, assign, body, defers := w.heap.size } := ⟨_, rfl⟩
  obtain ⟨W1, hW1⟩ : ∃ W1, (w.alloc (.deferred (some []))).alloc (.loop (rec .ready none)) = W1 := ⟨_, rfl⟩
  have e1 : Ext w W1 := by rw [← hW1]; exact ((Ext.refl w).alloc _).alloc _
  have s1 : W1.heap.size = w.heap.size + 2 := by rw [← hW1]; simp
  have hL1 : W1.heap[w.heap.size + 1]? = some (.loop (rec .ready none)) := by
    rw [← hW1]; have := World.alloc_heap_new (w.alloc (.deferred (some []))) (.loop (rec .ready none)); rwa [World.size_alloc] at this
  have hD1 : W1.heap[w.heap.size]? = some (.deferred (some [])) := by
    rw [← hW1]; exact (Below.heap_alloc _ _ _ (by simp)).trans (World.alloc_heap_new w _)
  refine ⟨w.heap.size + 1, [{ target := .collected w.heap.size, args := #[] }], W1, { target := .fn (.func gf) lb, args := #[.func (.yield (w.heap.size + 1)) #[] #[]] }, W1, gf,
    #[.func (.yield (w.heap.size + 1)) #[] #[]] ++ lb, W1, ?_, ?_, fun _ _ => trivial, ?_, fun _ => by omega, ?_⟩
  · rw [← hW1, hrec]; exact run_enterLoop_outer _ _ _ _ _
  · simp only [resolve, hg]; simp [go_sem]
  · simp [invoke, go_sem]; exact eg _ _
  have hJ := hseq (n - 1) (w.heap.size + 1)
    (fun k W => I k W ∧ w.heap.size + 2 ≤ W.heap.size ∧ W.heap[w.heap.size + 1]? = some (.loop (rec .ready none)) ∧ W.heap[w.heap.size]? = some (.deferred (some [])))
    (fun W => ∃ c, Ix c W ∧ w.heap.size + 2 ≤ W.heap.size ∧ W.heap[w.heap.size + 1]? = some (.loop (rec .done (some c))) ∧ W.heap[w.heap.size]? = some (.deferred (some [])))
    W1 (by omega) e1 ?_ ⟨hIe _ _ h0 e1, by omega, hL1, hD1⟩
  · refine hJ.mono ?_
    rintro e W2 ⟨⟨v, rfl⟩, ⟨A, ⟨hi, hz, hl, hd⟩, hx⟩ | ⟨A, ⟨c, hi, hz, hl, hd⟩, hx⟩⟩
    · have hl2 := (hx.block _ (by omega)).trans hl
      have hd2 := (hx.block _ (by omega)).trans hd
      refine ⟨none, _, by have := run_endLoop (P := P) hl2 (by rw [hrec]; simp); rw [hrec] at this; exact this, hdone _ A _ (Nat.le_refl _) hi ⟨W2, hx, turn_put _ hl2 rfl (by omega)⟩ ((World.putObj_heap_other (by omega)).trans hd2)⟩
    · have hl2 := (hx.block _ (by omega)).trans hl
      have hd2 := (hx.block _ (by omega)).trans hd
      refine ⟨some c, _, by have := run_endLoop (P := P) hl2 (by rw [hrec]; simp); rw [hrec] at this; exact this, hstop _ c A _ (Nat.le_refl _) hi ⟨W2, hx, turn_put _ hl2 rfl (by omega)⟩ ((World.putObj_heap_other (by omega)).trans hd2)⟩
  · rintro k args A W hk ⟨hi, hz, hl, hd⟩ hx hX
    have hl2 := (hx.block _ (by omega)).trans hl
    have hd2 := (hx.block _ (by omega)).trans hd
    have hy := run_yield (P := P) (args := args) hl2 (by rw [hrec]; exact hps _ _ _ _ hX)
    rw [hrec] at hy
    have hzW := hx.size
    have hE := hnw args W
    have hl2' := (hE.block _ (by omega)).trans hl2
    have hd2' := (hE.block _ (by omega)).trans hd2
    have hzE := hE.size
    refine ⟨fn, _, assign, body, hy, roundIn_of_wpIn trivial (hassign _ k args A W _ hX ⟨_, run_beginRound hl2' (by rw [hrec]), ?_⟩)⟩
    obtain ⟨W2, hW2⟩ : ∃ W2, (nw args W).putObj (w.heap.size + 1) (.loop { rec .ready none with state := .busy }) = W2 := ⟨_, rfl⟩
    have t2 : Turn w.heap.size (nw args W) W2 := by rw [← hW2]; exact turn_put _ hl2' rfl (by omega)
    have l2 : W2.heap[w.heap.size + 1]? = some (.loop { rec .ready none with state := .busy }) := by rw [← hW2]; exact World.putObj_heap_same (by omega)
    have d2 : W2.heap[w.heap.size]? = some (.deferred (some [])) := by rw [← hW2]; exact (World.putObj_heap_other (by omega)).trans hd2'
    have z2 := t2.size
    rw [hW2]
    refine wpIn_mono (hbody _ k args A W W2 hk hz hi hx hX t2) ?_
    have fin : ∀ (jump : Option Code) (W3 : World), KeepsOthers W2 W3 → ∃ W4, (Instr.endRound (w.heap.size + 1) jump).run P W3 = .ok (.bool jump.isNone) W4 ∧ Turn w.heap.size W3 W4 ∧ W4.heap[w.heap.size + 1]? = some (.loop (rec (if jump.isNone then .ready else .done) jump)) ∧ W4.heap[w.heap.size]? = some (.deferred (some [])) ∧ w.heap.size + 2 ≤ W4.heap.size := fun jump W3 hk3 => by
      have l3 := hk3.same _ _ l2 rfl
      have d3 := hk3.same _ _ d2 rfl
      have z3 := hk3.size
      have := run_endRound (P := P) jump l3
      rw [hrec] at this ⊢
      rw [hrec] at l3
      exact ⟨_, this, turn_put _ l3 rfl (by omega), World.putObj_heap_same (by omega), (World.putObj_heap_other (by omega)).trans d3, by rw [World.putObj_size]; omega⟩
    rintro e a3 W3 hp
    cases e with
    | normal =>
      obtain ⟨k3, p3, i3⟩ := hp
      obtain ⟨W4, hr, t4, l4, d4, z4⟩ := fin none W3 k3
      exact ⟨_, _, hr, .inl ⟨rfl, ⟨hI _ _ _ i3 (by have := k3.size; omega) t4, z4, l4, d4⟩, (Keep.of_ext hE).trans ((Keep.turn t2 hPc).trans (p3.trans (Keep.turn t4 hPc)))⟩⟩
    | ret =>
      obtain ⟨k3, i3⟩ := hp
      obtain ⟨W4, hr, t4, l4, d4, z4⟩ := fin (some .ret) W3 k3
      exact ⟨_, _, hr, .inr ⟨rfl, _, hIx _ _ _ i3 (by have := k3.size; omega) t4, z4, l4, d4⟩⟩
    | exit id =>
      obtain ⟨k3, i3⟩ := hp
      obtain ⟨W4, hr, t4, l4, d4, z4⟩ := fin (some (.exit id)) W3 k3
      exact ⟨_, _, hr, .inr ⟨rfl, _, hIx _ _ _ i3 (by have := k3.size; omega) t4, z4, l4, d4⟩⟩
    | goto t =>
      obtain ⟨k3, i3⟩ := hp
      obtain ⟨W4, hr, t4, l4, d4, z4⟩ := fin (some (.goto t)) W3 k3
      exact ⟨_, _, hr, .inr ⟨rfl, _, hIx _ _ _ i3 (by have := k3.size; omega) t4, z4, l4, d4⟩⟩
    | panic ch => exact hp.elim
    | outgrown => exact hp.elim

end

end Go.Proofs.Ytafhefmjnjibdaa.Rf

