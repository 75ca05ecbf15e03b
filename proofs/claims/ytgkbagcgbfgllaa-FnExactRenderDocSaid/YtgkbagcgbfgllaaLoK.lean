import Derived.Test.YtgkbagcgbfgllaaLoF
/-
  What a round of layOut's loop owes: a kid is pushed.
-/
set_option linter.unusedVariables false
set_option linter.unusedSimpArgs false
namespace Go.Proofs.Ytgkbagcgbfgllaa.RnM
open Go.RowKit Go.Shelf P1 Cnt CntC Flat Wid ChP Rn Rf Bwd BufQ

/-! ### a block that holds no cells turns -/
theorem own_turn {lo : Nat} {A C : World} (hT : Turn lo A C) {B n m : Nat} {T : TypeId} {v : Value} {xs : List Value} (h : A.ownsRow B T n v m xs) : C.ownsRow B T n v m xs := by
  obtain ⟨h1, h2⟩ := h
  refine ⟨h1, ?_⟩
  rcases h2 with h2 | ⟨g, cap, cur, rfl, h3, h4, h5⟩
  · exact .inl h2
  · exact .inr ⟨g, cap, cur, rfl, h3, (hT.block h4 rfl).trans h4, h5⟩
theorem ownF_turn {lo : Nat} {A C : World} (hT : Turn lo A C) {B n m : Nat} {T : TypeId} {v : Value} {xs : List Value} (h : A.ownsRowF B T n v m xs) : C.ownsRowF B T n v m xs := by
  obtain ⟨h1, h2⟩ := h
  refine ⟨h1, ?_⟩
  rcases h2 with h2 | ⟨g, cap, cur, fz, rfl, h3, h4, h5⟩
  · exact .inl h2
  · exact .inr ⟨g, cap, cur, fz, rfl, h3, (hT.block h4 rfl).trans h4, h5⟩
theorem At.turn {lo : Nat} {A C : World} (hT : Turn lo A C) {B b : Nat} {F : Fs} {p : Value} {bs : List Value} (h : At B b F p bs A) : At B b F p bs C := by
  obtain ⟨hB, v, hb, hown, hne, hnn⟩ := h
  exact ⟨hB, v, (hT.block hb rfl).trans hb, ownF_turn hT hown, hne, hnn⟩
section
variable {w0 w w' : World} {B b : Nat} {W : Int} {its : List Itm} {s : St} {F : Fs}
theorem RF.turn {lo : Nat} (h : RF w0 B b W its s F w) (hT : Turn lo w w') : RF w0 B b W its s F w' := by
  obtain ⟨xs, x1, x2⟩ := h.rest
  exact ⟨h.hold.elim (fun x => .inl (At.turn hT x)) (fun x => .inr (At.turn hT x)), ⟨xs, own_turn hT x1, x2⟩, own_turn hT h.rows, own_turn hT h.flags, h.ind, h.wid⟩
theorem Vars.turn {lo : Nat} {x : Itm} {a : Option Addr} {cap r0 : Nat} (h : Vars b x a cap r0 w) (hT : Turn lo w w') : Vars b x a cap r0 w' :=
  ⟨(hT.block h.1 rfl).trans h.1, (hT.block h.2.1 rfl).trans h.2.1, (hT.block h.2.2 rfl).trans h.2.2⟩
theorem Vars.ext {x : Itm} {a : Option Addr} {cap r0 : Nat} (h : Vars b x a cap r0 w) (k : Below w.heap.size w w') : Vars b x a cap r0 w' :=
  ⟨(k.block _ (Array.getElem?_eq_some_iff.1 h.1).1).trans h.1, (k.block _ (Array.getElem?_eq_some_iff.1 h.2.1).1).trans h.2.1, (k.block _ (Array.getElem?_eq_some_iff.1 h.2.2).1).trans h.2.2⟩
/-- a row of items grows, which is not the item's variable -/
theorem Vars.grown {x : Itm} {a : Option Addr} {cap r0 : Nat} (h : Vars b x a cap r0 w) {row : Option Nat} (hg : w.grownBy w' row) (hrow : ∀ g, row = some g → ∃ c, w.heap[g]? = some (.cells c 107 (0, 0))) (hne : row ≠ some (r0 + 1)) : Vars b x a cap r0 w' := by
  have q : ∀ (k : Nat) (c : Array Value) (T : TypeId), w.heap[k]? = some (.cells c T (0, 0)) → T ≠ 107 → w'.heap[k]? = some (.cells c T (0, 0)) := fun k c T h1 h2 => (hg.block k (Array.getElem?_eq_some_iff.1 h1).1 (fun e => by
    obtain ⟨c', hc⟩ := hrow k e.symm
    rw [h1] at hc; injection hc with hc; injection hc with _ hc; exact h2 hc)).trans h1
  exact ⟨q _ _ _ h.1 (by decide), (hg.block _ (Array.getElem?_eq_some_iff.1 h.2.1).1 (fun e => hne e.symm)).trans h.2.1, q _ _ _ h.2.2 (by decide)⟩
theorem Vars.set {x : Itm} {a : Option Addr} {cap r0 : Nat} (h : Vars b x a cap r0 w) (hb : b < r0) (o : Nat) (u : Value) : Vars b x a cap r0 (w.setCell ⟨b, o, none⟩ u) :=
  h.kept (ts := []) hb (kept_set [] b o w u) (by simp) (by simp) (by simp)
end

/-- the lists behind the same place are the same -/
theorem F.app_len_inj {g g' : F} : ∀ (p p' : F), p.app g = p'.app g' → p.len = p'.len → g = g'
  | .nil, p', h, hl => by
    have := F.len_eq_zero (f := p') (by simp only [F.len] at hl; exact hl.symm)
    subst this; exact h
  | .cons o n t k r, p', h, hl => by
    cases p' with
    | nil => simp [F.len] at hl
    | cons o' n' t' k' r' =>
      simp only [F.app, F.cons.injEq] at h
      simp only [F.len] at hl
      exact F.app_len_inj r r' h.2.2.2.2 (by omega)
theorem F.app_inj_right {g g' : F} (p p' : F) (h : p.app g = p'.app g') (hl : g.len = g'.len) : g = g' := by
  refine F.app_len_inj p p' h ?_
  have := congrArg F.len h
  rw [F.len_app, F.len_app] at this
  omega

/-- an item is pushed, and the field is not yet stored to -/
theorem RF.append_item {w0 w w3 : World} {B b : Nat} {W : Int} {its : List Itm} {s : St} {fa fr fl fi fg : Value} (h : RF w0 B b W its s ⟨fa, fr, fl, fi, fg⟩ w) {y : Itm} {c xs : List Value} (hx : ∃ ys, xs = ys ++ c ∧ ItemsV (ItV w0 B) its.reverse ys) (hy : ItV w0 B y c) {o : Obj} (hg : (w.alloc o).grownBy w3 fr.ownBlock) {g cap n : Nat} (hn : n = its.length + 1) (hown : w3.ownsRow B 107 5 (.slice (some ⟨g, 0, none⟩) n cap) n xs) :
    w3.cell? ⟨b, 5, none⟩ = some fr ∧ w3.frozen? ⟨b, 5, none⟩ = false ∧ RF w0 B b W (y :: its) s ⟨fa, .slice (some ⟨g, 0, none⟩) n cap, fl, fi, fg⟩ (w3.setCell ⟨b, 5, none⟩ (.slice (some ⟨g, 0, none⟩) n cap)) := by
  have hl := h.below ((Below.refl w.heap.size w).alloc (Nat.le_refl _) o)
  obtain ⟨_, c1, _, _, _, hz, hbl, _⟩ := hl.cells
  obtain ⟨cc, hcb⟩ := hl.block
  obtain ⟨xs1, x1, x2⟩ := hl.rest
  have hne : fr.ownBlock ≠ some b := RnM.own_ne x1 hcb ne4
  have hbk := hg.block b hbl (fun e => hne e.symm)
  have hrow : ∀ k, fr.ownBlock = some k → ∃ c, (w.alloc o).heap[k]? = some (.cells c 107 (0, 0)) := own_block x1
  refine ⟨(World.cell?_of_block (w := w.alloc o) hbk).trans c1, (World.frozen?_of_block (w := w.alloc o) hbk).trans (hz 5), ?_⟩
  obtain ⟨ys, rfl, hys⟩ := hx
  subst hn
  refine hl.set hg (fun k e => by obtain ⟨c', h'⟩ := hrow k e; exact ⟨c', _, h', ne1, ne4⟩) 5 (.slice (some ⟨g, 0, none⟩) (its.length + 1) cap) ⟨fa, .slice (some ⟨g, 0, none⟩) (its.length + 1) cap, fl, fi, fg⟩ (fun p v => rfl) (y :: its) s rfl (StackG.push hys hy hown) (hl.rows.kept hg (own_or (fun k e => ?_))) (hl.flags.kept hg (own_or (fun k e => ?_))) h.ind h.wid
  · obtain ⟨c', h'⟩ := hrow k e
    exact RnM.own_ne hl.rows h' (Ne.symm ne7)
  · obtain ⟨c', h'⟩ := hrow k e
    exact RnM.own_ne hl.flags h' (Ne.symm ne8)
theorem five_news (w : World) (o n i : Int) (t : ByteArray) (v : Value) (T : TypeId) : ∀ j u, [Value.int .i64 o, .int .i64 n, .string t, v, .int .i64 i][j]? = some u → (w.alloc (.cells #[.int .i64 o, .int .i64 n, .string t, v, .int .i64 i] T)).cell? ((⟨w.heap.size, 0, none⟩ : Addr).add j) = some u := by
  intro j u hu
  rw [add_at, Nat.zero_add, World.cell?_alloc_new]
  simpa using hu

end Go.Proofs.Ytgkbagcgbfgllaa.RnM

