/-
  A slice of documents that a call grows by itself: an append, with where the new row lies; nothing here speaks of the program.
-/
import Derived.Test.YtjpgnhpfmdjamaaGrow
set_option linter.unusedVariables false
set_option linter.unusedSimpArgs false
namespace Go.Proofs.Ytjpgnhpfmdjamaa
open Go.RowKit

section
variable {P : Program}

/-- One document more behind what has grown so far. -/
theorem Grow.append2 {w : World} {t ty e : TypeId} {i : TypeInfo} {z : Value} (ht : P.underlying t = some (.slice e)) (hi : P.info? e = some i) (hz : i.zero = some z) (h4 : i.size = 4) (h56 : i.bytes = 56) (hzs : z.cells.size = 4)
    {lo m : Nat} {v : Value} {p : F} {fs : List Nat} (G : Grow w e lo v p fs) {d : Nat} {c : Nat} {o n : Int} {tx : ByteArray} {k : F} {a : Option Addr} {cap : Nat} {f1 : List Nat}
    (c0 : w.cell? ⟨d, 0, none⟩ = some (.int .i64 o)) (c1 : w.cell? ⟨d, 1, none⟩ = some (.int .i64 n)) (c2 : w.cell? ⟨d, 2, none⟩ = some (.string tx)) (c3 : w.cell? ⟨d, 3, none⟩ = some (.slice a k.len cap)) (hc : k.len ≤ cap)
    (hs : SubAt w a k f1) (hf : Fresh m w f1) (hlm : lo ≤ m) (hm : ∀ q ∈ fs, q < m) (hmo : ∀ q, v.ownBlock = some q → q < m) (hl : p.len + 1 ≤ 1099511627776) :
    ∃ v' w' fs', (Builtin.append_ #[t, t] ty #[v, .slice (some ⟨d, 0, none⟩) 1 c]).run P w = .ok v' w' ∧ Grow w' e lo v' (p.app (.cons o n tx k .nil)) fs' ∧ Below lo w w' ∧ w.grownBy w' v.ownBlock ∧ (∀ q ∈ fs', some q = v.ownBlock ∨ q ∈ fs ∨ q ∈ f1 ∨ q = w.heap.size) := by
  obtain ⟨⟨xs, h1⟩, h2, h3, h5⟩ := G
  have hnews : ∀ j u, [Value.int .i64 o, .int .i64 n, .string tx, .slice a k.len cap][j]? = some u → w.cell? ((⟨d, 0, none⟩ : Addr).add j) = some u := by
    intro j u hu
    rw [add_at, Nat.zero_add]
    match j, hu with
    | 0, hu => simp at hu; rw [← hu]; exact c0
    | 1, hu => simp at hu; rw [← hu]; exact c1
    | 2, hu => simp at hu; rw [← hu]; exact c2
    | 3, hu => simp at hu; rw [← hu]; exact c3
    | j + 4, hu => simp at hu
  have hone : ∀ u ∈ [Value.int .i64 o, .int .i64 n, .string tx, .slice a k.len cap], u.oneCell' = true := by simp [Value.oneCell']
  obtain ⟨v', w', hr, hown, hgr, _⟩ := run_append_own (P := P) w lo t ty e i z 4 56 ht hi hz h4 h56 hzs (by omega) v p.len xs h1 ⟨d, 0, none⟩ 1 c _ rfl hnews hone (by unfold maxLen; omega) (by omega) h5
  obtain ⟨b, cp, rfl, hb⟩ := append_where (P := P) w t ty e i z ht hi hz h4 h56 lo v p.len xs h1 ⟨d, 0, none⟩ c _ rfl hnews hone hl hr
  have hbel : Below lo w w' := ⟨hgr.os, hgr.tape, hgr.output, hgr.size, fun q hq => hgr.block q (by omega) (fun e => by have := h1.lt q e.symm; omega)⟩
  have hlen : (p.app (.cons o n tx k .nil)).len = p.len + 1 := by rw [F.len_app]; rfl
  have hcell := hown.cells (g := b) rfl
  -- the old row's cells
  have hold : ∀ j, j < 4 * p.len → ∀ b0, v.ownBlock = some b0 → w'.cell? ⟨b, j, none⟩ = w.cell? ⟨b0, j, none⟩ := by
    intro j hj b0 hb0
    have hx : j < xs.length := by rw [h1.1]; omega
    have e1 := hcell j xs[j] (by rw [List.getElem?_append_left hx]; exact List.getElem?_eq_getElem hx)
    have e2 := h1.cells hb0 j xs[j] (List.getElem?_eq_getElem hx)
    rw [add_at, Nat.zero_add] at e1 e2
    rw [e1, e2]
  have hnew : ∀ j u, [Value.int .i64 o, .int .i64 n, .string tx, .slice a k.len cap][j]? = some u → w'.cell? ⟨b, p.len * 4 + j, none⟩ = some u := by
    intro j u hu
    have e1 := hcell (p.len * 4 + j) u (by rw [List.getElem?_append_right (by rw [h1.1]; omega), h1.1, Nat.add_sub_cancel_left]; exact hu)
    rw [add_at, Nat.zero_add] at e1
    exact e1
  have hkeep : ∀ q, q < w.heap.size → v.ownBlock ≠ some q → ∀ o', w'.cell? ⟨q, o', none⟩ = w.cell? ⟨q, o', none⟩ := fun q hq hne o' => World.cell?_of_block (w := w) (hgr.block q hq (fun e => hne e.symm))
  have hkeepz : ∀ q, q < w.heap.size → v.ownBlock ≠ some q → ∀ o', w'.frozen? ⟨q, o', none⟩ = w.frozen? ⟨q, o', none⟩ := fun q hq hne o' => World.frozen?_of_block (w := w) (hgr.block q hq (fun e => hne e.symm))
  have hf1 : ∀ q ∈ f1, q < w.heap.size ∧ v.ownBlock ≠ some q := fun q hq => ⟨hf.lt q hq, fun e => by have := hmo q e; have := (hf.2 q hq).1; omega⟩
  have hs' : SubAt w' a k f1 := hs.congr (fun q hq => hkeep q (hf1 q hq).1 (hf1 q hq).2)
  have hbz : ∀ o', w'.frozen? ⟨b, o', none⟩ = false ∧ b < w'.heap.size := by
    intro o'
    rcases hown.2 with ⟨e, _⟩ | ⟨g, cap', cur, e, _, hg, _⟩
    · cases e
    · injection e with e1; injection e1 with e2; injection e2 with e3
      subst e3
      exact ⟨frozen_of_row w' _ _ _ _ hg, (Array.getElem?_eq_some_iff.1 hg).1⟩
  have hlast : ∀ f', (∀ q ∈ f', q < w.heap.size) → RowAt w' p b 0 f' → RowAt w' (p.app (.cons o n tx k .nil)) b 0 (f' ++ f1) := by
    intro f' _ hrow
    refine RowAt.app_iff.2 ⟨f', f1, hrow, ?_, rfl⟩
    rw [Nat.zero_add, Nat.mul_comm 4]
    exact RowAt.cons_iff.2 ⟨a, cap, f1, [], hnew 0 _ rfl, hnew 1 _ rfl, hnew 2 _ rfl, hnew 3 _ rfl, hc, hs', rfl, by simp⟩
  have hne : p.app (.cons o n tx k .nil) ≠ .nil := by intro e; rw [e] at hlen; simp [F.len] at hlen
  have hblo : lo ≤ b := by
    rcases hb with hb | hb
    · exact (h1.lt b hb.symm).1
    · omega
  have hbm : b < m ∨ b = w.heap.size := by
    rcases hb with hb | hb
    · exact .inl (hmo b hb.symm)
    · exact .inr hb
  have hf' : ∀ q ∈ f1, m ≤ q ∧ q < w'.heap.size ∧ ∀ o', w'.frozen? ⟨q, o', none⟩ = false := fun q hq => ⟨(hf.2 q hq).1, Nat.lt_of_lt_of_le (hf1 q hq).1 hgr.size, fun o' => (hkeepz q (hf1 q hq).1 (hf1 q hq).2 o').trans ((hf.2 q hq).2.2 o')⟩
  have hbf1 : b ∉ f1 := fun hq => by have h1 := (hf.2 b hq).1; have h2 := hf.lt b hq; omega
  rcases h2 with ⟨rfl, rfl⟩ | ⟨b0, cap0, f0, rfl, hp, rfl, hrow⟩
  · refine ⟨_, w', b :: f1, hr, ⟨⟨_, by rw [hlen]; exact hown⟩, .inr ⟨b, cp, f1, by rw [hlen], hne, rfl, hlast [] (by simp) rfl⟩, ⟨List.nodup_cons.2 ⟨hbf1, hf.1⟩, fun q hq => ?_⟩, Nat.le_trans h5 hgr.size⟩, hbel, hgr, fun q hq => (by
      simp only [List.mem_cons, List.mem_append] at hq
      rcases hq with rfl | hq
      · rcases hb with hb | hb
        · exact .inl hb
        · exact .inr (.inr (.inr hb))
      · exact .inr (.inr (.inl hq)))⟩
    rcases List.mem_cons.1 hq with rfl | hq
    · exact ⟨hblo, (hbz 0).2, fun o' => (hbz o').1⟩
    · exact ⟨Nat.le_trans hlm (hf' q hq).1, (hf' q hq).2⟩
  · have hnd := List.nodup_cons.1 h3.1
    have hown0 : ∀ q ∈ f0, q < w.heap.size ∧ (Value.slice (some ⟨b0, 0, none⟩) p.len cap0).ownBlock ≠ some q := fun q hq => ⟨h3.lt q (by simp [hq]), fun e => by
      simp only [Value.ownBlock, Option.some.injEq] at e
      subst e
      exact hnd.1 hq⟩
    have hrow' : RowAt w' p b 0 f0 := hrow.moved (fun o' ho => by rw [Nat.zero_add]; exact hold o' ho b0 rfl) (fun q hq => hkeep q (hown0 q hq).1 (hown0 q hq).2)
    have hb0 : b ∉ f0 := fun hq => by
      rcases hb with hb | hb
      · simp only [Value.ownBlock, Option.some.injEq] at hb
        subst hb
        exact hnd.1 hq
      · have := h3.lt b (by simp [hq]); omega
    refine ⟨_, w', b :: (f0 ++ f1), hr, ⟨⟨_, by rw [hlen]; exact hown⟩, .inr ⟨b, cp, f0 ++ f1, by rw [hlen], hne, rfl, hlast f0 (fun q hq => (hown0 q hq).1) hrow'⟩, ⟨List.nodup_cons.2 ⟨?_, ?_⟩, fun q hq => ?_⟩, Nat.le_trans h5 hgr.size⟩, hbel, hgr, fun q hq => (by
      simp only [List.mem_cons, List.mem_append] at hq ⊢
      rcases hq with rfl | hq | hq
      · rcases hb with hb | hb
        · exact .inl hb
        · exact .inr (.inr (.inr hb))
      · exact .inr (.inl (.inr hq))
      · exact .inr (.inr (.inl hq)))⟩
    · intro hq
      rcases List.mem_append.1 hq with hq | hq
      · exact hb0 hq
      · exact hbf1 hq
    · refine List.nodup_append.2 ⟨hnd.2, hf.1, fun x hx y hy e => ?_⟩
      have h1 := hm x (by simp [hx])
      have h2 := (hf.2 y hy).1
      omega
    · rcases List.mem_cons.1 hq with rfl | hq
      · exact ⟨hblo, (hbz 0).2, fun o' => (hbz o').1⟩
      · rcases List.mem_append.1 hq with hq | hq
        · exact ⟨(h3.2 q (by simp [hq])).1, Nat.lt_of_lt_of_le (hown0 q hq).1 hgr.size, fun o' => (hkeepz q (hown0 q hq).1 (hown0 q hq).2 o').trans ((h3.2 q (by simp [hq])).2.2 o')⟩
        · exact ⟨Nat.le_trans hlm (hf' q hq).1, (hf' q hq).2⟩

/-- The law of an append of one document, at the operation. -/
theorem append_doc2 {ops : Array Oper} {rest : List Oper} {op : Oper} {ac : Act} {Q : Exit → Act → World → Prop} {w : World} (hgd : op.guard = none) (s x : Operand) (t : TypeId)
    (ho : op.op = .call { callee := .builtin .append, args := #[s, x], argTypes := #[t, t] })
    {e : TypeId} {i : TypeInfo} {z : Value} (ht : P.underlying t = some (.slice e)) (hi : P.info? e = some i) (hz : i.zero = some z) (h4 : i.size = 4) (h56 : i.bytes = 56) (hzs : z.cells.size = 4)
    {lo m : Nat} {v : Value} {p : F} {fs : List Nat} (hsv : ac.eval s = v) (G : Grow w e lo v p fs) {d : Nat} {c : Nat} {o n : Int} {tx : ByteArray} {k : F} {a : Option Addr} {cap : Nat} {f1 : List Nat} (hx : ac.eval x = .slice (some ⟨d, 0, none⟩) 1 c)
    (c0 : w.cell? ⟨d, 0, none⟩ = some (.int .i64 o)) (c1 : w.cell? ⟨d, 1, none⟩ = some (.int .i64 n)) (c2 : w.cell? ⟨d, 2, none⟩ = some (.string tx)) (c3 : w.cell? ⟨d, 3, none⟩ = some (.slice a k.len cap)) (hc : k.len ≤ cap)
    (hs : SubAt w a k f1) (hf : Fresh m w f1) (hlm : lo ≤ m) (hm : ∀ q ∈ fs, q < m) (hmo : ∀ q, v.ownBlock = some q → q < m) (hl : p.len + 1 ≤ 1099511627776)
    (h : ∀ v' w' fs', Grow w' e lo v' (p.app (.cons o n tx k .nil)) fs' → Below lo w w' → w.grownBy w' v.ownBlock → (∀ q ∈ fs', some q = v.ownBlock ∨ q ∈ fs ∨ q ∈ f1 ∨ q = w.heap.size) → wpList P ops Q rest (ac.put op.dst v') w') : wpList P ops Q (op :: rest) ac w := by
  refine wpList_plain hgd fun K hK => ?_
  obtain ⟨v', w', fs', hr, h2, h3, h5, h6⟩ := Grow.append2 (P := P) (t := t) (ty := op.type) (c := c) ht hi hz h4 h56 hzs G c0 c1 c2 c3 hc hs hf hlm hm hmo hl
  unfold Oper.wp execOp
  simp only [ho, resolve, invoke, builtin, Sem.run_bind, Sem.run_pure, Result.andThen_ok, List.map_toArray, List.map_cons, List.map_nil, hsv, hx, hr]
  exact hK _ _ (h v' w' fs' h2 h3 h5 h6)
end

end Go.Proofs.Ytjpgnhpfmdjamaa
