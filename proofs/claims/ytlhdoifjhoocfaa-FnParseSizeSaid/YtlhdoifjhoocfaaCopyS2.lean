import Derived.Test.YtlhdoifjhoocfaaDrY
import Derived.Deep.RegionLaw
/-
  What the model's l1Copy comes to: the same document in new memory.
-/
set_option linter.unusedVariables false
set_option linter.unusedSimpArgs false
namespace Go.Proofs.Ytlhdoifjhoocfaa.CopyS
open Go.RowKit P1 Copy

/-- the law of an append of one document, as a step of a region that draws -/
theorem step_append_doc {P : Program} {ops : Array Oper} {op : Oper} {ac : Act} {w : World} {K : Act → World → Prop} {Q : Exit → Act → World → Prop} {E : Prop} (hgd : op.guard = none) (s x : Operand) (t : TypeId)
    (ho : op.op = .call { callee := .builtin .append, args := #[s, x], argTypes := #[t, t] })
    {e : TypeId} {i : TypeInfo} {z : Value} (ht : P.underlying t = some (.slice e)) (hi : P.info? e = some i) (hz : i.zero = some z) (h4 : i.size = 4) (h56 : i.bytes = 56) (hzs : z.cells.size = 4)
    {lo m : Nat} {v : Value} {p : F} {fs : List Nat} (hsv : ac.eval s = v) (G : Grow w e lo v p fs) {d : Nat} {c : Nat} {o n : Int} {tx : ByteArray} {k : F} {a : Option Addr} {cap : Nat} {f1 : List Nat} (hx : ac.eval x = .slice (some ⟨d, 0, none⟩) 1 c)
    (c0 : w.cell? ⟨d, 0, none⟩ = some (.int .i64 o)) (c1 : w.cell? ⟨d, 1, none⟩ = some (.int .i64 n)) (c2 : w.cell? ⟨d, 2, none⟩ = some (.string tx)) (c3 : w.cell? ⟨d, 3, none⟩ = some (.slice a k.len cap)) (hc : k.len ≤ cap)
    (hs : SubAt w a k f1) (hf : Fresh m w f1) (hlm : lo ≤ m) (hm : ∀ q ∈ fs, q < m) (hmo : ∀ q, v.ownBlock = some q → q < m) (hl : p.len + 1 ≤ 1099511627776)
    (h : ∀ v' w' fs', Grow w' e lo v' (p.app (.cons o n tx k .nil)) fs' → Below lo w w' → K (ac.put op.dst v') w') : if Region.wanted op (yielded ops ac.tmps) = true then Oper.wp P op ac w K Q else E := by
  have hw : Region.wanted op (yielded ops ac.tmps) = true := by simp [Region.wanted, hgd]
  rw [if_pos hw]
  obtain ⟨v', w', fs', hr, h2, h3, h5⟩ := Grow.append (P := P) (t := t) (ty := op.type) (c := c) ht hi hz h4 h56 hzs G c0 c1 c2 c3 hc hs hf hlm hm hmo hl
  unfold Oper.wp execOp
  simp only [ho, resolve, invoke, builtin, Sem.run_bind, Sem.run_pure, Result.andThen_ok, List.map_toArray, List.map_cons, List.map_nil, hsv, hx, hr]
  exact h v' w' fs' h2 h3

/-- what holds at the head of a round of l1Copy -/
def CpMid (w : World) (k : F) (j : Nat) (v : Value) (wr : World) : Prop := ∃ (p g : F) (fs : List Nat), k = p.app g ∧ p.len = j ∧ Grow wr 26 (w.heap.size + 3) v p fs ∧ Below w.heap.size w wr

/-- what the boxes hold all along -/
def CpBox (w : World) (o n : Int) (t : ByteArray) (u v : Value) (wr : World) : Prop := wr.cell? ⟨w.heap.size, 3, none⟩ = some u ∧ wr.there (w.heap.size + 1) 0 4 ∧ wr.cell? ⟨w.heap.size + 2, 0, none⟩ = some (.int .i64 o) ∧ wr.cell? ⟨w.heap.size + 2, 1, none⟩ = some (.int .i64 n) ∧ wr.cell? ⟨w.heap.size + 2, 2, none⟩ = some (.string t) ∧
  wr.cell? ⟨w.heap.size + 2, 3, none⟩ = some v ∧ wr.frozen? ⟨w.heap.size + 2, 3, none⟩ = false ∧ w.heap.size + 3 ≤ wr.heap.size

theorem CpBox.below {w : World} {o n : Int} {t : ByteArray} {u v : Value} {wr w' : World} (h : CpBox w o n t u v wr) (k : Below (w.heap.size + 3) wr w') : CpBox w o n t u v w' := by
  obtain ⟨h1, h2, h3, h4, h5, h6, h7, h8⟩ := h
  refine ⟨?_, there_below h2 (by omega) k, ?_, ?_, ?_, ?_, ?_, Nat.le_trans h8 k.size⟩
  · rw [k.cell (p := ⟨_, _, _⟩) (by simp)]; exact h1
  · rw [k.cell (p := ⟨_, _, _⟩) (by simp)]; exact h3
  · rw [k.cell (p := ⟨_, _, _⟩) (by simp)]; exact h4
  · rw [k.cell (p := ⟨_, _, _⟩) (by simp)]; exact h5
  · rw [k.cell (p := ⟨_, _, _⟩) (by simp)]; exact h6
  · rw [k.frozen (p := ⟨_, _, _⟩) (by simp)]; exact h7

theorem CpBox.put {w : World} {o n : Int} {t : ByteArray} {u v v' : Value} {wr : World} (h : CpBox w o n t u v wr) : CpBox w o n t u v' (wr.setCell ⟨w.heap.size + 2, 3, none⟩ v') := by
  obtain ⟨h1, h2, h3, h4, h5, h6, h7, h8⟩ := h
  refine ⟨?_, fun j hj => ⟨?_, ?_⟩, ?_, ?_, ?_, World.cell?_setCell_same _ _ _ h6, ?_, by simpa using h8⟩
  · rw [World.cell?_setCell_other _ _ _ _ (by simp)]; exact h1
  · rw [World.cell?_setCell_other _ _ _ _ (by simp)]; exact (h2 j hj).1
  · rw [World.frozen?_setCell]; exact (h2 j hj).2
  · rw [World.cell?_setCell_other _ _ _ _ (by simp)]; exact h3
  · rw [World.cell?_setCell_other _ _ _ _ (by simp)]; exact h4
  · rw [World.cell?_setCell_other _ _ _ _ (by simp)]; exact h5
  · rw [World.frozen?_setCell]; exact h7

theorem Grow.setOld {w : World} {T : TypeId} {lo : Nat} {v : Value} {p : F} {fs : List Nat} (h : Grow w T lo v p fs) {a : Addr} (ha : a.block < lo) (u : Value) : Grow (w.setCell a u) T lo v p fs := by
  obtain ⟨⟨xs, h1⟩, h2, h3, h4⟩ := h
  have hg : w.grownBy (w.setCell a u) (some a.block) := ⟨rfl, rfl, rfl, by simp [World.setCell], fun k hk hne => Below.heap_setCell _ _ _ _ (fun e => hne (by rw [e]))⟩
  have hc : ∀ c ∈ fs, ∀ o, (w.setCell a u).cell? ⟨c, o, none⟩ = w.cell? ⟨c, o, none⟩ := fun c hc o => World.cell?_setCell_other _ _ _ _ (fun e => by have := (h3.2 c hc).1; subst e; simp at ha; omega)
  refine ⟨⟨xs, h1.kept hg ?_⟩, ?_, h3.alike (by simp) (fun c _ o => World.frozen?_setCell _ _ _ _), by simpa using h4⟩
  · right
    intro e
    have := (h1.lt a.block e).1
    omega
  · rcases h2 with h2 | ⟨b, cap, f', e, hp, rfl, hr⟩
    · exact .inl h2
    · exact .inr ⟨b, cap, f', e, hp, rfl, hr.congr (hc b (by simp)) (fun c hm => hc c (by simp [hm]))⟩

/-- from the call to the append -/
theorem mid3 {wr w1 : World} {ob : Obj} {T : TypeId} {lo : Nat} {v : Value} {p : F} {fs : List Nat} (hG : Grow wr T lo v p fs) (hb : Below wr.drew.heap.size wr.drew w1) :
    Grow (w1.alloc ob) T lo v p fs ∧ lo ≤ wr.drew.heap.size ∧ (∀ q ∈ fs, q < wr.drew.heap.size) ∧ (∀ q, v.ownBlock = some q → q < wr.drew.heap.size) :=
  ⟨(hG.drew.below (Nat.le_refl _) hb).alloc ob, hG.2.2.2, fun q hq => hG.fresh.lt q hq, fun q hq => (hG.own_lt q hq).2⟩

theorem mid_box {w wr w1 w2 : World} {ob : Obj} {o n : Int} {t : ByteArray} {u v : Value} (h : CpBox w o n t u v wr) (hb : Below wr.drew.heap.size wr.drew w1) (hb' : Below (w.heap.size + 3) (w1.alloc ob) w2) : Below (w.heap.size + 3) wr w2 ∧ CpBox w o n t u v w2 := by
  have h8 : w.heap.size + 3 ≤ wr.heap.size := h.2.2.2.2.2.2.2
  have h1 : Below (w.heap.size + 3) wr w1 := (Below.refl (w.heap.size + 3) wr).drew.trans (hb.mono h8)
  have h2 := (h1.alloc (Nat.le_trans h8 h1.size) ob).trans hb'
  exact ⟨h2, h.below h2⟩

theorem mid_cell {w wr w1 : World} {o n : Int} {t : ByteArray} {u v : Value} (h : CpBox w o n t u v wr) (hb : Below wr.drew.heap.size wr.drew w1) : w1.cell? ⟨w.heap.size + 2, 3, none⟩ = some v ∧ w1.frozen? ⟨w.heap.size + 2, 3, none⟩ = false ∧ w.heap.size + 2 < w1.heap.size := by
  obtain ⟨_, _, _, _, _, h7, h8, h9⟩ := h
  have h1 : Below (w.heap.size + 3) wr w1 := (Below.refl (w.heap.size + 3) wr).drew.trans (hb.mono h9)
  exact ⟨(h1.cell (p := ⟨_, _, _⟩) (by simp)).trans h7, (h1.frozen (p := ⟨_, _, _⟩) (by simp)).trans h8, by have := h1.size; omega⟩

/-- the end of a copy: the row that has grown is handed out -/
theorem end_new3 {w wr w4 : World} {T : TypeId} {o n : Int} {t : ByteArray} {v : Value} {k : F} {fs : List Nat} {a : Option Addr} {cap : Nat} (hG : Grow wr T (w.heap.size + 3) v k fs) (hs : SubAt wr a k fs) (hc : k.len ≤ cap) (hbw : Below w.heap.size w wr)
    (ht : Touch (w.heap.size + 1) (w.heap.size + 2) wr w4) : NewOut w o n t k (.returned (.agg #[.int .i64 o, .int .i64 n, .string t, .slice a k.len cap])) w4 := by
  have hlo : ∀ c ∈ fs, w.heap.size + 2 ≤ c := fun c hc => by have := (hG.fresh.2 c hc).1; omega
  exact ⟨a, cap, fs, rfl, hc, ht.sub hs (fun c hc => Or.inr (hlo c hc)), ht.fresh (hG.fresh.mono (by omega)) (fun c hc => Or.inr (hlo c hc)), ht.below hbw (by omega)⟩

end Go.Proofs.Ytlhdoifjhoocfaa.CopyS

