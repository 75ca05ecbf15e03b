import Derived.Test.YtmkibpimjaofgaaNfZ
import Derived.Test.YtmkibpimjaofgaaNfX
import Derived.Deep.AppendLies
import Derived.BigQuiet
/-
  A row of parts of the call's own, whose last text is changed, or to which a part is appended.
-/
set_option linter.unusedVariables false
set_option linter.unusedSimpArgs false
namespace Go.Proofs.Ytmkibpimjaofgaa.Nf
open Go.RowKit P1 Copy

theorem own_put {w : World} {lo g n cap i : Nat} {T : TypeId} {xs : List Value} (h : w.ownsRow lo T 4 (.slice (some ⟨g, 0, none⟩) n cap) n xs) (u : Value) :
    (w.setCell ⟨g, i, none⟩ u).ownsRow lo T 4 (.slice (some ⟨g, 0, none⟩) n cap) n (xs.set i u) := by
  obtain ⟨h1, h2⟩ := h
  rcases h2 with ⟨h, _⟩ | ⟨g', cap', cur, e, hb, hg, hn, hm, hs, ht⟩
  · cases h
  · injection e with e1 e2 e3
    injection e1 with e1
    injection e1 with e1
    subst e1; subst e3
    refine ⟨by rw [List.length_set]; exact h1, .inr ⟨g, cap, cur.set! i u, rfl, hb, set_at hg i u, hn, hm, by simp [hs], ?_⟩⟩
    rw [← ht, Array.set!_eq_setIfInBounds, Array.toList_setIfInBounds, List.take_set]
theorem Sh.put {w : World} {o n : Int} {t : ByteArray} {k : F} (t2 : ByteArray) : ∀ (p : F) (xs : List Value) (gs : List Nat), Sh w (p.app (.cons o n t k .nil)) xs gs → Sh w (p.app (.cons o n t2 k .nil)) (xs.set (p.len * 4 + 2) (.string t2)) gs := by
  intro p
  induction p with
  | nil =>
    rintro xs gs ⟨a, cap, f1, f2, ys, rfl, hc, hs, hr, rfl⟩
    exact ⟨a, cap, f1, f2, ys, rfl, hc, hs, hr, rfl⟩
  | cons o' n' t' k' q _ ih =>
    rintro xs gs ⟨a, cap, f1, f2, ys, rfl, hc, hs, hr, rfl⟩
    refine ⟨a, cap, f1, f2, ys.set (q.len * 4 + 2) (.string t2), ?_, hc, hs, ih ys f2 hr, rfl⟩
    rw [show (F.cons o' n' t' k' q).len * 4 + 2 = q.len * 4 + 2 + 1 + 1 + 1 + 1 by simp only [F.len]; omega]
    rfl
/-- the last part's text is changed -/
theorem PtAt.put {w0 w : World} {lo g cap N : Nat} {p : F} {o n : Int} {t : ByteArray} {k : F} {gs : List Nat} (h : PtAt w0 lo (.slice (some ⟨g, 0, none⟩) (N + 1) cap) (p.app (.cons o n t k .nil)) gs w) (hN : p.len = N) (t2 : ByteArray) :
    PtAt w0 lo (.slice (some ⟨g, 0, none⟩) (N + 1) cap) (p.app (.cons o n t2 k .nil)) gs (w.setCell ⟨g, N * 4 + 2, none⟩ (.string t2)) := by
  obtain ⟨xs, h1, h2⟩ := h
  have e1 : (p.app (.cons o n t k .nil)).len = N + 1 := by rw [F.len_app, hN]; rfl
  have e2 : (p.app (.cons o n t2 k .nil)).len = N + 1 := by rw [F.len_app, hN]; rfl
  rw [e1] at h1
  subst hN
  exact ⟨_, by rw [e2]; exact own_put h1 _, Sh.put t2 p xs gs h2⟩

/-- The law of an append of one part, at the operation. -/
theorem append_part {P : Program} {ops : Array Oper} {rest : List Oper} {op : Oper} {ac : Act} {Q : Exit → Act → World → Prop} {w : World} (hgd : op.guard = none) (s x : Operand) (t : TypeId)
    (ho : op.op = .call { callee := .builtin .append, args := #[s, x], argTypes := #[t, t] }) {i : TypeInfo} {z : Value} (ht : P.underlying t = some (.slice 29)) (hi : P.info? 29 = some i) (hz : i.zero = some z) (h4 : i.size = 4) (h56 : i.bytes = 56) (hzs : z.cells.size = 4)
    {w0 : World} {lo N : Nat} {v : Value} {f : F} {gs : List Nat} (hsv : ac.eval s = v) (A : PtAt w0 lo v f gs w) (hN : f.len = N) {d c : Nat} {o n : Int} {tx : ByteArray} {k : F} {a : Option Addr} {cap : Nat} {f1 : List Nat} (hx : ac.eval x = .slice (some ⟨d, 0, none⟩) 1 c)
    (c0 : w.cell? ⟨d, 0, none⟩ = some (.int .i64 o)) (c1 : w.cell? ⟨d, 1, none⟩ = some (.int .i64 n)) (c2 : w.cell? ⟨d, 2, none⟩ = some (.string tx)) (c3 : w.cell? ⟨d, 3, none⟩ = some (.slice a k.len cap)) (hc : k.len ≤ cap) (hs : SubAt w0 a k f1) (hl : N ≤ 100000) (hlo : lo ≤ w.heap.size)
    (h : ∀ g' cap' w', PtAt w0 lo (.slice (some ⟨g', 0, none⟩) (N + 1) cap') (f.app (.cons o n tx k .nil)) (gs ++ f1) w' → Below lo w w' → w.grownBy w' v.ownBlock → lo ≤ g' → g' < w'.heap.size → wpList P ops Q rest (ac.put op.dst (.slice (some ⟨g', 0, none⟩) (N + 1) cap')) w') : wpList P ops Q (op :: rest) ac w := by
  obtain ⟨xs, hown, hsh⟩ := A
  subst hN
  have hnews : ∀ j u, [Value.int .i64 o, .int .i64 n, .string tx, .slice a k.len cap][j]? = some u → w.cell? ((⟨d, 0, none⟩ : Addr).add j) = some u := by
    intro j u hu
    rw [add_at, Nat.zero_add]
    match j, hu with
    | 0, hu => simp at hu; rw [← hu]; exact c0
    | 1, hu => simp at hu; rw [← hu]; exact c1
    | 2, hu => simp at hu; rw [← hu]; exact c2
    | 3, hu => simp at hu; rw [← hu]; exact c3
    | j + 4, hu => simp at hu
  refine wpList_append_lies w hgd s x t ho lo 29 i z 4 56 ht hi hz h4 h56 hzs (by omega) v f.len xs hsv hown ⟨d, 0, none⟩ 1 c _ hx rfl hnews (by simp [Value.oneCell']) (by omega) (by unfold maxLen; omega) (by omega) hlo w.heap.size rfl ?_
  intro g' cap' w' h1 h2 h3 h4'
  have hbel : Below lo w w' := ⟨h2.os, h2.tape, h2.output, h2.size, fun q hq => h2.block q (by omega) (fun e => by have := hown.lt q e.symm; omega)⟩
  have hle : (f.app (.cons o n tx k .nil)).len = f.len + 1 := by rw [F.len_app]; rfl
  have hone : Sh w0 (.cons o n tx k .nil) [Value.int .i64 o, .int .i64 n, .string tx, .slice a k.len cap] f1 := ⟨a, cap, f1, [], [], rfl, hc, hs, ⟨rfl, rfl⟩, by simp⟩
  refine h g' cap' w' ⟨_, by rw [hle]; exact h1, hone.app hsh⟩ hbel h2 ?_ h4'
  rcases h3 with h3 | h3
  · exact (hown.lt g' h3).1
  · omega

theorem row_of_sh {w : World} {g : Nat} : ∀ (f : F) (xs : List Value) (gs : List Nat) (off : Nat), Sh w f xs gs → (∀ j u, xs[j]? = some u → w.cell? ⟨g, off + j, none⟩ = some u) → RowAt w f g off gs := by
  intro f
  induction f with
  | nil => rintro xs gs off ⟨rfl, rfl⟩ _; exact rfl
  | cons o n t k r _ ih =>
    rintro xs gs off ⟨a, cap, f1, f2, ys, rfl, hc, hs, hr, rfl⟩ hcell
    exact RowAt.cons_iff.2 ⟨a, cap, f1, f2, hcell 0 _ rfl, hcell 1 _ rfl, hcell 2 _ rfl, hcell 3 _ rfl, hc, hs, ih ys f2 (off + 4) hr (fun j u hu => by rw [show off + 4 + j = off + (j + 4) by omega]; exact hcell (j + 4) u (by simpa using hu)), rfl⟩
theorem Sh.below {w w' : World} {B : Nat} (kb : Below B w w') : ∀ (f : F) (xs : List Value) (gs : List Nat), Sh w f xs gs → (∀ c ∈ gs, c < B) → Sh w' f xs gs := by
  intro f
  induction f with
  | nil => rintro xs gs h _; exact h
  | cons o n t k r _ ih =>
    rintro xs gs ⟨a, cap, f1, f2, ys, rfl, hc, hs, hr, rfl⟩ hB
    exact ⟨a, cap, f1, f2, ys, rfl, hc, hs.below (fun c hc => hB c (by simp [hc])) kb, ih ys f2 hr (fun c hc => hB c (by simp [hc])), rfl⟩
/-- a row of the call's own, whose parts' Kids lie below, as a row in memory -/
theorem PtAt.sub {w0 w : World} {lo g cap : Nat} {f : F} {gs : List Nat} (h : PtAt w0 lo (.slice (some ⟨g, 0, none⟩) f.len cap) f gs w) (kb : Below lo w0 w) (hgs : ∀ c ∈ gs, c < lo) (hn : f ≠ .nil) :
    SubAt w (some ⟨g, 0, none⟩) f (g :: gs) ∧ (∀ o, w.frozen? ⟨g, o, none⟩ = false) ∧ g < w.heap.size ∧ lo ≤ g ∧ f.len ≤ cap := by
  obtain ⟨xs, h1, h2⟩ := h
  have hlt := h1.lt g rfl
  have hfz : (∀ o, w.frozen? ⟨g, o, none⟩ = false) ∧ f.len ≤ cap := by
    rcases h1.2 with ⟨h, _⟩ | ⟨g', cap', cur, e, hb, hg, hn, hm, hs, ht⟩
    · cases h
    · injection e with e1 e2 e3
      injection e1 with e1
      injection e1 with e1
      subst e1; subst e3
      exact ⟨fun o => frozen_of_row w _ _ _ _ hg, hn⟩
  refine ⟨.inr ⟨g, 0, gs, rfl, hn, rfl, row_of_sh f xs gs 0 (Sh.below kb f xs gs h2 hgs) (fun j u hu => ?_)⟩, hfz.1, hlt.2, hlt.1, hfz.2⟩
  have := h1.cells (g := g) rfl j u hu
  rw [add_at] at this
  exact this

end Go.Proofs.Ytmkibpimjaofgaa.Nf

/-
  What impl.fuseParts comes to: a row of the call's own, its texts joined.
-/
set_option linter.unusedVariables false
set_option linter.unusedSimpArgs false
namespace Go.Proofs.Ytmkibpimjaofgaa.Nf
open Go.RowKit P1 Copy

theorem PtAt.fz {w0 w : World} {lo g n cap : Nat} {f : F} {gs : List Nat} (h : PtAt w0 lo (.slice (some ⟨g, 0, none⟩) n cap) f gs w) (o : Nat) : w.frozen? ⟨g, o, none⟩ = false := by
  obtain ⟨xs, h1, _⟩ := h
  rcases h1.2 with ⟨h, _⟩ | ⟨g', cap', cur, e, hb, hg, hn, hm, hs, ht⟩
  · cases h
  · injection e with e1 e2 e3
    injection e1 with e1
    injection e1 with e1
    subst e1
    exact frozen_of_row w _ _ _ _ hg
theorem ext_dn (w : World) : ∀ n, Ext w (w.drewN n)
  | 0 => Ext.refl w
  | n + 1 => (ext_dn w n).drew
theorem vbox {wr V : World} {x0 x1 x2 x3 : Value} {T : TypeId} {n : Nat} (h : (wr.alloc (.cells #[x0, x1, x2, x3] T)).drewN n = V) : Ext wr V ∧ wr.heap.size < V.heap.size ∧ V.cell? ⟨wr.heap.size, 0, none⟩ = some x0 ∧ V.cell? ⟨wr.heap.size, 1, none⟩ = some x1 ∧ V.cell? ⟨wr.heap.size, 2, none⟩ = some x2 ∧ V.cell? ⟨wr.heap.size, 3, none⟩ = some x3 := by
  have e := ext_dn (wr.alloc (.cells #[x0, x1, x2, x3] T)) n
  rw [h] at e
  have hl : wr.heap.size < (wr.alloc (.cells #[x0, x1, x2, x3] T)).heap.size := by simp
  exact ⟨Ext.trans ((Ext.refl wr).alloc _) e, Nat.lt_of_lt_of_le hl e.size, (e.cell hl).trans (cell_new wr _ _ 0 _ rfl), (e.cell hl).trans (cell_new wr _ _ 1 _ rfl), (e.cell hl).trans (cell_new wr _ _ 2 _ rfl), (e.cell hl).trans (cell_new wr _ _ 3 _ rfl)⟩
structure Halt (p : Prop) : Prop where out : p
/-- what stands at the head of a round: the parts that are left, and the row that has grown -/
def FuMid (w : World) (P rest : F) (b off : Nat) (fs : List Nat) (j : Nat) (v : Value) (wr : World) : Prop := ∃ (q : F) (o n : Int) (t : ByteArray) (k p g : F) (G cap : Nat) (gs f2 : List Nat),
  rest = p.app g ∧ p.len = j ∧ fzR P = q.app (fz (o, n, t, k) g) ∧ v = .slice (some ⟨G, 0, none⟩) (q.len + 1) cap ∧ w.heap.size ≤ G ∧ G < wr.heap.size ∧ PtAt w w.heap.size v (q.app (.cons o n t k .nil)) gs wr ∧ RowAt w g b (off + j * 4) f2 ∧ (gs ++ f2).Sublist fs ∧ q.len ≤ j ∧ niceD (o, n, t, k) = true ∧ nice g = true ∧ Ext w wr

theorem FuMid.start {w : World} {o1 n1 : Int} {t1 : ByteArray} {k1 rest : F} {b off : Nat} {a1 : Option Addr} {c1 : Nat} {f1 fr : List Nat} (hn : nice (.cons o1 n1 t1 k1 rest) = true) (hs : SubAt w a1 k1 f1) (hc : k1.len ≤ c1) (hr : RowAt w rest b off fr) :
    FuMid w (.cons o1 n1 t1 k1 rest) rest b off (f1 ++ fr) 0 (.slice (some ⟨w.heap.size, 0, none⟩) 1 1) (w.alloc (.cells #[.int .i64 o1, .int .i64 n1, .string t1, .slice a1 k1.len c1] 29)) := by
  have hD : niceD (o1, n1, t1, k1) = true := by simp only [nice, Bool.and_eq_true] at hn; exact Bool.and_eq_true_iff.2 hn.1
  have hr' : nice rest = true := by simp only [nice, Bool.and_eq_true] at hn; exact hn.2
  refine ⟨.nil, o1, n1, t1, k1, .nil, rest, w.heap.size, 1, f1, fr, rfl, rfl, rfl, rfl, Nat.le_refl _, by simp, ?_, by rw [Nat.zero_mul]; exact hr, List.Sublist.refl _, Nat.le_refl _, hD, hr', (Ext.refl w).alloc _⟩
  exact ⟨_, World.ownsRow_lit (base := w.heap.size) (e := 29) (size := 4) w #[.int .i64 o1, .int .i64 n1, .string t1, .slice a1 k1.len c1] 1 (Nat.le_refl _) (by simp [maxLen]) rfl, a1, c1, f1, [], [], rfl, hc, hs, ⟨rfl, rfl⟩, by simp⟩
/-- a part's text joined to the last one -/
theorem FuMid.join {w wr w' : World} {P rest : F} {b off : Nat} {fs : List Nat} {j Q : Nat} {q p r : F} {o n o2 n2 : Int} {t t2 : ByteArray} {k k2 : F} {G cap : Nat} {gs f2 : List Nat} (h1 : rest = p.app (.cons o2 n2 t2 k2 r)) (h2 : p.len = j) (h3 : fzR P = q.app (fz (o, n, t, k) (.cons o2 n2 t2 k2 r))) (hG1 : w.heap.size ≤ G) (hG2 : G < wr.heap.size)
    (hA : PtAt w w.heap.size (.slice (some ⟨G, 0, none⟩) (Q + 1) cap) (q.app (.cons o n t k .nil)) gs wr) (hQ : q.len = Q) (hR : RowAt w (.cons o2 n2 t2 k2 r) b (off + j * 4) f2) (hsub : (gs ++ f2).Sublist fs) (hql : q.len ≤ j) (hD : niceD (o, n, t, k) = true) (hn : nice (.cons o2 n2 t2 k2 r) = true) (hE : Ext w wr) (hf : fits (o, n, t, k) o2 t2 = true) (he : Ext (wr.setCell ⟨G, Q * 4 + 2, none⟩ (.string (t ++ t2))) w') :
    FuMid w P rest b off fs (j + 1) (.slice (some ⟨G, 0, none⟩) (Q + 1) cap) w' := by
  have hD2 : niceD (o2, n2, t2, k2) = true := by simp only [nice, Bool.and_eq_true] at hn; exact Bool.and_eq_true_iff.2 hn.1
  have hr' : nice r = true := by simp only [nice, Bool.and_eq_true] at hn; exact hn.2
  obtain ⟨a2, c2, g1, g2, _, _, _, _, _, _, hrr, rfl⟩ := RowAt.cons_iff.1 hR
  subst hQ
  rw [fz_yes hf] at h3
  have hz := he.size
  simp only [World.size_setCell] at hz
  refine ⟨q, o, n, t ++ t2, k, p.app (.cons o2 n2 t2 k2 .nil), r, G, cap, gs, g2, by rw [h1, F.app_assoc]; rfl, by rw [F.len_app, h2]; rfl, h3, rfl, hG1, Nat.lt_of_lt_of_le hG2 hz, (hA.put rfl (t ++ t2)).later he, ?_, (List.Sublist.trans ((List.Sublist.refl gs).append (List.sublist_append_right g1 g2)) hsub), by omega, nice_join hD hD2 hf, hr', ?_⟩
  · rw [show off + (j + 1) * 4 = off + j * 4 + 4 by omega]; exact hrr
  · exact (Below.setCell hE (p := ⟨G, q.len * 4 + 2, none⟩) hG1 _).trans (he.mono (by simp; exact hE.size))
/-- a part behind the last one -/
theorem FuMid.more {w w' : World} {P rest : F} {b off : Nat} {fs : List Nat} {j Q : Nat} {q p r : F} {o n o2 n2 : Int} {t t2 : ByteArray} {k k2 : F} {G cap : Nat} {gs f1 f2 : List Nat} (h1 : rest = p.app (.cons o2 n2 t2 k2 r)) (h2 : p.len = j) (h3 : fzR P = q.app (fz (o, n, t, k) (.cons o2 n2 t2 k2 r))) (hG1 : w.heap.size ≤ G) (hG2 : G < w'.heap.size)
    (hA : PtAt w w.heap.size (.slice (some ⟨G, 0, none⟩) (Q + 1 + 1) cap) ((q.app (.cons o n t k .nil)).app (.cons o2 n2 t2 k2 .nil)) (gs ++ f1) w') (hQ : q.len = Q) (hR : RowAt w r b (off + j * 4 + 4) f2) (hsub : (gs ++ (f1 ++ f2)).Sublist fs) (hql : q.len ≤ j) (hn : nice (.cons o2 n2 t2 k2 r) = true) (hE : Ext w w') (hf : fits (o, n, t, k) o2 t2 = false) :
    FuMid w P rest b off fs (j + 1) (.slice (some ⟨G, 0, none⟩) (Q + 1 + 1) cap) w' := by
  have hD2 : niceD (o2, n2, t2, k2) = true := by simp only [nice, Bool.and_eq_true] at hn; exact Bool.and_eq_true_iff.2 hn.1
  have hr' : nice r = true := by simp only [nice, Bool.and_eq_true] at hn; exact hn.2
  subst hQ
  rw [fz_no hf] at h3
  have hl : (q.app (.cons o n t k .nil)).len = q.len + 1 := by rw [F.len_app]; rfl
  refine ⟨q.app (.cons o n t k .nil), o2, n2, t2, k2, p.app (.cons o2 n2 t2 k2 .nil), r, G, cap, gs ++ f1, f2, by rw [h1, F.app_assoc]; rfl, by rw [F.len_app, h2]; rfl, by rw [h3, F.app_assoc]; rfl, by rw [hl], hG1, hG2, hA, ?_, by rw [List.append_assoc]; exact hsub, by rw [hl]; omega, hD2, hr', hE⟩
  rw [show off + (j + 1) * 4 = off + j * 4 + 4 by omega]; exact hR
/-- the end: nothing is left -/
theorem FuMid.out {w wr : World} {P q : F} {lo G cap : Nat} {o n : Int} {t : ByteArray} {k : F} {gs fs : List Nat} (h3 : fzR P = q.app (fz (o, n, t, k) .nil)) (hA : PtAt w w.heap.size (.slice (some ⟨G, 0, none⟩) (q.len + 1) cap) (q.app (.cons o n t k .nil)) gs wr) (hsub : gs.Sublist fs) (hfr : Fresh lo w fs) (hlo : lo ≤ w.heap.size) (hE : Ext w wr) :
    RowOut lo w (fzR P) (.returned (.slice (some ⟨G, 0, none⟩) (q.len + 1) cap)) wr := by
  have e : fzR P = q.app (.cons o n t k .nil) := h3
  have hl : (q.app (.cons o n t k .nil)).len = q.len + 1 := by rw [F.len_app]; rfl
  rw [e]
  rw [← hl] at hA ⊢
  have hgs : ∀ c ∈ gs, c < w.heap.size := fun c hc => hfr.lt c (hsub.subset hc)
  obtain ⟨s1, s2, s3, s4, s5⟩ := hA.sub hE hgs (by intro e; have := congrArg F.len e; rw [hl] at this; simp [F.len] at this)
  refine ⟨_, cap, G :: gs, rfl, s5, s1, ⟨List.nodup_cons.2 ⟨fun h => by have := hgs G h; omega, hsub.nodup hfr.1⟩, fun c hc => ?_⟩, hE⟩
  rcases List.mem_cons.1 hc with rfl | hc
  · exact ⟨by omega, s3, s2⟩
  · have h1 := hfr.2 c (hsub.subset hc)
    exact ⟨h1.1, Nat.lt_of_lt_of_le h1.2.1 hE.size, fun o => (World.frozen?_of_block (w := w) (hE.block c h1.2.1)).trans (h1.2.2 o)⟩

set_option maxRecDepth 100000 in
set_option maxHeartbeats 3200000 in
theorem fuseParts (w : World) (lo : Nat) (o1 n1 : Int) (t1 : ByteArray) (k1 rest : F) (b off cap : Nat) (fs : List Nat) (hn : nice (.cons o1 n1 t1 k1 rest) = true) (hl : rest.len ≤ 100000) (hr : RowAt w (.cons o1 n1 t1 k1 rest) b off fs) (hb : b < w.heap.size) (hfr : Fresh lo w fs) (hlo : lo ≤ w.heap.size) (hcap : rest.len + 1 ≤ cap) :
    Calls Try.prog 151 #[.slice (some ⟨b, off, none⟩) (rest.len + 1) cap] w (RowOut lo w (fz (o1, n1, t1, k1) rest)) := by
  obtain ⟨i0, hi, hz0, hz1, hz2⟩ := info_parts To.info
  have HI := Lib.hid (And.intro hi (And.intro hz0 (And.intro hz1 hz2)))
  obtain ⟨a1, c1, f1, fr, d0, d1, d2, d3, hc1, hs1, hrr, rfl⟩ := RowAt.cons_iff.1 hr
  obtain ⟨L1, hL1⟩ : ∃ L, k1.len = L := ⟨_, rfl⟩
  obtain ⟨N, hN⟩ : ∃ N, rest.len = N := ⟨_, rfl⟩
  rw [hL1] at d3
  rw [hN] at hcap hl ⊢
  have H0 := Lib.hid (And.intro hn (And.intro hr (And.intro hb (And.intro hfr (And.intro hlo (And.intro hc1 (And.intro hs1 (And.intro hrr (And.intro hL1 hN)))))))))
  have i1 : (1 : Int) ≤ (N : Int) + 1 := by omega
  have i2 : (0 : Int) < (N : Int) + 1 := by omega
  have i3 : (N : Int) + 1 ≤ (cap : Int) := by omega
  have i4 : (1 : Int) ≤ (cap : Int) := by omega
  clear hn hr hfr hc1 hs1 hrr hL1 hN hi hz0 hz1 hz2
  obtain ⟨ou, hou⟩ : ∃ ou : Nat, (0 < N → ou = off + 4) ∧ ((cap = 1) = True ∧ ou = off ∨ (cap = 1) = False ∧ ou = off + 4) := by
    by_cases h : cap = 1
    · exact ⟨off, fun h0 => by omega, .inl ⟨eq_true h, rfl⟩⟩
    · exact ⟨off + 4, fun _ => rfl, .inr ⟨eq_false h, rfl⟩⟩
  have HOU := Lib.hid hou.1
  obtain ⟨c9, hc9⟩ : ∃ c, cap - 1 = c := ⟨_, rfl⟩
  go_enter Try.func151, Try.ntmps151
  rcases hou.2 with ⟨hq, h9⟩ | ⟨hq, h9⟩
  all_goals
    go_wp2_with fail
    rw [← h9]
    clear h9 hou
    go_loopw [3, 14] (fun v i wr => ∃ j : Nat, j ≤ N ∧ i = .int .i64 j ∧ FuMid w (.cons o1 n1 t1 k1 rest) rest b ou (f1 ++ fr) j v wr) (fun _ i _ => N - (intOf i).toNat)
    case atStart =>
      obtain ⟨hn, hr, hb, hfr, hlo, hc1, hs1, hrr, hL1, hN⟩ := H0.out
      refine ⟨0, Nat.zero_le _, rfl, ?_⟩
      rw [← hL1]
      refine FuMid.start hn hs1 hc1 ?_
      by_cases h0 : 0 < N
      · rw [HOU.out h0]; exact hrr
      · have e : rest = .nil := F.len_eq_zero (by omega)
        rw [e] at hrr ⊢
        exact hrr
    case round =>
      obtain ⟨j, hj, rfl, q, o, n, t, k, p, g, G, capG, gs, f2, h1, h2, h3, rfl, hG1, hG2, hA, hR, hsub, hql, hD, hng, hE⟩ := hrel
      obtain ⟨hn, hr, hb, hfr, hlo, hc1, hs1, hrr, hL1, hN⟩ := H0.out
      have h7 : g.len = N - j := by have := hN; rw [h1, F.len_app, h2] at this; omega
      obtain ⟨Q, hQ⟩ : ∃ Q, q.len = Q := ⟨_, rfl⟩
      rw [hQ] at hA hql ⊢
      have hq1 : Q ≤ 100000 := by omega
      cases g with
      | nil =>
        have hjN : N = j := by simp only [F.len] at h7; omega
        have HZ := Lib.hid (And.intro h3 (And.intro hA (And.intro hsub (And.intro hE (And.intro hQ (And.intro hfr hlo))))))
        have hR' : f2 = [] := hR
        have HF2 := Lib.hid hR'
        subst hjN
        clear h3 hA hR hR' hsub hE hn hr hfr hlo hc1 hs1 hrr hL1 hN h1 h2 h7 hD hng hQ
        go_wp2_with fail
        go_ret
        obtain ⟨h3, hA, hsub, hE, hQ, hfr, hlo⟩ := HZ.out
        rw [HF2.out, List.append_nil] at hsub
        rw [← hQ] at hA ⊢
        exact FuMid.out (P := .cons o1 n1 t1 k1 rest) h3 hA hsub hfr hlo hE
      | cons o2 n2 t2 k2 r =>
        have hjN : j < N := by simp only [F.len] at h7; omega
        obtain ⟨a2, c2, g1, g2, e0, e1, e2, e3, hc2, hs2, hrr2, rfl⟩ := RowAt.cons_iff.1 hR
        rw [← hE.cell hb] at e0 e1 e2 e3
        have hA' : PtAt w w.heap.size (.slice (some ⟨G, 0, none⟩) (q.app (.cons o n t k .nil)).len capG) (q.app (.cons o n t k .nil)) gs wr := by
          rw [show (q.app (.cons o n t k .nil)).len = Q + 1 by rw [F.len_app, hQ]; rfl]; exact hA
        obtain ⟨a0, c0, f0, y0, y1, y2, y3, _⟩ := part_at hA'
        rw [hQ] at y0 y1 y2 y3
        have ht1 : t.size ≤ 12 := nice_text (Bool.and_eq_true_iff.1 hD).1
        have hD2 : niceD (o2, n2, t2, k2) = true := by simp only [nice, Bool.and_eq_true] at hng; exact Bool.and_eq_true_iff.2 hng.1
        have ht2 : t2.size ≤ 12 := nice_text (Bool.and_eq_true_iff.1 hD2).1
        obtain ⟨L2, hL2⟩ : ∃ L, k2.len = L := ⟨_, rfl⟩
        rw [hL2] at e3
        have hbw : b < wr.heap.size := Nat.lt_of_lt_of_le hb hE.size
        have HZ := Lib.hid (And.intro h1 (And.intro h2 (And.intro h3 (And.intro hA (And.intro hR (And.intro hsub (And.intro hD (And.intro hng (And.intro hE (And.intro hQ (And.intro hc2 (And.intro hs2 (And.intro hrr2 (And.intro hL2 hql))))))))))))))
        have i5 : (0 : Int) ≤ (j : Int) := Int.natCast_nonneg _
        have i6 : (j : Int) < (N : Int) := by omega
        have i7 : (0 : Int) ≤ (Q : Int) := Int.natCast_nonneg _
        have i8 : (Q : Int) < (Q : Int) + 1 := by omega
        clear h1 h2 h3 hA hA' hR hsub hD hng hD2 hE hQ hc2 hs2 hrr2 hL2 hql hn hr hfr hlo hc1 hs1 hrr hL1 hN h7
        have hway : (o2 ≠ 2) ∨ (o2 = 2 ∧ o ≠ 2) ∨ (o2 = 2 ∧ o = 2 ∧ ¬ (t.size + t2.size ≤ 12)) ∨ (o2 = 2 ∧ o = 2 ∧ t.size + t2.size ≤ 12) := by omega
        have hwr : IntKind.i64.wrap ((t.size : Int) + (t2.size : Int)) = (t.size : Int) + (t2.size : Int) := IntWalk.i64_in _ ⟨by omega, by omega⟩
        rcases hway with hw | ⟨hw, hw2⟩ | ⟨hw, hw2, hw3⟩ | ⟨hw, hw2, hw3⟩
        · have b1 : (o2 == 2) = false := by simpa using hw
          have b2 : (o2 != 2) = true := by simpa using hw
          go_wp2_with fail
          go_quiet (fail)
          obtain ⟨V, hV⟩ : ∃ V, (wr.alloc (.cells #[.int .i64 o2, .int .i64 n2, .string t2, .slice a2 L2 c2] 29)).drewN nq = V := ⟨_, rfl⟩
          obtain ⟨hEV, hlV, z0, z1, z2, z3⟩ := vbox hV
          rw [hV]
          have HV := Lib.hid hEV
          clear hV hEV
          clear e0 e1 e2 e3 y0 y1 y2 y3
          go_wp2_with (at_builtin; refine Halt.out ?_)
          refine ⟨?_⟩
          obtain ⟨_, _, _, hA, _, _, _, _, hE, hQ, hc2, hs2, _, hL2, _⟩ := HZ.out
          subst hL2
          have hAp := hA.later (Ext.trans HV.out ((Ext.refl V).alloc (.cells #[.int .i64 o2, .int .i64 n2, .string t2, .slice a2 k2.len c2] 29)))
          have hln : (q.app (.cons o n t k .nil)).len = Q + 1 := by rw [F.len_app, hQ]; rfl
          have hzz : w.heap.size ≤ (V.alloc (.cells #[.int .i64 o2, .int .i64 n2, .string t2, .slice a2 k2.len c2] 29)).heap.size := by have := hE.size; have := HV.out.size; simp; omega
          refine append_part rfl (.tmp 54) (.tmp 56) 27 rfl Try.underlying27 HI.out.1 HI.out.2.1 HI.out.2.2.1 HI.out.2.2.2 rfl rfl hAp hln rfl (cell_new V _ _ 0 _ rfl) (cell_new V _ _ 1 _ rfl) (cell_new V _ _ 2 _ rfl) (cell_new V _ _ 3 _ rfl) hc2 hs2 (by omega) hzz ?_
          clear hA hE hQ hc2 hs2 hAp hzz hln
          intro G' cap' w' hA' hB' hg' hG1' hG2'
          go_wp2_with fail
          go_roundw
          case rel =>
            obtain ⟨h1, h2, h3, hA, hR, hsub, hD, hng, hE, hQ, hc2, hs2, hrr2, hL2, hql⟩ := HZ.out
            refine ⟨j + 1, by omega, by go_num, FuMid.more h1 h2 h3 hG1' hG2' hA' hQ hrr2 hsub (by omega) hng ?_ (by rw [← Bool.not_eq_true, fits_iff]; rintro ⟨_, h, _⟩; exact hw h)⟩
            exact Below.trans (hE.trans (Ext.trans HV.out ((Ext.refl V).alloc _))) hB'
          case measure => simp [intOf]; omega
        · subst hw
          have b1 : (o == 2) = false := by simpa using hw2
          have b2 : (o != 2) = true := by simpa using hw2
          go_wp2_with fail
          go_quiet (fail)
          obtain ⟨V, hV⟩ : ∃ V, (wr.alloc (.cells #[.int .i64 2, .int .i64 n2, .string t2, .slice a2 L2 c2] 29)).drewN nq = V := ⟨_, rfl⟩
          obtain ⟨hEV, hlV, z0, z1, z2, z3⟩ := vbox hV
          rw [hV]
          have HV := Lib.hid hEV
          clear hV hEV
          clear e0 e1 e2 e3 y0 y1 y2 y3
          go_wp2_with (at_builtin; refine Halt.out ?_)
          refine ⟨?_⟩
          obtain ⟨_, _, _, hA, _, _, _, _, hE, hQ, hc2, hs2, _, hL2, _⟩ := HZ.out
          subst hL2
          have hAp := hA.later (Ext.trans HV.out ((Ext.refl V).alloc (.cells #[.int .i64 2, .int .i64 n2, .string t2, .slice a2 k2.len c2] 29)))
          have hln : (q.app (.cons o n t k .nil)).len = Q + 1 := by rw [F.len_app, hQ]; rfl
          have hzz : w.heap.size ≤ (V.alloc (.cells #[.int .i64 2, .int .i64 n2, .string t2, .slice a2 k2.len c2] 29)).heap.size := by have := hE.size; have := HV.out.size; simp; omega
          refine append_part rfl (.tmp 54) (.tmp 56) 27 rfl Try.underlying27 HI.out.1 HI.out.2.1 HI.out.2.2.1 HI.out.2.2.2 rfl rfl hAp hln rfl (cell_new V _ _ 0 _ rfl) (cell_new V _ _ 1 _ rfl) (cell_new V _ _ 2 _ rfl) (cell_new V _ _ 3 _ rfl) hc2 hs2 (by omega) hzz ?_
          clear hA hE hQ hc2 hs2 hAp hzz hln
          intro G' cap' w' hA' hB' hg' hG1' hG2'
          go_wp2_with fail
          go_roundw
          case rel =>
            obtain ⟨h1, h2, h3, hA, hR, hsub, hD, hng, hE, hQ, hc2, hs2, hrr2, hL2, hql⟩ := HZ.out
            refine ⟨j + 1, by omega, by go_num, FuMid.more h1 h2 h3 hG1' hG2' hA' hQ hrr2 hsub (by omega) hng ?_ (by rw [← Bool.not_eq_true, fits_iff]; rintro ⟨h, _, _⟩; exact hw2 h)⟩
            exact Below.trans (hE.trans (Ext.trans HV.out ((Ext.refl V).alloc _))) hB'
          case measure => simp [intOf]; omega
        · subst hw; subst hw2
          have b1 : decide ((t.size : Int) + (t2.size : Int) ≤ 12) = false := by rw [decide_eq_false_iff_not]; omega
          have b2 : decide (t.size + t2.size ≤ 12) = false := by rw [decide_eq_false_iff_not]; omega
          go_wp2_with fail
          go_quiet (fail)
          obtain ⟨V, hV⟩ : ∃ V, (wr.alloc (.cells #[.int .i64 2, .int .i64 n2, .string t2, .slice a2 L2 c2] 29)).drewN nq = V := ⟨_, rfl⟩
          obtain ⟨hEV, hlV, z0, z1, z2, z3⟩ := vbox hV
          rw [hV]
          have HV := Lib.hid hEV
          clear hV hEV
          clear e0 e1 e2 e3 y0 y1 y2 y3
          go_wp2_with (at_builtin; refine Halt.out ?_)
          refine ⟨?_⟩
          obtain ⟨_, _, _, hA, _, _, _, _, hE, hQ, hc2, hs2, _, hL2, _⟩ := HZ.out
          subst hL2
          have hAp := hA.later (Ext.trans HV.out ((Ext.refl V).alloc (.cells #[.int .i64 2, .int .i64 n2, .string t2, .slice a2 k2.len c2] 29)))
          have hln : (q.app (.cons 2 n t k .nil)).len = Q + 1 := by rw [F.len_app, hQ]; rfl
          have hzz : w.heap.size ≤ (V.alloc (.cells #[.int .i64 2, .int .i64 n2, .string t2, .slice a2 k2.len c2] 29)).heap.size := by have := hE.size; have := HV.out.size; simp; omega
          refine append_part rfl (.tmp 54) (.tmp 56) 27 rfl Try.underlying27 HI.out.1 HI.out.2.1 HI.out.2.2.1 HI.out.2.2.2 rfl rfl hAp hln rfl (cell_new V _ _ 0 _ rfl) (cell_new V _ _ 1 _ rfl) (cell_new V _ _ 2 _ rfl) (cell_new V _ _ 3 _ rfl) hc2 hs2 (by omega) hzz ?_
          clear hA hE hQ hc2 hs2 hAp hzz hln
          intro G' cap' w' hA' hB' hg' hG1' hG2'
          go_wp2_with fail
          go_roundw
          case rel =>
            obtain ⟨h1, h2, h3, hA, hR, hsub, hD, hng, hE, hQ, hc2, hs2, hrr2, hL2, hql⟩ := HZ.out
            refine ⟨j + 1, by omega, by go_num, FuMid.more h1 h2 h3 hG1' hG2' hA' hQ hrr2 hsub (by omega) hng ?_ (by rw [← Bool.not_eq_true, fits_iff]; rintro ⟨_, _, h⟩; exact hw3 h)⟩
            exact Below.trans (hE.trans (Ext.trans HV.out ((Ext.refl V).alloc _))) hB'
          case measure => simp [intOf]; omega
        · subst hw; subst hw2
          have b1 : decide ((t.size : Int) + (t2.size : Int) ≤ 12) = true := by rw [decide_eq_true_eq]; omega
          have b2 : decide (t.size + t2.size ≤ 12) = true := by rw [decide_eq_true_eq]; omega
          go_wp2_with fail
          go_quiet (fail)
          obtain ⟨V, hV⟩ : ∃ V, (wr.alloc (.cells #[.int .i64 2, .int .i64 n2, .string t2, .slice a2 L2 c2] 29)).drewN nq = V := ⟨_, rfl⟩
          obtain ⟨hEV, hlV, z0, z1, z2, z3⟩ := vbox hV
          rw [hV]
          have HV := Lib.hid hEV
          clear hV hEV
          have yz : V.frozen? ⟨G, Q * 4 + 2, none⟩ = false := (HZ.out.2.2.2.1.later HV.out).fz _
          have yy := (HV.out.cell (o := Q * 4 + 2) hG2).trans y2
          have hGV : G < V.heap.size := Nat.lt_of_lt_of_le hG2 HV.out.size
          have hsum : ¬ (9223372036854775807 < t.size + t2.size) := by omega
          clear e0 e1 e2 e3 y0 y1 y2 y3
          go_wp2_with fail
          go_region
          all_goals
            go_wp2_with fail
            go_roundw
            case rel =>
              obtain ⟨h1, h2, h3, hA, hR, hsub, hD, hng, hE, hQ, hc2, hs2, hrr2, hL2, hql⟩ := HZ.out
              refine ⟨j + 1, by omega, by go_num, FuMid.join (wr := V) h1 h2 h3 hG1 (Nat.lt_of_lt_of_le hG2 HV.out.size) (hA.later HV.out) hQ hR hsub (by omega) hD hng (hE.trans HV.out) (fits_iff.2 ⟨rfl, rfl, hw3⟩) ?_⟩
              exact (Ext.refl _).drew
            case measure => simp [intOf]; omega

end Go.Proofs.Ytmkibpimjaofgaa.Nf

/-
  FuseText of the program.
-/
set_option linter.unusedVariables false
set_option linter.unusedSimpArgs false
namespace Go.Proofs.Ytmkibpimjaofgaa.Nf
open Go.RowKit P1 Copy CatD

theorem fu_fn : ListFn 151 #[] fzR := by
  refine ⟨enters_of Try.func151 (by kernel_rfl) rfl, fun lo W o n t k a cap fs hn hcnt hs hf hc hl => ?_, fun o n t k h hc => ?_⟩
  · show Calls Try.prog 151 #[.slice a (psD fzR o n t k).len cap] W (RowOut lo W (fzR (psD fzR o n t k)))
    obtain ⟨hnp, hcp⟩ := row_parts fzR_ok hn
    have hne := ps_ne fzR hn
    obtain ⟨P, hP⟩ : ∃ P, psD fzR o n t k = P := ⟨_, rfl⟩
    rw [hP] at hs hc hnp hcp hne ⊢
    cases P with
    | nil => exact absurd rfl hne
    | cons o1 n1 t1 k1 rest =>
      rcases hs with ⟨h, _⟩ | ⟨b, off, f', rfl, _, rfl, hrow⟩
      · cases h
      · simp only [F.len, F.cnt] at hc hcp
        exact fuseParts W lo o1 n1 t1 k1 rest b off cap f' hnp (by omega) hrow (hf.2 b (by simp)).2.1 ⟨(List.nodup_cons.1 hf.1).2, fun c hc => hf.2 c (by simp [hc])⟩ hl hc
  · obtain ⟨hnp, hcp⟩ := row_parts fzR_ok h
    have := (fzR_keep hnp (ps_ne fzR h)).2.1
    omega

set_option maxRecDepth 100000 in
set_option maxHeartbeats 1600000 in
theorem fu_pass (o n : Int) (t : ByteArray) (k : F) (hn : niceD (o, n, t, k) = true) (hcnt : k.cnt ≤ 10000) : PassAt 104 (o, n, t, k) (rowD fzR o n t k) := by
  refine ⟨enters_of Try.func104 (by kernel_rfl) rfl, fun W a cap fs hs hfs hc => ?_⟩
  show Calls Try.prog 104 #[.agg #[.int .i64 o, .int .i64 n, .string t, .slice a k.len cap]] W _
  have hd := fun (W1 : World) (h1 : Ext W W1) => changeRows fu_fn W1 o n t k hn hcnt a cap fs (h1.sub hs (fun c hc => (hfs c hc).1)) (fun c hc => Nat.lt_of_lt_of_le (hfs c hc).1 h1.size) hc
  obtain ⟨⟨o2, n2, t2, k2⟩, hφ⟩ : ∃ d : D, rowD fzR o n t k = d := ⟨_, rfl⟩
  rw [hφ] at hd ⊢
  have HD := Lib.hid hd
  have HE := Lib.hid (show ∀ x y, Ext W ((W.alloc x).alloc y) from fun x y => ((Ext.refl W).alloc x).alloc y)
  have HZ := Lib.hid (fun x => zbox_second W x 29)
  obtain ⟨L, hL⟩ : ∃ L, k.len = L := ⟨_, rfl⟩
  rw [hL] at HD ⊢
  clear hd hs hfs hc hn hcnt hφ hL
  go_enter Try.func104, Try.ntmps104
  go_wp2_with fail
  refine (HD.out _ (HE.out _ _)).mono ?_
  rintro e1 w1 ⟨a2, cap2, f2, rfl, hc2, hs2, hfr2, hb2⟩
  simp only at hc2 hs2 ⊢
  obtain ⟨⟨z0, z1, z2, z3⟩, ⟨z4, z5, z6, z7⟩, z8⟩ := (HZ.out _).ext hb2
  have H2 := Lib.hid (And.intro hc2 (And.intro hs2 (And.intro hfr2 hb2)))
  clear hc2 hs2 hfr2 hb2
  go_wp2_with fail
  refine bodyPost_ret (v := .agg #[.int .i64 o2, .int .i64 n2, .string t2, .slice a2 k2.len cap2]) (by simp [results, Try.results104, go_sem, z0, z1, z2, z3, z4, z5, z6, z7, z8]) rfl ?_
  obtain ⟨hc2, hs2, hfr2, hb2⟩ := H2.out
  refine end_new2 (lo := W.heap.size + 1) (hi := W.heap.size + 2) hs2 (hfr2.mono (lo' := W.heap.size + 2) (by simp)) hc2 (Nat.le_refl _) (by omega) (by omega) (Below.trans (HE.out _ _) (hb2.mono (by simp; omega))) ?_
  repeat (first | exact Touch.refl _ _ _ | refine Touch.setCell ?_ (by simp) (by simp) _)

def fuRes (o n : Int) (t : ByteArray) (k : F) : Bool × D := chR (o, n, t, k) (rowD fzR o n t k)

end Go.Proofs.Ytmkibpimjaofgaa.Nf

