import Derived.Test.YtjcaiecapapceaaGreatDrY
import Derived.Deep.RegionLaw
/-
 What the model's l1Copy comes to: the same document in new memory.
-/
set_option linter.unusedVariables false
set_option linter.unusedSimpArgs false
set_option maxRecDepth 100000
set_option maxHeartbeats 3200000
namespace Go.Proofs.YtjcaiecapapceaaGreat.CopyS
open Go.RowKit P1 Copy
theorem step_append_doc {P : Program} {ops : Array Oper} {op : Oper} {ac : Act} {w : World} {K : Act → World → Prop} {Q : Exit → Act → World → Prop} {E : Prop} (hgd : op.guard = none) (s x : Operand) (t : TypeId)
  (ho : op.op = .call { callee := .builtin .append, args := #[s, x], argTypes := #[t, t] })
  {e : TypeId} {i : TypeInfo} {z : Value} (ht : P.underlying t = some (.slice e)) (hi : P.info? e = some i) (hz : i.zero = some z) (h4 : i.size = 4) (h56 : i.bytes = 56) (hzs : z.cells.size = 4)
  {lo m : Nat} {v : Value} {p : F} {fs : List Nat} (hsv : ac.eval s = v) (G : Grow w e lo v p fs) {d : Nat} {c : Nat} {o n : Int} {tx : ByteArray} {k : F} {a : Option Addr} {cap : Nat} {f1 : List Nat} (hx : ac.eval x = .slice (some ⟨d, 0, none⟩) 1 c)
  (c0 : w.cell? ⟨d, 0, none⟩ = some (.int .i64 o)) (c1 : w.cell? ⟨d, 1, none⟩ = some (.int .i64 n)) (c2 : w.cell? ⟨d, 2, none⟩ = some (.string tx)) (c3 : w.cell? ⟨d, 3, none⟩ = some (.slice a k.len cap)) (hc : k.len ≤ cap)
  (hs : SubAt w a k f1) (hf : Fresh m w f1) (hlm : lo ≤ m) (hm : ∀ q ∈ fs, q < m) (hmo : ∀ q, v.ownBlock = some q → q < m) (hl : p.len + 1 ≤ 1099511627776)
  (h : ∀ v' w' fs', Grow w' e lo v' (p.app (.cons o n tx k .nil)) fs' → Below lo w w' → K (ac.put op.dst v') w') : if Region.wanted op (yielded ops ac.tmps) = true then Oper.wp P op ac w K Q else E := by
 have hw : Region.wanted op (yielded ops ac.tmps) = true := by simp [Region.wanted, hgd]
 rw [if_pos hw]
 obtain ⟨v', w', fs', hr, h2, h3, h5⟩ := Grow.append (P := P) (t := t) (ty := op.type) (c := c) ht hi hz h4 h56 hzs G c0 c1 c2 c3 hc hs hf hlm hm hmo hl
 unfold Oper.wp execOp
 simp only [ho, resolve, invoke, builtin, Sem.run_bind, Sem.run_pure, Result.andThen_ok, List.map_toArray, List.map_cons, List.map_nil, hsv, hx, hr]
 exact h v' w' fs' h2 h3
def CpS (f : F) : Prop := ∀ (w : World) (o n : Int) (t : ByteArray) (k : F) (p r : F) (a : Option Addr) (cap : Nat) (fs : List Nat), f = p.app (.cons o n t k r) → SubAt w a k fs → (∀ c ∈ fs, c < w.heap.size) → k.len ≤ cap → f.size ≤ 4194304 →
 Calls Tryz.prog 110 #[.agg #[.int .i64 o, .int .i64 n, .string t, .slice a k.len cap]] w (NewOut w o n t k)
def CpMid (w : World) (k : F) (j : Nat) (v : Value) (wr : World) : Prop := ∃ (p g : F) (fs : List Nat), k = p.app g ∧ p.len = j ∧ Grow wr 25 (w.heap.size + 3) v p fs ∧ Below w.heap.size w wr
def CpBox (w : World) (o n : Int) (t : ByteArray) (u v : Value) (wr : World) : Prop := wr.cell? ⟨w.heap.size, 3, none⟩ = some u ∧ wr.there (w.heap.size + 1) 0 4 ∧ wr.cell? ⟨w.heap.size + 2, 0, none⟩ = some (.int .i64 o) ∧ wr.cell? ⟨w.heap.size + 2, 1, none⟩ = some (.int .i64 n) ∧ wr.cell? ⟨w.heap.size + 2, 2, none⟩ = some (.string t) ∧
 wr.cell? ⟨w.heap.size + 2, 3, none⟩ = some v ∧ wr.frozen? ⟨w.heap.size + 2, 3, none⟩ = false ∧ w.heap.size + 3 ≤ wr.heap.size
theorem CpBox.below {w : World} {o n : Int} {t : ByteArray} {u v : Value} {wr w' : World} (h : CpBox w o n t u v wr) (k : Below (w.heap.size + 3) wr w') : CpBox w o n t u v w' := by
 obtain ⟨h1, h2, h3, h4, h5, h6, h7, h8⟩ := h
 refine ⟨?_, there_below h2 (by omega) k, ?_, ?_, ?_, ?_, ?_, Nat.le_trans h8 k.size⟩
 ·rw [k.cell (p := ⟨_, _, _⟩) (by simp)]; exact h1
 ·rw [k.cell (p := ⟨_, _, _⟩) (by simp)]; exact h3
 ·rw [k.cell (p := ⟨_, _, _⟩) (by simp)]; exact h4
 ·rw [k.cell (p := ⟨_, _, _⟩) (by simp)]; exact h5
 ·rw [k.cell (p := ⟨_, _, _⟩) (by simp)]; exact h6
 ·rw [k.frozen (p := ⟨_, _, _⟩) (by simp)]; exact h7
theorem CpBox.put {w : World} {o n : Int} {t : ByteArray} {u v v' : Value} {wr : World} (h : CpBox w o n t u v wr) : CpBox w o n t u v' (wr.setCell ⟨w.heap.size + 2, 3, none⟩ v') := by
 obtain ⟨h1, h2, h3, h4, h5, h6, h7, h8⟩ := h
 refine ⟨?_, fun j hj => ⟨?_, ?_⟩, ?_, ?_, ?_, World.cell?_setCell_same _ _ _ h6, ?_, by simpa using h8⟩
 ·rw [World.cell?_setCell_other _ _ _ _ (by simp)]; exact h1
 ·rw [World.cell?_setCell_other _ _ _ _ (by simp)]; exact (h2 j hj).1
 ·rw [World.frozen?_setCell]; exact (h2 j hj).2
 ·rw [World.cell?_setCell_other _ _ _ _ (by simp)]; exact h3
 ·rw [World.cell?_setCell_other _ _ _ _ (by simp)]; exact h4
 ·rw [World.cell?_setCell_other _ _ _ _ (by simp)]; exact h5
 ·rw [World.frozen?_setCell]; exact h7
theorem Grow.setOld {w : World} {T : TypeId} {lo : Nat} {v : Value} {p : F} {fs : List Nat} (h : Grow w T lo v p fs) {a : Addr} (ha : a.block < lo) (u : Value) : Grow (w.setCell a u) T lo v p fs := by
 obtain ⟨⟨xs, h1⟩, h2, h3, h4⟩ := h
 have hg : w.grownBy (w.setCell a u) (some a.block) := ⟨rfl, rfl, rfl, by simp [World.setCell], fun k hk hne => Below.heap_setCell _ _ _ _ (fun e => hne (by rw [e]))⟩
 have hc : ∀ c ∈ fs, ∀ o, (w.setCell a u).cell? ⟨c, o, none⟩ = w.cell? ⟨c, o, none⟩ := fun c hc o => World.cell?_setCell_other _ _ _ _ (fun e => by have := (h3.2 c hc).1; subst e; simp at ha; omega)
 refine ⟨⟨xs, h1.kept hg ?_⟩, ?_, h3.alike (by simp) (fun c _ o => World.frozen?_setCell _ _ _ _), by simpa using h4⟩
 ·right
  intro e
  have := (h1.lt a.block e).1
  omega
 ·rcases h2 with h2 | ⟨b, cap, f', e, hp, rfl, hr⟩
  ·exact .inl h2
  ·exact .inr ⟨b, cap, f', e, hp, rfl, hr.congr (hc b (by simp)) (fun c hm => hc c (by simp [hm]))⟩
theorem mid3 {wr w1 : World} {ob : Obj} {T : TypeId} {lo : Nat} {v : Value} {p : F} {fs : List Nat} (hG : Grow wr T lo v p fs) (hb : Below wr.drew.heap.size wr.drew w1) :
  Grow (w1.alloc ob) T lo v p fs ∧ lo ≤ wr.drew.heap.size ∧ (∀ q ∈ fs, q < wr.drew.heap.size) ∧ (∀ q, v.ownBlock = some q → q < wr.drew.heap.size) :=
 ⟨(hG.drew.below (Nat.le_refl _) hb).alloc ob, hG.2.2.2, fun q hq => hG.fresh.lt q hq, fun q hq => (hG.own_lt q hq).2⟩
theorem mid_box {w wr w1 w2 : World} {ob : Obj} {o n : Int} {t : ByteArray} {u v : Value} (h : CpBox w o n t u v wr) (hb : Below wr.drew.heap.size wr.drew w1) (hb' : Below (w.heap.size + 3) (w1.alloc ob) w2) : Below (w.heap.size + 3) wr w2 ∧ CpBox w o n t u v w2 := by
 have h8 : w.heap.size + 3 ≤ wr.heap.size := h.2.2.2.2.2.2.2
 have h1 : Below (w.heap.size + 3) wr w1 := (Below.refl (w.heap.size + 3) wr).drew.trans (hb.mono h8)
 have h2 := (h1.alloc (Nat.le_trans h8 h1.size) ob).trans hb'
 exact ⟨h2, h.below h2⟩
theorem mid_cell {w wr w1 : World} {o n : Int} {t : ByteArray} {u v : Value} (h : CpBox w o n t u v wr) (hb : Below wr.drew.heap.size wr.drew w1) : w1.cell? ⟨w.heap.size + 2, 3, none⟩ = some v ∧ w1.frozen? ⟨w.heap.size + 2, 3, none⟩ = false ∧ w.heap.size + 2 < w1.heap.size := by
 obtain ⟨_, _, _, _, _, h7, h8, h9⟩ := h
 have h1 : Below (w.heap.size + 3) wr w1 := (Below.refl (w.heap.size + 3) wr).drew.trans (hb.mono h9)
 exact ⟨(h1.cell (p := ⟨_, _, _⟩) (by simp)).trans h7, (h1.frozen (p := ⟨_, _, _⟩) (by simp)).trans h8, by have := h1.size; omega⟩
theorem end_new3 {w wr w4 : World} {T : TypeId} {o n : Int} {t : ByteArray} {v : Value} {k : F} {fs : List Nat} {a : Option Addr} {cap : Nat} (hG : Grow wr T (w.heap.size + 3) v k fs) (hs : SubAt wr a k fs) (hc : k.len ≤ cap) (hbw : Below w.heap.size w wr)
  (ht : Touch (w.heap.size + 1) (w.heap.size + 2) wr w4) : NewOut w o n t k (.returned (.agg #[.int .i64 o, .int .i64 n, .string t, .slice a k.len cap])) w4 := by
 have hlo : ∀ c ∈ fs, w.heap.size + 2 ≤ c := fun c hc => by have := (hG.fresh.2 c hc).1; omega
 exact ⟨a, cap, fs, rfl, hc, ht.sub hs (fun c hc => Or.inr (hlo c hc)), ht.fresh (hG.fresh.mono (by omega)) (fun c hc => Or.inr (hlo c hc)), ht.below hbw (by omega)⟩
theorem copy_step (w : World) (o n : Int) (t : ByteArray) (k : F) (ih : CpS k) (a : Option Addr) (cap : Nat) (fs : List Nat) (hs : SubAt w a k fs) (hfs : ∀ c ∈ fs, c < w.heap.size) (hc : k.len ≤ cap) (hsz : k.size ≤ 4194304) (ht : t.size ≤ 4194304) :
  Calls Tryz.prog 110 #[.agg #[.int .i64 o, .int .i64 n, .string t, .slice a k.len cap]] w (NewOut w o n t k) := by
 obtain ⟨i0, hi, hz0, hz1, hz2⟩ := info_parts To.info
 have hl4 := F.len_le_size k
 obtain ⟨L, hL⟩ : ∃ L, k.len = L := ⟨_, rfl⟩
 rw [hL] at hc hl4 ⊢
 have hL4 : L ≤ 4194304 := by omega
 have HL := Lib.hid hL
 clear hL hl4
 have hsub : 0 < L → ∃ b off f', a = some ⟨b, off, none⟩ ∧ RowAt w k b off f' ∧ b < w.heap.size ∧ ∀ c ∈ f', c < w.heap.size := by
  intro h0
  rcases hs with ⟨rfl, rfl⟩ | ⟨b, off, f', rfl, hnil, rfl, hrow⟩
  ·have := HL.out; simp only [F.len] at this; omega
  ·exact ⟨b, off, f', rfl, hrow, hfs b (by simp), fun c hc => hfs c (by simp [hc])⟩
 have HSUB := Lib.hid hsub
 have IH := Lib.hid ih
 have HI := Lib.hid (And.intro hi (And.intro hz0 (And.intro hz1 hz2)))
 have hbox : ∀ (C2 : Array Value), C2.size = 4 → CpBox w o n t (.slice a L cap) (.slice none 0 0) (((w.alloc (.cells #[.int .i64 o, .int .i64 n, .string t, .slice a L cap] 25)).alloc (.cells C2 25)).alloc (.cells #[.int .i64 o, .int .i64 n, .string t, .slice none 0 0] 25)) := by
  intro C2 h2
  have s2 : ((w.alloc (.cells #[.int .i64 o, .int .i64 n, .string t, .slice a L cap] 25)).alloc (.cells C2 25)).heap.size = w.heap.size + 2 := by simp
  refine ⟨?_, ?_, ?_, ?_, ?_, ?_, ?_, by simp⟩
  ·rw [World.cell?_alloc_lt _ _ _ (by simp; omega), World.cell?_alloc_lt _ _ _ (by simp), World.cell?_alloc_new]; rfl
  ·have := there_new (w.alloc (.cells #[.int .i64 o, .int .i64 n, .string t, .slice a L cap] 25)) C2 25 4 (by omega)
   refine there_below (by simpa using this) (B := w.heap.size + 2) (by omega) ((Below.refl _ _).alloc (by simp) _)
  ·rw [← s2, World.cell?_alloc_new]; rfl
  ·rw [← s2, World.cell?_alloc_new]; rfl
  ·rw [← s2, World.cell?_alloc_new]; rfl
  ·rw [← s2, World.cell?_alloc_new]; rfl
  ·rw [← s2, World.frozen?_alloc_new]
 have HBOX := Lib.hid hbox
 clear hsub hs hfs ih hi hz0 hz1 hz2 hbox
 go_enter Tryz.func110, Tryz.ntmps110
 go_wp2_with fail
 go_loopw [4] (fun i wr => ∃ (j : Nat) (v : Value), j ≤ L ∧ i = .int .i64 j ∧ CpMid w k j v wr ∧ CpBox w o n t (.slice a L cap) v wr) (fun i _ => L - (intOf i).toNat)
 case atStart => exact ⟨0, .slice none 0 0, by omega, rfl, ⟨.nil, k, [], rfl, rfl, Grow.start _ _ _ (by simp), (((Below.refl _ _).alloc (Nat.le_refl _) _).alloc (by simp) _).alloc (by simp; omega) _⟩, HBOX.out _ rfl⟩
 case round =>
  obtain ⟨j, v, hj, rfl, ⟨p, g, fs1, h3, h5, hG, hbw⟩, hbx⟩ := hrel
  have h7 : g.len = L - j := by have := HL.out; rw [h3, F.len_app, h5] at this; omega
  cases g with
  | nil =>
    have hjL : L ≤ j := by simp only [F.len] at h7; omega
    rw [F.app_nil] at h3
    subst h3
    obtain ⟨a', cap', rfl, hcap', hsub', hcm⟩ := hG.slice
    obtain ⟨x3, hth, x4, x5, x6, x7, x8, hsz2⟩ := hbx
    obtain ⟨⟨u0, u1, u2, u3, y0, y1, y2, y3⟩, z0, z1, z2, z3⟩ := there_at hth
    have H := Lib.hid (And.intro hG (And.intro hbw (And.intro hsub' (And.intro hcap' h5))))
    have hl1 : w.heap.size + 1 < wr.heap.size := by omega
    clear hG hbw hsub' hth h7 hcm hcap' h5
    go_wp2_with fail
    refine bodyPost_ret (v := .agg #[.int .i64 o, .int .i64 n, .string t, .slice a' k.len cap']) (by simp [results, Tryz.results110, go_sem, y0, y1, y2, y3, hl1]) rfl ?_
    obtain ⟨hG, hbw, hsub', hcap', h5⟩ := H.out
    refine end_new3 hG hsub' hcap' hbw ?_
    repeat (first | exact Touch.refl _ _ _ | refine Touch.setCell ?_ (by simp) (by simp) _)
  | cons o1 n1 t1 k1 r1 =>
    have hjL : j < L := by simp only [F.len] at h7; omega
    obtain ⟨b, off, f', rfl, hrow, hbB, hfB⟩ := HSUB.out (by omega)
    rw [h3] at hrow
    obtain ⟨a1, cap1, f1, c0, c1, c2, c3, hc1', hsub1, hin⟩ := row_at hrow
    rw [h5] at c0 c1 c2 c3
    rw [← hbw.cell (p := ⟨_, _, _⟩) hbB] at c0 c1 c2 c3
    have hd := fun (w1 : World) (hw1 : Below wr.heap.size wr w1) => IH.out w1 o1 n1 t1 k1 p r1 a1 cap1 f1 h3 (hsub1.below (fun c hc => hfB c (hin c hc)) (hbw.trans (hw1.mono hbw.size))) (fun c hc => Nat.lt_of_lt_of_le (hfB c (hin c hc)) (Nat.le_trans hbw.size hw1.size)) hc1' hsz
    have HD := Lib.hid hd
    have H := Lib.hid (And.intro h3 (And.intro h5 (And.intro hG (And.intro hbw hbx))))
    obtain ⟨x3, _, _, _, _, x7, x8, hsz3⟩ := hbx
    have i0' : (0 : Int) ≤ (j : Int) := Int.natCast_nonneg _
    have i1 : (j : Int) < (L : Int) := by omega
    clear hd h3 h5 h7 hbw hrow hG
    go_wp2_with fail
    go_region_law (first
     | (refine step_append_doc rfl (.tmp 20) (.tmp 27) 23 rfl Tryz.underlying23 HI.out.1 HI.out.2.1 HI.out.2.2.1 HI.out.2.2.2 rfl rfl (HST.out _).1 (d := w1.heap.size) (c := 1) rfl (cell_new w1 _ _ 0 _ rfl) (cell_new w1 _ _ 1 _ rfl) (cell_new w1 _ _ 2 _ rfl) (cell_new w1 _ _ 3 _ rfl) H2.out.2.2.2 (H2.out.1.below H2.out.2.1.lt ((Below.refl _ _).alloc (Nat.le_refl _) _)) (H2.out.2.1.below H2.out.2.1.lt ((Below.refl _ _).alloc (Nat.le_refl _) _)) (HST.out (.cells #[] 0)).2.1 (HST.out (.cells #[] 0)).2.2.1 (HST.out (.cells #[] 0)).2.2.2 (by have := H.out.2.1; omega) ?_; intro v' w2 fs' hG' hb'; obtain ⟨av, cpv, rfl, _, _, _⟩ := hG'.slice; have HE := Lib.hid (And.intro hG' (mid_box H.out.2.2.2.2 H2.out.2.2.1 hb')); obtain ⟨_, _, _, _, _, q7, q8, l8⟩ := HE.out.2.2; clear hG' hb')
     | (go_simp; go_at_call 110; refine (HD.out _ (by first | exact Below.refl _ _ | exact (Below.refl _ _).drew)).mono ?_; rintro e1 w1 ⟨a2, cap2, f2, rfl, hc2, hs2, hfr2, hb2⟩; have H2 := Lib.hid (And.intro hs2 (And.intro hfr2 (And.intro hb2 hc2))); have HST := Lib.hid (fun ob => mid3 (ob := ob) H.out.2.2.1 hb2); obtain ⟨p7, p8, p9⟩ := mid_cell H.out.2.2.2.2 hb2; clear hs2 hfr2 hb2 hc2))
    all_goals
     go_wp2_with fail
     go_roundw
     case rel =>
      obtain ⟨h3, h5, hG, hbw, hbx⟩ := H.out
      obtain ⟨hG', hch, hbx'⟩ := HE.out
      refine ⟨j + 1, _, by omega, by go_num, ⟨p.app (.cons o1 n1 t1 k1 .nil), r1, fs', by rw [h3, F.app_assoc]; rfl, by rw [F.len_app, h5]; rfl, Grow.setOld hG' (by simp) _, ?_⟩, hbx'.put⟩
      exact (hbw.trans (hch.mono (by omega))).setCell (by simp; omega) _
     case measure => simp [intOf]; omega
theorem cpS (m : Nat) : ∀ f : F, f.deep ≤ m → CpS f := by
 induction m with
 | zero =>
   intro f hf w o n t k p r a cap fs he
   rw [he, F.deep_app] at hf; simp only [F.deep] at hf; omega
 | succ m ih =>
   intro f hf w o n t k p r a cap fs he hs hfs hc hsz
   have hk : k.deep ≤ m := by rw [he, F.deep_app] at hf; simp only [F.deep] at hf; omega
   rw [he, F.size_app] at hsz
   simp only [F.size] at hsz
   exact copy_step w o n t k (ih k hk) a cap fs hs hfs hc (by omega) (by omega)
end Go.Proofs.YtjcaiecapapceaaGreat.CopyS
namespace Go.Proofs.YtjcaiecapapceaaGreat.CopyS
open Go.RowKit P1 Copy
def GrownOut (w : World) (o n : Int) (t : ByteArray) (k : F) (e : Ending) (w' : World) : Prop := ∃ (v : Value) (fs : List Nat), e = .returned (.agg #[.int .i64 o, .int .i64 n, .string t, v]) ∧ Grow w' 25 (w.heap.size + 3) v k fs ∧ Below w.heap.size w w'
theorem copy_grow (w : World) (o n : Int) (t : ByteArray) (k : F) (ih : CpS k) (a : Option Addr) (cap : Nat) (fs : List Nat) (hs : SubAt w a k fs) (hfs : ∀ c ∈ fs, c < w.heap.size) (hc : k.len ≤ cap) (hsz : k.size ≤ 4194304) (ht : t.size ≤ 4194304) :
  Calls Tryz.prog 110 #[.agg #[.int .i64 o, .int .i64 n, .string t, .slice a k.len cap]] w (GrownOut w o n t k) := by
 obtain ⟨i0, hi, hz0, hz1, hz2⟩ := info_parts To.info
 have hl4 := F.len_le_size k
 obtain ⟨L, hL⟩ : ∃ L, k.len = L := ⟨_, rfl⟩
 rw [hL] at hc hl4 ⊢
 have hL4 : L ≤ 4194304 := by omega
 have HL := Lib.hid hL
 clear hL hl4
 have hsub : 0 < L → ∃ b off f', a = some ⟨b, off, none⟩ ∧ RowAt w k b off f' ∧ b < w.heap.size ∧ ∀ c ∈ f', c < w.heap.size := by
  intro h0
  rcases hs with ⟨rfl, rfl⟩ | ⟨b, off, f', rfl, hnil, rfl, hrow⟩
  ·have := HL.out; simp only [F.len] at this; omega
  ·exact ⟨b, off, f', rfl, hrow, hfs b (by simp), fun c hc => hfs c (by simp [hc])⟩
 have HSUB := Lib.hid hsub
 have IH := Lib.hid ih
 have HI := Lib.hid (And.intro hi (And.intro hz0 (And.intro hz1 hz2)))
 have hbox : ∀ (C2 : Array Value), C2.size = 4 → CpBox w o n t (.slice a L cap) (.slice none 0 0) (((w.alloc (.cells #[.int .i64 o, .int .i64 n, .string t, .slice a L cap] 25)).alloc (.cells C2 25)).alloc (.cells #[.int .i64 o, .int .i64 n, .string t, .slice none 0 0] 25)) := by
  intro C2 h2
  have s2 : ((w.alloc (.cells #[.int .i64 o, .int .i64 n, .string t, .slice a L cap] 25)).alloc (.cells C2 25)).heap.size = w.heap.size + 2 := by simp
  refine ⟨?_, ?_, ?_, ?_, ?_, ?_, ?_, by simp⟩
  ·rw [World.cell?_alloc_lt _ _ _ (by simp; omega), World.cell?_alloc_lt _ _ _ (by simp), World.cell?_alloc_new]; rfl
  ·have := there_new (w.alloc (.cells #[.int .i64 o, .int .i64 n, .string t, .slice a L cap] 25)) C2 25 4 (by omega)
   refine there_below (by simpa using this) (B := w.heap.size + 2) (by omega) ((Below.refl _ _).alloc (by simp) _)
  ·rw [← s2, World.cell?_alloc_new]; rfl
  ·rw [← s2, World.cell?_alloc_new]; rfl
  ·rw [← s2, World.cell?_alloc_new]; rfl
  ·rw [← s2, World.cell?_alloc_new]; rfl
  ·rw [← s2, World.frozen?_alloc_new]
 have HBOX := Lib.hid hbox
 clear hsub hs hfs ih hi hz0 hz1 hz2 hbox
 go_enter Tryz.func110, Tryz.ntmps110
 go_wp2_with fail
 go_loopw [4] (fun i wr => ∃ (j : Nat) (v : Value), j ≤ L ∧ i = .int .i64 j ∧ CpMid w k j v wr ∧ CpBox w o n t (.slice a L cap) v wr) (fun i _ => L - (intOf i).toNat)
 case atStart => exact ⟨0, .slice none 0 0, by omega, rfl, ⟨.nil, k, [], rfl, rfl, Grow.start _ _ _ (by simp), (((Below.refl _ _).alloc (Nat.le_refl _) _).alloc (by simp) _).alloc (by simp; omega) _⟩, HBOX.out _ rfl⟩
 case round =>
  obtain ⟨j, v, hj, rfl, ⟨p, g, fs1, h3, h5, hG, hbw⟩, hbx⟩ := hrel
  have h7 : g.len = L - j := by have := HL.out; rw [h3, F.len_app, h5] at this; omega
  cases g with
  | nil =>
    have hjL : L ≤ j := by simp only [F.len] at h7; omega
    rw [F.app_nil] at h3
    subst h3
    obtain ⟨a', cap', rfl, hcap', hsub', hcm⟩ := hG.slice
    obtain ⟨x3, hth, x4, x5, x6, x7, x8, hsz2⟩ := hbx
    obtain ⟨⟨u0, u1, u2, u3, y0, y1, y2, y3⟩, z0, z1, z2, z3⟩ := there_at hth
    have H := Lib.hid (And.intro hG (And.intro hbw (And.intro hsub' (And.intro hcap' h5))))
    have hl1 : w.heap.size + 1 < wr.heap.size := by omega
    clear hG hbw hsub' hth h7 hcm hcap' h5
    go_wp2_with fail
    refine bodyPost_ret (v := .agg #[.int .i64 o, .int .i64 n, .string t, .slice a' k.len cap']) (by simp [results, Tryz.results110, go_sem, y0, y1, y2, y3, hl1]) rfl ?_
    obtain ⟨hG, hbw, hsub', hcap', h5⟩ := H.out
    refine ⟨_, fs1, rfl, ?_, ?_⟩
    ·repeat (first | exact hG | refine Grow.setOld ?_ (by simp) _)
    ·repeat (first | exact hbw | refine Below.setCell ?_ (by simp) _)
  | cons o1 n1 t1 k1 r1 =>
    have hjL : j < L := by simp only [F.len] at h7; omega
    obtain ⟨b, off, f', rfl, hrow, hbB, hfB⟩ := HSUB.out (by omega)
    rw [h3] at hrow
    obtain ⟨a1, cap1, f1, c0, c1, c2, c3, hc1', hsub1, hin⟩ := row_at hrow
    rw [h5] at c0 c1 c2 c3
    rw [← hbw.cell (p := ⟨_, _, _⟩) hbB] at c0 c1 c2 c3
    have hd := fun (w1 : World) (hw1 : Below wr.heap.size wr w1) => IH.out w1 o1 n1 t1 k1 p r1 a1 cap1 f1 h3 (hsub1.below (fun c hc => hfB c (hin c hc)) (hbw.trans (hw1.mono hbw.size))) (fun c hc => Nat.lt_of_lt_of_le (hfB c (hin c hc)) (Nat.le_trans hbw.size hw1.size)) hc1' hsz
    have HD := Lib.hid hd
    have H := Lib.hid (And.intro h3 (And.intro h5 (And.intro hG (And.intro hbw hbx))))
    obtain ⟨x3, _, _, _, _, x7, x8, hsz3⟩ := hbx
    have i0' : (0 : Int) ≤ (j : Int) := Int.natCast_nonneg _
    have i1 : (j : Int) < (L : Int) := by omega
    clear hd h3 h5 h7 hbw hrow hG
    go_wp2_with fail
    go_region_law (first
     | (refine step_append_doc rfl (.tmp 20) (.tmp 27) 23 rfl Tryz.underlying23 HI.out.1 HI.out.2.1 HI.out.2.2.1 HI.out.2.2.2 rfl rfl (HST.out _).1 (d := w1.heap.size) (c := 1) rfl (cell_new w1 _ _ 0 _ rfl) (cell_new w1 _ _ 1 _ rfl) (cell_new w1 _ _ 2 _ rfl) (cell_new w1 _ _ 3 _ rfl) H2.out.2.2.2 (H2.out.1.below H2.out.2.1.lt ((Below.refl _ _).alloc (Nat.le_refl _) _)) (H2.out.2.1.below H2.out.2.1.lt ((Below.refl _ _).alloc (Nat.le_refl _) _)) (HST.out (.cells #[] 0)).2.1 (HST.out (.cells #[] 0)).2.2.1 (HST.out (.cells #[] 0)).2.2.2 (by have := H.out.2.1; omega) ?_; intro v' w2 fs' hG' hb'; obtain ⟨av, cpv, rfl, _, _, _⟩ := hG'.slice; have HE := Lib.hid (And.intro hG' (mid_box H.out.2.2.2.2 H2.out.2.2.1 hb')); obtain ⟨_, _, _, _, _, q7, q8, l8⟩ := HE.out.2.2; clear hG' hb')
     | (go_simp; go_at_call 110; refine (HD.out _ (by first | exact Below.refl _ _ | exact (Below.refl _ _).drew)).mono ?_; rintro e1 w1 ⟨a2, cap2, f2, rfl, hc2, hs2, hfr2, hb2⟩; have H2 := Lib.hid (And.intro hs2 (And.intro hfr2 (And.intro hb2 hc2))); have HST := Lib.hid (fun ob => mid3 (ob := ob) H.out.2.2.1 hb2); obtain ⟨p7, p8, p9⟩ := mid_cell H.out.2.2.2.2 hb2; clear hs2 hfr2 hb2 hc2))
    all_goals
     go_wp2_with fail
     go_roundw
     case rel =>
      obtain ⟨h3, h5, hG, hbw, hbx⟩ := H.out
      obtain ⟨hG', hch, hbx'⟩ := HE.out
      refine ⟨j + 1, _, by omega, by go_num, ⟨p.app (.cons o1 n1 t1 k1 .nil), r1, fs', by rw [h3, F.app_assoc]; rfl, by rw [F.len_app, h5]; rfl, Grow.setOld hG' (by simp) _, ?_⟩, hbx'.put⟩
      exact (hbw.trans (hch.mono (by omega))).setCell (by simp; omega) _
     case measure => simp [intOf]; omega
theorem l1CopyG (w : World) (o n : Int) (t : ByteArray) (k : F) (a : Option Addr) (cap : Nat) (fs : List Nat) (hs : SubAt w a k fs) (hfs : ∀ c ∈ fs, c < w.heap.size) (hc : k.len ≤ cap) (hsz : k.size ≤ 4194304) (ht : t.size ≤ 4194304) :
  Calls Tryz.prog 110 #[.agg #[.int .i64 o, .int .i64 n, .string t, .slice a k.len cap]] w (GrownOut w o n t k) :=
 copy_grow w o n t k (cpS _ k (Nat.le_refl _)) a cap fs hs hfs hc hsz ht
end Go.Proofs.YtjcaiecapapceaaGreat.CopyS
