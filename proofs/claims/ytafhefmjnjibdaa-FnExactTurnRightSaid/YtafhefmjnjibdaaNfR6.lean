import Derived.Test.YtafhefmjnjibdaaNfR5
import Derived.Test.YtafhefmjnjibdaaPl
/-
  The model's l7Spine: the parts of a document's row, each turned to the right.
-/
set_option linter.unusedVariables false
set_option linter.unusedSimpArgs false
namespace Go.Proofs.Ytafhefmjnjibdaa.Nf
open Go.RowKit P1 Copy

/-- a row that has grown by parts: only its own block is written, and what it takes up is new -/
def SpOut (lo : Nat) (w : World) (v : Value) (fs0 : List Nat) (p : F) (e : Ending) (w' : World) : Prop := ∃ (v' : Value) (fs : List Nat), e = .returned v' ∧ Grow w' 25 lo v' p fs ∧ Below lo w w' ∧
  (∀ q, q < w.heap.size → some q ≠ v.ownBlock → q ∉ fs0 → w'.heap[q]? = w.heap[q]?) ∧ (∀ q ∈ fs, some q = v.ownBlock ∨ q ∈ fs0 ∨ w.heap.size ≤ q) ∧ (∀ q, v'.ownBlock = some q → q ∈ fs)
theorem own_mem {w : World} {T : TypeId} {lo : Nat} {v : Value} {p : F} {fs : List Nat} (h : Grow w T lo v p fs) (hp : p ≠ .nil) : ∀ q, v.ownBlock = some q → q ∈ fs := by
  intro q hq
  rcases h.2.1 with ⟨h, _⟩ | ⟨b, cap, f', rfl, _, rfl, _⟩
  · exact absurd h hp
  · simp only [Value.ownBlock, Option.some.injEq] at hq
    subst hq; simp
theorem app_ne {p : F} {o n : Int} {t : ByteArray} {k r : F} : p.app (.cons o n t k r) ≠ .nil := by
  intro e
  have := congrArg F.len e
  rw [F.len_app] at this
  simp only [F.len] at this
  omega

set_option maxRecDepth 100000 in
set_option maxHeartbeats 1600000 in
theorem spine_one (w : World) (lo : Nat) (v : Value) (p : F) (fs0 : List Nat) (o n : Int) (t : ByteArray) (k k2 : F) (h7 : o ≠ 7) (hG : Grow w 25 lo v p fs0) (hl : p.len ≤ 100000) (a : Option Addr) (cap : Nat)
    (ih : ∀ W : World, Ext w W → Calls Try.prog 73 #[.agg #[.int .i64 o, .int .i64 n, .string t, .slice a k.len cap]] W (NewD W (o, n, t, k2))) :
    Calls Try.prog 109 #[v, .agg #[.int .i64 o, .int .i64 n, .string t, .slice a k.len cap]] w (SpOut lo w v fs0 (p.app (.cons o n t k2 .nil))) := by
  obtain ⟨i0, hi, hz0, hz1, hz2⟩ := info_parts To.info
  have HI := Lib.hid (And.intro hi (And.intro hz0 (And.intro hz1 hz2)))
  obtain ⟨L, hL⟩ : ∃ L, k.len = L := ⟨_, rfl⟩
  rw [hL] at ih ⊢
  have q7 : (o != 7) = true := by simpa using h7
  have HD := Lib.hid (fun ob => ih (w.alloc ob) ((Ext.refl w).alloc ob))
  have H := Lib.hid (And.intro hG hl)
  have hlo := hG.2.2.2
  clear ih hi hz0 hz1 hz2 hL h7 hG hl
  go_enter Try.func109, Try.ntmps109
  go_wp2_with (first
    | (go_at_call 73; refine (HD.out _).mono ?_; rintro e1 w1 ⟨a2, cap2, f2, rfl, hc2, hs2, hfr2, hb2⟩; simp only at hc2 hs2 ⊢; have hstep := fun (ob : Obj) => copy_mid (w1 := w1) (ob := ob) H.out.1 hb2; have H2 := Lib.hid (And.intro hs2 (And.intro hfr2 (And.intro hb2 hc2))); clear hs2 hfr2 hb2 hc2; have HST := Lib.hid hstep; clear hstep)
    | (at_builtin; refine append_doc2 rfl (.tmp 8) (.tmp 11) 23 rfl Try.underlying23 HI.out.1 HI.out.2.1 HI.out.2.2.1 HI.out.2.2.2 rfl rfl (HST.out _).1 (d := w1.heap.size) (c := 1) rfl (cell_new w1 _ _ 0 _ rfl) (cell_new w1 _ _ 1 _ rfl) (cell_new w1 _ _ 2 _ rfl) (cell_new w1 _ _ 3 _ rfl) H2.out.2.2.2 (H2.out.1.below H2.out.2.1.lt ((Below.refl _ _).alloc (Nat.le_refl _) _)) (H2.out.2.1.below H2.out.2.1.lt ((Below.refl _ _).alloc (Nat.le_refl _) _)) (HST.out (.cells #[] 0)).2.1 (HST.out (.cells #[] 0)).2.2.1 (HST.out (.cells #[] 0)).2.2.2.1 (by have := H.out.2; omega) ?_; intro v' w2 fs' hG' hb' hg' hm'))
  go_ret
  have hz1 := H2.out.2.2.1.size
  simp only [World.size_alloc] at hz1
  refine ⟨v', fs', rfl, hG', copy_end H2.out.2.2.1 hb' hlo, fun q hq hne _ => ?_, fun q hq => ?_, own_mem hG' app_ne⟩
  · refine (hg'.block q (by simp; omega) hne).trans ((Below.heap_alloc _ _ _ (by omega)).trans ((H2.out.2.2.1.block q (by simp; omega)).trans (Below.heap_alloc _ _ _ hq)))
  · rcases hm' q hq with h | h | h | h
    · exact .inl h
    · exact .inr (.inl h)
    · have := (H2.out.2.1.2 q h).1; simp only [World.size_alloc] at this; exact .inr (.inr (by omega))
    · simp only [World.size_alloc] at h; exact .inr (.inr (by omega))

theorem SpOut.step {lo : Nat} {w w1 w2 : World} {v v1 : Value} {fs0 fs1 : List Nat} {p : F} {e : Ending} (hm : ∀ q ∈ fs1, some q = v.ownBlock ∨ q ∈ fs0 ∨ w.heap.size ≤ q) (ho : ∀ q, v1.ownBlock = some q → q ∈ fs1) (hk : ∀ q, q < w.heap.size → some q ≠ v.ownBlock → q ∉ fs0 → w1.heap[q]? = w.heap[q]?) (hb : Below lo w w1)
    (h : SpOut lo w1 v1 fs1 p e w2) : SpOut lo w v fs0 p e w2 := by
  obtain ⟨v', fs, h1, h2, h3, h4, h5, h6⟩ := h
  have hz := hb.size
  refine ⟨v', fs, h1, h2, hb.trans h3, fun q hq hne hni => ?_, fun q hq => ?_, h6⟩
  · have hni1 : q ∉ fs1 := fun h => by
      rcases hm q h with h | h | h
      · exact hne h
      · exact hni h
      · omega
    exact (h4 q (Nat.lt_of_lt_of_le hq hz) (fun e => hni1 (ho q e.symm)) hni1).trans (hk q hq hne hni)
  · rcases h5 q hq with h | h | h
    · exact hm q (ho q h.symm)
    · exact hm q h
    · exact .inr (.inr (by omega))

set_option maxRecDepth 100000 in
set_option maxHeartbeats 3200000 in
theorem spine_two (w : World) (lo : Nat) (v : Value) (p : F) (fs0 : List Nat) (n : Int) (t : ByteArray) (o1 n1 : Int) (t1 : ByteArray) (k1 : F) (o2 n2 : Int) (t2 : ByteArray) (k2 : F) (P1 P2 : F) (hG : Grow w 25 lo v p fs0)
    (ih1 : ∀ (W : World) (v : Value) (fs0 : List Nat) (a : Option Addr) (cap : Nat) (fs : List Nat), Grow W 25 lo v p fs0 → SubAt W a k1 fs → (∀ c ∈ fs, c < lo) → k1.len ≤ cap → Calls Try.prog 109 #[v, .agg #[.int .i64 o1, .int .i64 n1, .string t1, .slice a k1.len cap]] W (SpOut lo W v fs0 (p.app P1)))
    (ih2 : ∀ (W : World) (v : Value) (fs0 : List Nat) (a : Option Addr) (cap : Nat) (fs : List Nat), Grow W 25 lo v (p.app P1) fs0 → SubAt W a k2 fs → (∀ c ∈ fs, c < lo) → k2.len ≤ cap → Calls Try.prog 109 #[v, .agg #[.int .i64 o2, .int .i64 n2, .string t2, .slice a k2.len cap]] W (SpOut lo W v fs0 ((p.app P1).app P2)))
    (a : Option Addr) (cap : Nat) (fs : List Nat) (hs : SubAt w a (.cons o1 n1 t1 k1 (.cons o2 n2 t2 k2 .nil)) fs) (hfs : ∀ c ∈ fs, c < lo) (hc : 2 ≤ cap) :
    Calls Try.prog 109 #[v, .agg #[.int .i64 7, .int .i64 n, .string t, .slice a 2 cap]] w (SpOut lo w v fs0 ((p.app P1).app P2)) := by
  have hlo := hG.2.2.2
  rcases hs with ⟨h, _⟩ | ⟨b, off, f', rfl, _, rfl, hrow⟩
  · cases h
  have hb0 : b < lo := hfs b (by simp)
  obtain ⟨a1, c1, f1, a2, c2, f2, x0, x1, x2, x3, y0, y1, y2, y3, hc1, hc2, hs1, hs2, rfl⟩ := pair_at hrow
  have H1 := Lib.hid (fun (W : World) (v : Value) (fs0 : List Nat) (e : Below lo w W) (g : Grow W 25 lo v p fs0) => ih1 W v fs0 a1 c1 f1 g (hs1.below (fun c hc => hfs c (by simp [hc])) e) (fun c hc => hfs c (by simp [hc])) hc1)
  have H2 := Lib.hid (fun (W : World) (v : Value) (fs0 : List Nat) (e : Below lo w W) (g : Grow W 25 lo v (p.app P1) fs0) => ih2 W v fs0 a2 c2 f2 g (hs2.below (fun c hc => hfs c (by simp [hc])) e) (fun c hc => hfs c (by simp [hc])) hc2)
  obtain ⟨L1, hL1⟩ : ∃ L, k1.len = L := ⟨_, rfl⟩
  obtain ⟨L2, hL2⟩ : ∃ L, k2.len = L := ⟨_, rfl⟩
  rw [hL1] at x3 H1
  rw [hL2] at y3 H2
  have h8 : Eight8 b off (.int .i64 o1) (.int .i64 n1) (.string t1) (.slice a1 L1 c1) (.int .i64 o2) (.int .i64 n2) (.string t2) (.slice a2 L2 c2) w := ⟨x0, x1, x2, x3, y0, y1, y2, y3⟩
  have H8 := Lib.hid (show ∀ (W : World), Below lo w W → Eight8 b off (.int .i64 o1) (.int .i64 n1) (.string t1) (.slice a1 L1 c1) (.int .i64 o2) (.int .i64 n2) (.string t2) (.slice a2 L2 c2) W from fun W e => by
    obtain ⟨h0, h1, h2, h3, h4, h5, h6, h7⟩ := h8
    exact ⟨(e.cell (p := ⟨_, _, _⟩) hb0).trans h0, (e.cell (p := ⟨_, _, _⟩) hb0).trans h1, (e.cell (p := ⟨_, _, _⟩) hb0).trans h2, (e.cell (p := ⟨_, _, _⟩) hb0).trans h3, (e.cell (p := ⟨_, _, _⟩) hb0).trans h4, (e.cell (p := ⟨_, _, _⟩) hb0).trans h5, (e.cell (p := ⟨_, _, _⟩) hb0).trans h6, (e.cell (p := ⟨_, _, _⟩) hb0).trans h7⟩)
  have HB0 := Lib.hid (And.intro hb0 (And.intro hlo hG))
  have HW := Lib.hid (show ∀ x, Below lo w (w.alloc x) from fun x => (Below.refl lo w).alloc hlo x)
  have hb : b < w.heap.size := Nat.lt_of_lt_of_le hb0 hlo
  have HBX := Lib.hid (show (∀ q, v.ownBlock = some q → q ≠ w.heap.size) ∧ w.heap.size ∉ fs0 from ⟨fun q hq => by have := (hG.own_lt q hq).2; omega, fun h => by have := (hG.fresh.2 _ h).2.1; omega⟩)
  clear hfs hrow hs1 hs2 hc1 hc2 ih1 ih2 h8 hL1 hL2 hG hb0
  go_enter Try.func109, Try.ntmps109
  go_wp2_with fail
  go_region_law (first
    | (go_simp; go_at_call 109; refine (H2.out _ v1 fs1 ((HW.out _).trans HQ1.out.2.2.2.2) HQ1.out.1).mono ?_; rintro e2 w2 ⟨v2, fs2, rfl, hS2⟩; have HS2 := Lib.hid hS2; clear hS2)
    | (go_simp; go_at_call 109; refine (H1.out _ v fs0 (by first | exact (HW.out _).drew | exact HW.out _) (by first | exact (HB0.out.2.2.alloc _).drew | exact HB0.out.2.2.alloc _)).mono ?_; rintro e1 w1 ⟨v1, fs1, rfl, hG1, hB1, hk1, hm1, ho1⟩; have q01 : Below lo (w.alloc (.cells #[.int .i64 7, .int .i64 n, .string t, .slice (some ⟨b, off, none⟩) 2 cap] 25)) w1 := (by first | exact hB1 | exact (Below.refl _ _).drew.trans hB1); have hkk : ∀ q, q < (w.alloc (.cells #[.int .i64 7, .int .i64 n, .string t, .slice (some ⟨b, off, none⟩) 2 cap] 25)).heap.size → some q ≠ v.ownBlock → q ∉ fs0 → w1.heap[q]? = (w.alloc (.cells #[.int .i64 7, .int .i64 n, .string t, .slice (some ⟨b, off, none⟩) 2 cap] 25)).heap[q]? := hk1; have hmm : ∀ q ∈ fs1, some q = v.ownBlock ∨ q ∈ fs0 ∨ (w.alloc (.cells #[.int .i64 7, .int .i64 n, .string t, .slice (some ⟨b, off, none⟩) 2 cap] 25)).heap.size ≤ q := hm1; have z3 := (World.cell?_of_block (a := ⟨w.heap.size, 3, none⟩) (hkk w.heap.size (by simp) (fun e => HBX.out.1 _ e.symm rfl) HBX.out.2)).trans (World.cell?_alloc_new _ _ _ _); simp at z3; obtain ⟨x0, x1, x2, x3, y0, y1, y2, y3⟩ := H8.out w1 ((HW.out _).trans q01); have hb' := Nat.lt_of_lt_of_le HB0.out.1 (Nat.le_trans HB0.out.2.1 ((HW.out _).trans q01).size); have hl1 : w.heap.size < w1.heap.size := (by have := q01.size; simp at this; omega); have HQ1 := Lib.hid (And.intro hG1 (And.intro hmm (And.intro ho1 (And.intro hkk q01)))); clear hG1 hB1 hk1 hm1 ho1 hkk hmm q01))
  all_goals
    go_wp2_with fail
    go_ret
    refine SpOut.step (w1 := w1) (v1 := v1) (fs1 := fs1) (fun q hq => ?_) HQ1.out.2.2.1 (fun q hq hne hni => ?_) ((HW.out _).trans HQ1.out.2.2.2.2) ⟨v2, fs2, rfl, HS2.out⟩
    · rcases HQ1.out.2.1 q hq with h | h | h
      · exact .inl h
      · exact .inr (.inl h)
      · simp only [World.size_alloc] at h; exact .inr (.inr (by omega))
    · exact (HQ1.out.2.2.2.1 q (by simp; omega) hne hni).trans (Below.heap_alloc _ _ _ hq)

/-- what l7Right owes at the documents that are no pair, to a depth -/
def RiOne (m : Nat) : Prop := ∀ (W : World) (o n : Int) (t : ByteArray) (k : F) (a : Option Addr) (cap : Nat) (fs : List Nat), o ≠ 7 → k.deep ≤ m → niceD (o, n, t, k) = true → k.cnt ≤ 10000 → SubAt W a k fs → (∀ c ∈ fs, c < W.heap.size) → k.len ≤ cap →
  Calls Try.prog 73 #[.agg #[.int .i64 o, .int .i64 n, .string t, .slice a k.len cap]] W (NewD W (o, n, t, (pr (fun f => f) k).2))

theorem spine {m : Nat} (R1 : RiOne m) (M : Nat) : M ≤ m → ∀ (w : World) (lo : Nat) (v : Value) (p : F) (fs0 : List Nat) (o n : Int) (t : ByteArray) (k : F) (a : Option Addr) (cap : Nat) (fs : List Nat), k.deep ≤ M → niceD (o, n, t, k) = true → k.cnt ≤ 10000 → p.len + (psD (fun f => f) o n t k).len ≤ 100000 → Grow w 25 lo v p fs0 → SubAt w a k fs → (∀ c ∈ fs, c < lo) → k.len ≤ cap →
    Calls Try.prog 109 #[v, .agg #[.int .i64 o, .int .i64 n, .string t, .slice a k.len cap]] w (SpOut lo w v fs0 (p.app (psD (fun f => f) o n t k))) := by
  induction M with
  | zero =>
    intro _ w lo v p fs0 o n t k a cap fs hd hn hcnt hl hG hs hfs hc
    by_cases h7 : o = 7
    · obtain ⟨x, y, rfl⟩ := kids_two hn h7
      simp only [consD, F.deep] at hd
      omega
    · have e : psD (fun f => f) o n t k = .cons o n t (pr (fun f => f) k).2 .nil := by unfold psD; rw [if_neg h7]
      rw [e]
      exact spine_one w lo v p fs0 o n t k _ h7 hG (by omega) a cap (fun W hW => R1 W o n t k a cap fs h7 (by omega) hn hcnt (hW.sub hs (fun c hc => Nat.lt_of_lt_of_le (hfs c hc) hG.2.2.2)) (fun c hc => Nat.lt_of_lt_of_le (hfs c hc) (Nat.le_trans hG.2.2.2 hW.size)) hc)
  | succ M ih =>
    intro hM w lo v p fs0 o n t k a cap fs hd hn hcnt hl hG hs hfs hc
    by_cases h7 : o = 7
    · subst h7
      have hnk := (nice_kids hn).2
      obtain ⟨⟨o1, n1, t1, k1⟩, ⟨o2, n2, t2, k2⟩, rfl⟩ := kids_two hn rfl
      have hk1 : niceD (o1, n1, t1, k1) = true := by simp only [consD, nice, Bool.and_eq_true] at hnk; exact Bool.and_eq_true_iff.2 hnk.1
      have hk2 : niceD (o2, n2, t2, k2) = true := by simp only [consD, nice, Bool.and_eq_true] at hnk; exact Bool.and_eq_true_iff.2 hnk.2.1
      have e : psD (fun f => f) 7 n t (consD (o1, n1, t1, k1) (consD (o2, n2, t2, k2) .nil)) = (psD (fun f => f) o1 n1 t1 k1).app (psD (fun f => f) o2 n2 t2 k2) := by
        show (psD (fun f => f) o1 n1 t1 k1).app ((psD (fun f => f) o2 n2 t2 k2).app .nil) = _
        rw [F.app_nil]
      rw [e, F.len_app] at hl
      simp only [consD, F.deep, F.cnt] at hd hcnt
      rw [e, ← F.app_assoc]
      exact spine_two w lo v p fs0 n t o1 n1 t1 k1 o2 n2 t2 k2 _ _ hG
        (fun W v fs0 a cap fs g hs hfs hc => ih (by omega) W lo v p fs0 o1 n1 t1 k1 a cap fs (by omega) hk1 (by omega) (by omega) g hs hfs hc)
        (fun W v fs0 a cap fs g hs hfs hc => ih (by omega) W lo v _ fs0 o2 n2 t2 k2 a cap fs (by omega) hk2 (by omega) (by rw [F.len_app]; omega) g hs hfs hc) a cap fs hs hfs hc
    · have e : psD (fun f => f) o n t k = .cons o n t (pr (fun f => f) k).2 .nil := by unfold psD; rw [if_neg h7]
      rw [e]
      exact spine_one w lo v p fs0 o n t k _ h7 hG (by omega) a cap (fun W hW => R1 W o n t k a cap fs h7 (by omega) hn hcnt (hW.sub hs (fun c hc => Nat.lt_of_lt_of_le (hfs c hc) hG.2.2.2)) (fun c hc => Nat.lt_of_lt_of_le (hfs c hc) (Nat.le_trans hG.2.2.2 hW.size)) hc)

end Go.Proofs.Ytafhefmjnjibdaa.Nf

