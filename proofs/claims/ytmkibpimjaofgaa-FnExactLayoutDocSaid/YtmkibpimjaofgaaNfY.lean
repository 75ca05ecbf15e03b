import Derived.Test.YtmkibpimjaofgaaNfX
import Derived.Test.YtmkibpimjaofgaaPl
import Derived.Test.YtmkibpimjaofgaaNfB
import Derived.Test.YtmkibpimjaofgaaDrX
/-
  The model's l7Spine: the parts of a document's row, each turned to the right.
-/
set_option linter.unusedVariables false
set_option linter.unusedSimpArgs false
namespace Go.Proofs.Ytmkibpimjaofgaa.Nf
open Go.RowKit P1 Copy

/-- a row that has grown by parts: only its own block is written, and what it takes up is new -/
def SpOut (lo : Nat) (w : World) (v : Value) (fs0 : List Nat) (p : F) (e : Ending) (w' : World) : Prop := ∃ (v' : Value) (fs : List Nat), e = .returned v' ∧ Grow w' 29 lo v' p fs ∧ Below lo w w' ∧
  (∀ q, q < w.heap.size → some q ≠ v.ownBlock → q ∉ fs0 → w'.heap[q]? = w.heap[q]?) ∧ (∀ q ∈ fs, some q = v.ownBlock ∨ q ∈ fs0 ∨ w.heap.size ≤ q) ∧ (∀ q, v'.ownBlock = some q → q ∈ fs)
theorem own_mem {w : World} {T : TypeId} {lo : Nat} {v : Value} {p : F} {fs : List Nat} (h : Grow w T lo v p fs) (hp : p ≠ .nil) : ∀ q, v.ownBlock = some q → q ∈ fs := by
  intro q hq
  rcases h.2.1 with ⟨h, _⟩ | ⟨b, cap, f', rfl, _, rfl, _⟩
  · exact absurd h hp
  · simp only [Value.ownBlock, Option.some.injEq] at hq
    subst hq; simp
theorem app_ne {p : F} {o n : Int} {t : ByteArray} {k r : F} : p.app (.cons o n t k r) ≠ .nil := by
  intro e
  have := congrArg F.len e
  rw [F.len_app] at this
  simp only [F.len] at this
  omega

set_option maxRecDepth 100000 in
set_option maxHeartbeats 1600000 in
theorem spine_one (w : World) (lo : Nat) (v : Value) (p : F) (fs0 : List Nat) (o n : Int) (t : ByteArray) (k k2 : F) (h7 : o ≠ 7) (hG : Grow w 29 lo v p fs0) (hl : p.len ≤ 100000) (a : Option Addr) (cap : Nat)
    (ih : ∀ W : World, Ext w W → Calls Try.prog 198 #[.agg #[.int .i64 o, .int .i64 n, .string t, .slice a k.len cap]] W (NewD W (o, n, t, k2))) :
    Calls Try.prog 183 #[v, .agg #[.int .i64 o, .int .i64 n, .string t, .slice a k.len cap]] w (SpOut lo w v fs0 (p.app (.cons o n t k2 .nil))) := by
  obtain ⟨i0, hi, hz0, hz1, hz2⟩ := info_parts To.info
  have HI := Lib.hid (And.intro hi (And.intro hz0 (And.intro hz1 hz2)))
  obtain ⟨L, hL⟩ : ∃ L, k.len = L := ⟨_, rfl⟩
  rw [hL] at ih ⊢
  have q7 : (o != 7) = true := by simpa using h7
  have HD := Lib.hid (fun ob => ih (w.alloc ob) ((Ext.refl w).alloc ob))
  have H := Lib.hid (And.intro hG hl)
  have hlo := hG.2.2.2
  clear ih hi hz0 hz1 hz2 hL h7 hG hl
  go_enter Try.func183, Try.ntmps183
  go_wp2_with (first
    | (go_at_call 198; refine (HD.out _).mono ?_; rintro e1 w1 ⟨a2, cap2, f2, rfl, hc2, hs2, hfr2, hb2⟩; simp only at hc2 hs2 ⊢; have hstep := fun (ob : Obj) => copy_mid (w1 := w1) (ob := ob) H.out.1 hb2; have H2 := Lib.hid (And.intro hs2 (And.intro hfr2 (And.intro hb2 hc2))); clear hs2 hfr2 hb2 hc2; have HST := Lib.hid hstep; clear hstep)
    | (at_builtin; refine append_doc2 rfl (.tmp 8) (.tmp 11) 27 rfl Try.underlying27 HI.out.1 HI.out.2.1 HI.out.2.2.1 HI.out.2.2.2 rfl rfl (HST.out _).1 (d := w1.heap.size) (c := 1) rfl (cell_new w1 _ _ 0 _ rfl) (cell_new w1 _ _ 1 _ rfl) (cell_new w1 _ _ 2 _ rfl) (cell_new w1 _ _ 3 _ rfl) H2.out.2.2.2 (H2.out.1.below H2.out.2.1.lt ((Below.refl _ _).alloc (Nat.le_refl _) _)) (H2.out.2.1.below H2.out.2.1.lt ((Below.refl _ _).alloc (Nat.le_refl _) _)) (HST.out (.cells #[] 0)).2.1 (HST.out (.cells #[] 0)).2.2.1 (HST.out (.cells #[] 0)).2.2.2.1 (by have := H.out.2; omega) ?_; intro v' w2 fs' hG' hb' hg' hm'))
  go_ret
  have hz1 := H2.out.2.2.1.size
  simp only [World.size_alloc] at hz1
  refine ⟨v', fs', rfl, hG', copy_end H2.out.2.2.1 hb' hlo, fun q hq hne _ => ?_, fun q hq => ?_, own_mem hG' app_ne⟩
  · refine (hg'.block q (by simp; omega) hne).trans ((Below.heap_alloc _ _ _ (by omega)).trans ((H2.out.2.2.1.block q (by simp; omega)).trans (Below.heap_alloc _ _ _ hq)))
  · rcases hm' q hq with h | h | h | h
    · exact .inl h
    · exact .inr (.inl h)
    · have := (H2.out.2.1.2 q h).1; simp only [World.size_alloc] at this; exact .inr (.inr (by omega))
    · simp only [World.size_alloc] at h; exact .inr (.inr (by omega))

theorem SpOut.step {lo : Nat} {w w1 w2 : World} {v v1 : Value} {fs0 fs1 : List Nat} {p : F} {e : Ending} (hm : ∀ q ∈ fs1, some q = v.ownBlock ∨ q ∈ fs0 ∨ w.heap.size ≤ q) (ho : ∀ q, v1.ownBlock = some q → q ∈ fs1) (hk : ∀ q, q < w.heap.size → some q ≠ v.ownBlock → q ∉ fs0 → w1.heap[q]? = w.heap[q]?) (hb : Below lo w w1)
    (h : SpOut lo w1 v1 fs1 p e w2) : SpOut lo w v fs0 p e w2 := by
  obtain ⟨v', fs, h1, h2, h3, h4, h5, h6⟩ := h
  have hz := hb.size
  refine ⟨v', fs, h1, h2, hb.trans h3, fun q hq hne hni => ?_, fun q hq => ?_, h6⟩
  · have hni1 : q ∉ fs1 := fun h => by
      rcases hm q h with h | h | h
      · exact hne h
      · exact hni h
      · omega
    exact (h4 q (Nat.lt_of_lt_of_le hq hz) (fun e => hni1 (ho q e.symm)) hni1).trans (hk q hq hne hni)
  · rcases h5 q hq with h | h | h
    · exact hm q (ho q h.symm)
    · exact hm q h
    · exact .inr (.inr (by omega))

set_option maxRecDepth 100000 in
set_option maxHeartbeats 3200000 in
theorem spine_two (w : World) (lo : Nat) (v : Value) (p : F) (fs0 : List Nat) (n : Int) (t : ByteArray) (o1 n1 : Int) (t1 : ByteArray) (k1 : F) (o2 n2 : Int) (t2 : ByteArray) (k2 : F) (P1 P2 : F) (hG : Grow w 29 lo v p fs0)
    (ih1 : ∀ (W : World) (v : Value) (fs0 : List Nat) (a : Option Addr) (cap : Nat) (fs : List Nat), Grow W 29 lo v p fs0 → SubAt W a k1 fs → (∀ c ∈ fs, c < lo) → k1.len ≤ cap → Calls Try.prog 183 #[v, .agg #[.int .i64 o1, .int .i64 n1, .string t1, .slice a k1.len cap]] W (SpOut lo W v fs0 (p.app P1)))
    (ih2 : ∀ (W : World) (v : Value) (fs0 : List Nat) (a : Option Addr) (cap : Nat) (fs : List Nat), Grow W 29 lo v (p.app P1) fs0 → SubAt W a k2 fs → (∀ c ∈ fs, c < lo) → k2.len ≤ cap → Calls Try.prog 183 #[v, .agg #[.int .i64 o2, .int .i64 n2, .string t2, .slice a k2.len cap]] W (SpOut lo W v fs0 ((p.app P1).app P2)))
    (a : Option Addr) (cap : Nat) (fs : List Nat) (hs : SubAt w a (.cons o1 n1 t1 k1 (.cons o2 n2 t2 k2 .nil)) fs) (hfs : ∀ c ∈ fs, c < lo) (hc : 2 ≤ cap) :
    Calls Try.prog 183 #[v, .agg #[.int .i64 7, .int .i64 n, .string t, .slice a 2 cap]] w (SpOut lo w v fs0 ((p.app P1).app P2)) := by
  have hlo := hG.2.2.2
  rcases hs with ⟨h, _⟩ | ⟨b, off, f', rfl, _, rfl, hrow⟩
  · cases h
  have hb0 : b < lo := hfs b (by simp)
  obtain ⟨a1, c1, f1, a2, c2, f2, x0, x1, x2, x3, y0, y1, y2, y3, hc1, hc2, hs1, hs2, rfl⟩ := pair_at hrow
  have H1 := Lib.hid (fun (W : World) (v : Value) (fs0 : List Nat) (e : Below lo w W) (g : Grow W 29 lo v p fs0) => ih1 W v fs0 a1 c1 f1 g (hs1.below (fun c hc => hfs c (by simp [hc])) e) (fun c hc => hfs c (by simp [hc])) hc1)
  have H2 := Lib.hid (fun (W : World) (v : Value) (fs0 : List Nat) (e : Below lo w W) (g : Grow W 29 lo v (p.app P1) fs0) => ih2 W v fs0 a2 c2 f2 g (hs2.below (fun c hc => hfs c (by simp [hc])) e) (fun c hc => hfs c (by simp [hc])) hc2)
  obtain ⟨L1, hL1⟩ : ∃ L, k1.len = L := ⟨_, rfl⟩
  obtain ⟨L2, hL2⟩ : ∃ L, k2.len = L := ⟨_, rfl⟩
  rw [hL1] at x3 H1
  rw [hL2] at y3 H2
  have h8 : Eight8 b off (.int .i64 o1) (.int .i64 n1) (.string t1) (.slice a1 L1 c1) (.int .i64 o2) (.int .i64 n2) (.string t2) (.slice a2 L2 c2) w := ⟨x0, x1, x2, x3, y0, y1, y2, y3⟩
  have H8 := Lib.hid (show ∀ (W : World), Below lo w W → Eight8 b off (.int .i64 o1) (.int .i64 n1) (.string t1) (.slice a1 L1 c1) (.int .i64 o2) (.int .i64 n2) (.string t2) (.slice a2 L2 c2) W from fun W e => by
    obtain ⟨h0, h1, h2, h3, h4, h5, h6, h7⟩ := h8
    exact ⟨(e.cell (p := ⟨_, _, _⟩) hb0).trans h0, (e.cell (p := ⟨_, _, _⟩) hb0).trans h1, (e.cell (p := ⟨_, _, _⟩) hb0).trans h2, (e.cell (p := ⟨_, _, _⟩) hb0).trans h3, (e.cell (p := ⟨_, _, _⟩) hb0).trans h4, (e.cell (p := ⟨_, _, _⟩) hb0).trans h5, (e.cell (p := ⟨_, _, _⟩) hb0).trans h6, (e.cell (p := ⟨_, _, _⟩) hb0).trans h7⟩)
  have HB0 := Lib.hid (And.intro hb0 (And.intro hlo hG))
  have HW := Lib.hid (show ∀ x, Below lo w (w.alloc x) from fun x => (Below.refl lo w).alloc hlo x)
  have hb : b < w.heap.size := Nat.lt_of_lt_of_le hb0 hlo
  have HBX := Lib.hid (show (∀ q, v.ownBlock = some q → q ≠ w.heap.size) ∧ w.heap.size ∉ fs0 from ⟨fun q hq => by have := (hG.own_lt q hq).2; omega, fun h => by have := (hG.fresh.2 _ h).2.1; omega⟩)
  clear hfs hrow hs1 hs2 hc1 hc2 ih1 ih2 h8 hL1 hL2 hG hb0
  go_enter Try.func183, Try.ntmps183
  go_wp2_with fail
  go_region_law (first
    | (go_simp; go_at_call 183; refine (H2.out _ v1 fs1 ((HW.out _).trans HQ1.out.2.2.2.2) HQ1.out.1).mono ?_; rintro e2 w2 ⟨v2, fs2, rfl, hS2⟩; have HS2 := Lib.hid hS2; clear hS2)
    | (go_simp; go_at_call 183; refine (H1.out _ v fs0 (by first | exact (HW.out _).drew | exact HW.out _) (by first | exact (HB0.out.2.2.alloc _).drew | exact HB0.out.2.2.alloc _)).mono ?_; rintro e1 w1 ⟨v1, fs1, rfl, hG1, hB1, hk1, hm1, ho1⟩; have q01 : Below lo (w.alloc (.cells #[.int .i64 7, .int .i64 n, .string t, .slice (some ⟨b, off, none⟩) 2 cap] 29)) w1 := (by first | exact hB1 | exact (Below.refl _ _).drew.trans hB1); have hkk : ∀ q, q < (w.alloc (.cells #[.int .i64 7, .int .i64 n, .string t, .slice (some ⟨b, off, none⟩) 2 cap] 29)).heap.size → some q ≠ v.ownBlock → q ∉ fs0 → w1.heap[q]? = (w.alloc (.cells #[.int .i64 7, .int .i64 n, .string t, .slice (some ⟨b, off, none⟩) 2 cap] 29)).heap[q]? := hk1; have hmm : ∀ q ∈ fs1, some q = v.ownBlock ∨ q ∈ fs0 ∨ (w.alloc (.cells #[.int .i64 7, .int .i64 n, .string t, .slice (some ⟨b, off, none⟩) 2 cap] 29)).heap.size ≤ q := hm1; have z3 := (World.cell?_of_block (a := ⟨w.heap.size, 3, none⟩) (hkk w.heap.size (by simp) (fun e => HBX.out.1 _ e.symm rfl) HBX.out.2)).trans (World.cell?_alloc_new _ _ _ _); simp at z3; obtain ⟨x0, x1, x2, x3, y0, y1, y2, y3⟩ := H8.out w1 ((HW.out _).trans q01); have hb' := Nat.lt_of_lt_of_le HB0.out.1 (Nat.le_trans HB0.out.2.1 ((HW.out _).trans q01).size); have hl1 : w.heap.size < w1.heap.size := (by have := q01.size; simp at this; omega); have HQ1 := Lib.hid (And.intro hG1 (And.intro hmm (And.intro ho1 (And.intro hkk q01)))); clear hG1 hB1 hk1 hm1 ho1 hkk hmm q01))
  all_goals
    go_wp2_with fail
    go_ret
    refine SpOut.step (w1 := w1) (v1 := v1) (fs1 := fs1) (fun q hq => ?_) HQ1.out.2.2.1 (fun q hq hne hni => ?_) ((HW.out _).trans HQ1.out.2.2.2.2) ⟨v2, fs2, rfl, HS2.out⟩
    · rcases HQ1.out.2.1 q hq with h | h | h
      · exact .inl h
      · exact .inr (.inl h)
      · simp only [World.size_alloc] at h; exact .inr (.inr (by omega))
    · exact (HQ1.out.2.2.2.1 q (by simp; omega) hne hni).trans (Below.heap_alloc _ _ _ hq)

/-- what l7Right owes at the documents that are no pair, to a depth -/
def RiOne (m : Nat) : Prop := ∀ (W : World) (o n : Int) (t : ByteArray) (k : F) (a : Option Addr) (cap : Nat) (fs : List Nat), o ≠ 7 → k.deep ≤ m → niceD (o, n, t, k) = true → k.cnt ≤ 10000 → SubAt W a k fs → (∀ c ∈ fs, c < W.heap.size) → k.len ≤ cap →
  Calls Try.prog 198 #[.agg #[.int .i64 o, .int .i64 n, .string t, .slice a k.len cap]] W (NewD W (o, n, t, (pr (fun f => f) k).2))

theorem spine {m : Nat} (R1 : RiOne m) (M : Nat) : M ≤ m → ∀ (w : World) (lo : Nat) (v : Value) (p : F) (fs0 : List Nat) (o n : Int) (t : ByteArray) (k : F) (a : Option Addr) (cap : Nat) (fs : List Nat), k.deep ≤ M → niceD (o, n, t, k) = true → k.cnt ≤ 10000 → p.len + (psD (fun f => f) o n t k).len ≤ 100000 → Grow w 29 lo v p fs0 → SubAt w a k fs → (∀ c ∈ fs, c < lo) → k.len ≤ cap →
    Calls Try.prog 183 #[v, .agg #[.int .i64 o, .int .i64 n, .string t, .slice a k.len cap]] w (SpOut lo w v fs0 (p.app (psD (fun f => f) o n t k))) := by
  induction M with
  | zero =>
    intro _ w lo v p fs0 o n t k a cap fs hd hn hcnt hl hG hs hfs hc
    by_cases h7 : o = 7
    · obtain ⟨x, y, rfl⟩ := kids_two hn h7
      simp only [consD, F.deep] at hd
      omega
    · have e : psD (fun f => f) o n t k = .cons o n t (pr (fun f => f) k).2 .nil := by unfold psD; rw [if_neg h7]
      rw [e]
      exact spine_one w lo v p fs0 o n t k _ h7 hG (by omega) a cap (fun W hW => R1 W o n t k a cap fs h7 (by omega) hn hcnt (hW.sub hs (fun c hc => Nat.lt_of_lt_of_le (hfs c hc) hG.2.2.2)) (fun c hc => Nat.lt_of_lt_of_le (hfs c hc) (Nat.le_trans hG.2.2.2 hW.size)) hc)
  | succ M ih =>
    intro hM w lo v p fs0 o n t k a cap fs hd hn hcnt hl hG hs hfs hc
    by_cases h7 : o = 7
    · subst h7
      have hnk := (nice_kids hn).2
      obtain ⟨⟨o1, n1, t1, k1⟩, ⟨o2, n2, t2, k2⟩, rfl⟩ := kids_two hn rfl
      have hk1 : niceD (o1, n1, t1, k1) = true := by simp only [consD, nice, Bool.and_eq_true] at hnk; exact Bool.and_eq_true_iff.2 hnk.1
      have hk2 : niceD (o2, n2, t2, k2) = true := by simp only [consD, nice, Bool.and_eq_true] at hnk; exact Bool.and_eq_true_iff.2 hnk.2.1
      have e : psD (fun f => f) 7 n t (consD (o1, n1, t1, k1) (consD (o2, n2, t2, k2) .nil)) = (psD (fun f => f) o1 n1 t1 k1).app (psD (fun f => f) o2 n2 t2 k2) := by
        show (psD (fun f => f) o1 n1 t1 k1).app ((psD (fun f => f) o2 n2 t2 k2).app .nil) = _
        rw [F.app_nil]
      rw [e, F.len_app] at hl
      simp only [consD, F.deep, F.cnt] at hd hcnt
      rw [e, ← F.app_assoc]
      exact spine_two w lo v p fs0 n t o1 n1 t1 k1 o2 n2 t2 k2 _ _ hG
        (fun W v fs0 a cap fs g hs hfs hc => ih (by omega) W lo v p fs0 o1 n1 t1 k1 a cap fs (by omega) hk1 (by omega) (by omega) g hs hfs hc)
        (fun W v fs0 a cap fs g hs hfs hc => ih (by omega) W lo v _ fs0 o2 n2 t2 k2 a cap fs (by omega) hk2 (by omega) (by rw [F.len_app]; omega) g hs hfs hc) a cap fs hs hfs hc
    · have e : psD (fun f => f) o n t k = .cons o n t (pr (fun f => f) k).2 .nil := by unfold psD; rw [if_neg h7]
      rw [e]
      exact spine_one w lo v p fs0 o n t k _ h7 hG (by omega) a cap (fun W hW => R1 W o n t k a cap fs h7 (by omega) hn hcnt (hW.sub hs (fun c hc => Nat.lt_of_lt_of_le (hfs c hc) hG.2.2.2)) (fun c hc => Nat.lt_of_lt_of_le (hfs c hc) (Nat.le_trans hG.2.2.2 hW.size)) hc)

end Go.Proofs.Ytmkibpimjaofgaa.Nf

/-
  The model's l7Right at a document that is no pair.
-/
set_option linter.unusedVariables false
set_option linter.unusedSimpArgs false
namespace Go.Proofs.Ytmkibpimjaofgaa.Nf
open Go.RowKit P1 Copy CatD

/-- the contract of l7Right at the documents of a list -/
def RiS (f : F) : Prop := ∀ (w : World) (o n : Int) (t : ByteArray) (k : F) (p r : F) (a : Option Addr) (cap : Nat) (fs : List Nat), f = p.app (.cons o n t k r) → nice f = true → f.cnt ≤ 10000 → SubAt w a k fs → (∀ c ∈ fs, c < w.heap.size) → k.len ≤ cap →
  Calls Try.prog 198 #[.agg #[.int .i64 o, .int .i64 n, .string t, .slice a k.len cap]] w (NewD w (rowD (fun f => f) o n t k))

set_option maxRecDepth 100000 in
set_option maxHeartbeats 3200000 in
theorem ri_one (w : World) (o n : Int) (t : ByteArray) (k : F) (ih : RiS k) (hn : niceD (o, n, t, k) = true) (hcnt : k.cnt ≤ 10000) (a : Option Addr) (cap : Nat) (fs : List Nat) (hs : SubAt w a k fs) (hfs : ∀ c ∈ fs, c < w.heap.size) (hc : k.len ≤ cap) (h7 : o ≠ 7) :
    Calls Try.prog 198 #[.agg #[.int .i64 o, .int .i64 n, .string t, .slice a k.len cap]] w (NewD w (o, n, t, mapL (rowD (fun f => f)) k)) := by
  have hnk : nice k = true := (nice_kids hn).2
  obtain ⟨φ, hφφ⟩ : ∃ φ, rowD (fun f => f) = φ := ⟨_, rfl⟩
  have ih := fun (w : World) (o n : Int) (t : ByteArray) (k1 : F) (p r : F) (a : Option Addr) (cap : Nat) (fs : List Nat) (h : k = p.app (.cons o n t k1 r)) => ih w o n t k1 p r a cap fs h hnk hcnt
  rw [hφφ] at ih
  rw [hφφ]
  have q7 : (o == 7) = false := by rw [beq_eq_false_iff_ne]; exact h7
  obtain ⟨i0, hi, hz0, hz1, hz2⟩ := info_parts To.info
  obtain ⟨L, hL⟩ : ∃ L, k.len = L := ⟨_, rfl⟩
  rw [hL] at hc ⊢
  have HL := Lib.hid hL
  have HML := Lib.hid (show (mapL φ k).len = L by rw [len_mapL, hL])
  have hL4 : L ≤ 4194304 := by have := F.len_le_cnt k; omega
  clear hL
  have hsub : 0 < L → ∃ b off f', a = some ⟨b, off, none⟩ ∧ RowAt w k b off f' ∧ b < w.heap.size ∧ ∀ c ∈ f', c < w.heap.size := by
    intro h0
    rcases hs with ⟨rfl, rfl⟩ | ⟨b, off, f', rfl, hnil, rfl, hrow⟩
    · have := HL.out; simp only [F.len] at this; omega
    · exact ⟨b, off, f', rfl, hrow, hfs b (by simp), fun c hc => hfs c (by simp [hc])⟩
  have HSUB := Lib.hid hsub
  have IH := Lib.hid ih
  have HI := Lib.hid (And.intro hi (And.intro hz0 (And.intro hz1 hz2)))
  have HST := Lib.hid (kd_start w o n t (.slice a L cap) φ k 29)
  clear hsub hs hfs ih hi hz0 hz1 hz2 hnk hn hcnt
  go_enter Try.func198, Try.ntmps198
  go_wp2_with fail
  go_loopw [6, 7] (fun v i wr => KdAt w o n t (.slice a L cap) φ k v i wr) (fun _ i _ => L - (intOf i).toNat)
  case atStart => exact HST.out
  case round =>
    obtain ⟨j, p, g, fs1, rfl, h3, h5, hG, hbw, hfv, hzb⟩ := hrel
    have h7 : g.len = L - j := by have := HL.out; rw [h3, F.len_app, h5] at this; omega
    have hjL0 : j ≤ L := by have := HL.out; rw [h3, F.len_app, h5] at this; omega
    obtain ⟨x0, x1, x2, x3⟩ := hfv
    have hsz0 : w.heap.size + 1 < wr.heap.size := hzb.2.2
    cases g with
    | nil =>
      have hjL : L = j := by simp only [F.len] at h7; omega
      subst hjL
      rw [F.app_nil] at h3
      subst h3
      obtain ⟨a', cap', rfl, hcap', hsub', hcm⟩ := hG.slice
      obtain ⟨⟨z0, z1, z2, z3⟩, ⟨z4, z5, z6, z7⟩, z8⟩ := hzb
      have HQ := Lib.hid (And.intro hsub' (And.intro hG.fresh (And.intro hbw hcap')))
      clear hG hbw hsub' h7 hcm hcap' h5 hjL0
      rw [HML.out]
      have hsubK := HQ.out.1
      have hl0 : w.heap.size < wr.heap.size := by omega
      have HZB := Lib.hid (show ZBox wr (w.heap.size + 1) from ⟨⟨z0, z1, z2, z3⟩, ⟨z4, z5, z6, z7⟩, z8⟩)
      go_wp2_with (first
        | (go_at_call 185; refine (specEmpty _ _ _ _ _ _ _).mono ?_; rintro e1 w3 ⟨rfl, rfl⟩)
        | (go_at_call 142; refine (specMap _ _ _ _ _ _ _ _ _ _).mono ?_; rintro e1 w3 ⟨rfl, hb3⟩; have q3 : Ext wr w3 := (by first | exact hb3 | exact ((Ext.refl wr).alloc _).trans hb3 | exact (((Ext.refl wr).alloc _).alloc _).trans hb3); obtain ⟨⟨z0, z1, z2, z3⟩, ⟨z4, z5, z6, z7⟩, z8⟩ := HZB.out.ext q3))
      refine bodyPost_ret (v := .agg #[.int .i64 o, .int .i64 n, .string t, .slice a' L cap']) (by simp [results, Try.results198, go_sem, z0, z1, z2, z3, z4, z5, z6, z7, z8, hl0]) rfl ?_
      obtain ⟨hs9, hF9, _, hc9⟩ := HQ.out
      refine end_but (x := w.heap.size + 1) (lo := w.heap.size + 2) (w3 := wr) HML.out hs9 hF9 hc9 (by omega) (by omega) HQ.out.2.2.1 (by repeat (first | exact But.of_below q3 | exact But.refl _ _ _ | refine But.setCell ?_ (Or.inl (by rfl)) _ | refine But.alloc ?_ (by simp) _))
    | cons o1 n1 t1 k1 r1 =>
      have hjL : j < L := by simp only [F.len] at h7; omega
      obtain ⟨b, off, f', rfl, hrow, hbB, hfB⟩ := HSUB.out (by omega)
      rw [h3] at hrow
      obtain ⟨a1, cap1, f1, c0, c1, c2, c3, hc1', hsub1, hin⟩ := row_at hrow
      rw [h5] at c0 c1 c2 c3
      rw [← hbw.cell (p := ⟨_, _, _⟩) hbB] at c0 c1 c2 c3
      have hd := fun (W1 : World) (hw1 : Ext wr W1) => IH.out W1 o1 n1 t1 k1 p r1 a1 cap1 f1 h3 (hsub1.below (fun c hc => hfB c (hin c hc)) (hbw.trans (hw1.mono hbw.size))) (fun c hc => Nat.lt_of_lt_of_le (hfB c (hin c hc)) (Nat.le_trans hbw.size hw1.size)) hc1'
      obtain ⟨⟨o2, n2, t2, k2⟩, hφ⟩ : ∃ d : D, φ o1 n1 t1 k1 = d := ⟨_, rfl⟩
      rw [hφ] at hd
      have HD := Lib.hid hd
      have H := Lib.hid (And.intro h3 (And.intro h5 (And.intro hG (And.intro hbw hzb))))
      have HF := Lib.hid hφ
      have i0' : (0 : Int) ≤ (j : Int) := Int.natCast_nonneg _
      have i1 : (j : Int) < (L : Int) := by omega
      have HX := Lib.hid (show Four w.heap.size (.int .i64 o) (.int .i64 n) (.string t) (.slice (some ⟨b, off, none⟩) L cap) wr from ⟨x0, x1, x2, x3⟩)
      clear hd h3 h5 h7 hbw hrow hG hφ hzb
      go_wp2_with (first
        | (go_at_call 198; refine (HD.out _ (by exact Ext.refl _)).mono ?_; rintro e1 w1 ⟨a2, cap2, f2, rfl, hc2, hs2, hfr2, hb2⟩; have HST2 := Lib.hid (fun ob => mid_d (ob := ob) H.out.2.2.1 hb2); have H2 := Lib.hid (And.intro hs2 (And.intro hfr2 (And.intro hb2 hc2))); clear hs2 hfr2 hb2 hc2 c0 c1 c2 c3)
        | (at_builtin; refine append_doc rfl (.tmp 42) (.tmp 49) 27 rfl Try.underlying27 HI.out.1 HI.out.2.1 HI.out.2.2.1 HI.out.2.2.2 rfl rfl (HST2.out _).1 (d := w1.heap.size) (c := 1) rfl (cell_new w1 _ _ 0 _ rfl) (cell_new w1 _ _ 1 _ rfl) (cell_new w1 _ _ 2 _ rfl) (cell_new w1 _ _ 3 _ rfl) H2.out.2.2.2 (H2.out.1.below H2.out.2.1.lt ((Below.refl _ _).alloc (Nat.le_refl _) _)) (H2.out.2.1.below H2.out.2.1.lt ((Below.refl _ _).alloc (Nat.le_refl _) _)) (HST2.out (.cells #[] 0)).2.1 (HST2.out (.cells #[] 0)).2.2.1 (HST2.out (.cells #[] 0)).2.2.2.1 (by rw [len_mapL]; have := H.out.2.1; omega) ?_; intro v' w2 fs' hG' hb' hg'))
      go_roundw
      case rel =>
        obtain ⟨h3, h5, hG, hbw, hzb⟩ := H.out
        have hch := mid_end H2.out.2.2.1 hb' hG.2.2.2
        refine ⟨j + 1, p.app (.cons o1 n1 t1 k1 .nil), r1, fs', by go_num, by rw [h3, F.app_assoc]; rfl, by rw [F.len_app, h5]; rfl, ?_, hbw.trans (hch.mono (by omega)), HX.out.below hch (by omega), zbox_below hzb hch (by omega)⟩
        rw [mapL_app, show mapL φ (.cons o1 n1 t1 k1 .nil) = .cons o2 n2 t2 k2 .nil by rw [mapL, HF.out]; rfl]
        exact hG'
      case measure => simp [intOf]; omega

theorem ri_oneOf {m : Nat} (ih : ∀ f : F, f.deep ≤ m → RiS f) : RiOne m := by
  intro W o n t k a cap fs h7 hd hn hc hs hfs hcap
  rw [pr_map]
  exact ri_one W o n t k (ih k hd) hn hc a cap fs hs hfs hcap h7

end Go.Proofs.Ytmkibpimjaofgaa.Nf

/-
  The model's l7Right at a pair.
-/
set_option linter.unusedVariables false
set_option linter.unusedSimpArgs false
namespace Go.Proofs.Ytmkibpimjaofgaa.Nf
open Go.RowKit P1 Copy CatD

/-- what holds when j parts have been joined in front of the last: w1: the world behind l7Spine, J: the variable -/
structure RpI (w1 : World) (lo : Nat) (p : F) (d : D) (b J : Nat) (p' g : F) (a : Option Addr) (c : Nat) (fp fJ : List Nat) (A : World) : Prop where
  split : p = p'.app g
  row : RowAt w1 p' b 0 fp
  var : DVar A J (catOn g d) a c
  sub : SubAt A a (catOn g d).2.2.2 fJ
  cap : (catOn g d).2.2.2.len ≤ c
  fresh : Fresh lo A (fp ++ fJ)
  old : ∀ q ∈ fp, q < w1.heap.size
  apart : ∀ q ∈ fJ, q ≠ J
  ext : Ext w1 A

/-- one more part in front -/
theorem RpI.round {w1 W X : World} {lo b J cJ c1 b2 : Nat} {p p1 p' g k1 kJ : F} {d : D} {aJ a1 : Option Addr} {fp f1 fJ : List Nat} {o1 n1 oJ nJ : Int} {t1 tJ : ByteArray} (h : RpI w1 lo p d b J p' g aJ cJ (fp ++ f1) fJ W) (hp : p' = p1.app (.cons o1 n1 t1 k1 .nil)) (hrow : RowAt w1 p1 b 0 fp)
    (hJ : w1.heap.size ≤ J) (hlo : lo ≤ w1.heap.size) (hd : catOn g d = (oJ, nJ, tJ, kJ)) (hz : W.heap.size ≤ X.heap.size) (hXo : ∀ q, q < W.heap.size → q ≠ J → X.heap[q]? = W.heap[q]?) (hXJ : X.heap[J]? = some (.cells #[.int .i64 7, .int .i64 0, .string ⟨#[]⟩, .slice (some ⟨b2, 0, none⟩) 2 2] 29 (0, 0))) (hXe : Ext w1 X)
    (hr2 : RowAt X (.cons o1 n1 t1 k1 (.cons oJ nJ tJ kJ .nil)) b2 0 (f1 ++ fJ)) (hb2 : W.heap.size ≤ b2) (hb2' : b2 < X.heap.size) (hf2 : ∀ o, X.frozen? ⟨b2, o, none⟩ = false) :
    RpI w1 lo p d b J p1 (.cons o1 n1 t1 k1 g) (some ⟨b2, 0, none⟩) 2 fp (b2 :: (f1 ++ fJ)) X := by
  have hfr := h.fresh
  have hJW : J < W.heap.size := (Array.getElem?_eq_some_iff.1 h.var).1
  have hall : ∀ q ∈ (fp ++ f1) ++ fJ, q < W.heap.size ∧ q ≠ J := fun q hq => ⟨(hfr.2 q hq).2.1, by
    rcases List.mem_append.1 hq with hq | hq
    · have := h.old q hq; omega
    · exact h.apart q hq⟩
  refine ⟨by rw [h.split, hp, F.app_assoc]; rfl, hrow, hXJ, ?_, Nat.le_refl 2, ⟨?_, fun q hq => ?_⟩, fun q hq => h.old q (by simp [hq]), ?_, hXe⟩
  · show SubAt X _ (.cons o1 n1 t1 k1 (consD (catOn g d) .nil)) _
    rw [hd]
    exact .inr ⟨b2, 0, f1 ++ fJ, rfl, (by intro e; cases e), rfl, hr2⟩
  · rw [List.perm_middle.nodup_iff, List.nodup_cons]
    have hnd := hfr.1
    rw [List.append_assoc] at hnd
    exact ⟨fun hm => by have := (hall _ (by rw [List.append_assoc]; exact hm)).1; omega, hnd⟩
  · rcases (show q = b2 ∨ q ∈ (fp ++ f1) ++ fJ by simp at hq ⊢; rcases hq with hq | hq | hq | hq <;> simp [hq]) with rfl | hq
    · exact ⟨by have := Ext.size h.ext; omega, hb2', hf2⟩
    · exact ⟨(hfr.2 q hq).1, by have := (hall q hq).1; omega, fun x => (World.frozen?_of_block (w := W) (hXo q (hall q hq).1 (hall q hq).2)).trans ((hfr.2 q hq).2.2 x)⟩
  · intro q hq
    rcases List.mem_cons.1 hq with rfl | hq
    · omega
    · rcases List.mem_append.1 hq with hq | hq
      · have := h.old q (by simp [hq]); omega
      · exact h.apart q hq

set_option maxRecDepth 100000 in
set_option maxHeartbeats 3200000 in
theorem ri_pair (w : World) (n : Int) (t : ByteArray) (k : F) (a : Option Addr) (cap : Nat) (lo : Nat) (p : F) (o9 n9 : Int) (t9 : ByteArray) (k9 : F) (hlo : lo = w.heap.size + 1 + 1) (hl : p.len ≤ 100000)
    (ih : ∀ (W : World) (v : Value), Ext w W → Grow W 29 lo v .nil [] → Calls Try.prog 183 #[v, .agg #[.int .i64 7, .int .i64 n, .string t, .slice a k.len cap]] W (SpOut lo W v [] (p.app (.cons o9 n9 t9 k9 .nil)))) :
    Calls Try.prog 198 #[.agg #[.int .i64 7, .int .i64 n, .string t, .slice a k.len cap]] w (NewD w (catOn p (o9, n9, t9, k9))) := by
  obtain ⟨L, hL⟩ : ∃ L, k.len = L := ⟨_, rfl⟩
  rw [hL] at ih ⊢
  have HIH := Lib.hid (fun x y z => ih (((w.alloc x).alloc y).alloc (.cells z 29)) (.slice (some ⟨w.heap.size + 1 + 1, 0, none⟩) 0 0) ((((Ext.refl w).alloc _).alloc _).alloc _))
  have HZ := Lib.hid (fun x => zbox_second w x 29)
  clear ih hL
  go_enter Try.func198, Try.ntmps198
  go_wp2_with fail
  have hgm := fun (x y : Obj) => (show Grow (((w.alloc x).alloc y).alloc (.cells #[] 29)) 29 lo (.slice (some ⟨w.heap.size + 1 + 1, 0, none⟩) 0 0) .nil [] from by
    have h := Grow.made ((w.alloc x).alloc y) 29 lo (by rw [hlo]; simp)
    have e : ((w.alloc x).alloc y).heap.size = w.heap.size + 1 + 1 := by simp
    rw [e] at h; exact h)
  refine (HIH.out _ _ #[] (hgm _ _)).mono ?_
  rintro e1 w1 ⟨v1, fs1, rfl, hG1, hB1, _, _, _⟩
  have HZ1 := Lib.hid (zbox_below (HZ.out _) (((Below.refl lo _).alloc (by rw [hlo]; simp) _).trans hB1) (by omega))
  have hE1 : Ext w w1 := Below.trans ((((Ext.refl w).alloc _).alloc _).alloc _) (hB1.mono (by omega))
  obtain ⟨b, cb, f', rfl, hfs, hrow⟩ : ∃ b c f', v1 = .slice (some ⟨b, 0, none⟩) (p.app (.cons o9 n9 t9 k9 .nil)).len c ∧ fs1 = b :: f' ∧ RowAt w1 (p.app (.cons o9 n9 t9 k9 .nil)) b 0 f' := by
    rcases hG1.2.1 with ⟨h, _⟩ | ⟨b, c, f', h1, _, h2, h3⟩
    · exact absurd h app_ne
    · exact ⟨b, c, f', h1, h2, h3⟩
  subst hfs
  have hfr := hG1.fresh
  obtain ⟨fp, f2, hr1, hr2, rfl⟩ := RowAt.app_iff.1 hrow
  obtain ⟨N, hN⟩ : ∃ N, p.len = N := ⟨_, rfl⟩
  rw [hN, Nat.mul_comm 4, Nat.zero_add] at hr2
  obtain ⟨a9, c9, g1, g2, d0, d1, d2, d3, hc9, hs9, hg2, rfl⟩ := RowAt.cons_iff.1 hr2
  have hg2' : g2 = [] := hg2
  subst hg2'
  rw [List.append_nil] at hfr
  rw [show (p.app (.cons o9 n9 t9 k9 .nil)).len = N + 1 by rw [F.len_app, hN]; rfl]
  obtain ⟨L9, hL9⟩ : ∃ L, k9.len = L := ⟨_, rfl⟩
  rw [hL9] at d3
  have i0 : (0 : Int) ≤ (N : Int) := Int.natCast_nonneg _
  have i1 : (N : Int) < ((N + 1 : Nat) : Int) := by omega
  have i2 : ((N + 1 : Nat) : Int) - 1 = (N : Int) := by omega
  have i3 : ((N + 1 : Nat) : Int) - 2 = (N : Int) - 1 := by omega
  have hN1 : N ≤ 100000 := by omega
  have hE0 := Lib.hid (show w.heap.size + 1 + 1 ≤ w1.heap.size ∧ True from ⟨by have h := hB1.size; simp at h; omega, trivial⟩)
  have hbl : b < w1.heap.size := (hfr.2 b (by simp)).2.1
  have H1 := Lib.hid (And.intro hr1 (And.intro hs9 (And.intro hc9 (And.intro hfr (And.intro hL9 hN)))))
  clear hr1 hs9 hc9 hfr hL9 hrow hr2 hG1 hB1 hN
  have hvar := fun (W : World) => World.alloc_heap_new W (.cells #[.int .i64 o9, .int .i64 n9, .string t9, .slice a9 L9 c9] 29)
  go_wp2_with fail
  go_loopw [5] (fun i wr => ∃ (q : Nat) (p' g : F) (aJ : Option Addr) (cJ : Nat) (fp' fJ : List Nat), q ≤ N ∧ i = .int .i64 ((q : Int) - 1) ∧ p'.len = q ∧ RpI w1 lo p (o9, n9, t9, k9) b w1.heap.size p' g aJ cJ fp' fJ wr) (fun i _ => (intOf i + 1).toNat)
  case atStart =>
    obtain ⟨hr1, hs9, hc9, hfr, hL9, hN⟩ := H1.out
    refine ⟨N, p, .nil, a9, c9, fp, g1, Nat.le_refl _, by rw [show (N : Int) + 1 - 2 = (N : Int) - 1 by omega], hN, (F.app_nil p).symm, hr1, ?_, hs9.below (fun c hc => (hfr.2 c (by simp [hc])).2.1) ((Ext.refl w1).alloc _), hc9, ?_, fun q hq => (hfr.2 q (by simp [hq])).2.1, fun q hq => by have := (hfr.2 q (by simp [hq])).2.1; omega, (Ext.refl w1).alloc _⟩
    · subst hL9; exact hvar w1
    · exact Fresh.below (lo := lo) ⟨(List.nodup_cons.1 hfr.1).2, fun q hq => hfr.2 q (by simp at hq ⊢; simp [hq])⟩ (fun c hc => (hfr.2 c (by simp at hc ⊢; simp [hc])).2.1) ((Ext.refl w1).alloc _)
  case round =>
    obtain ⟨q, p', g, aJ, cJ, fp', fJ, hq, rfl, hql, hI⟩ := hrel
    cases q with
    | zero =>
      have hp' : p' = .nil := F.len_eq_zero hql
      subst hp'
      obtain rfl : p = g := hI.split
      obtain ⟨⟨oJ, nJ, tJ, kJ⟩, hdJ⟩ : ∃ d : D, catOn p (o9, n9, t9, k9) = d := ⟨_, rfl⟩
      have hv := hI.var
      rw [hdJ] at hv
      have hv' : wr.heap[w1.heap.size]? = some (.cells #[.int .i64 oJ, .int .i64 nJ, .string tJ, .slice aJ kJ.len cJ] 29 (0, 0)) := hv
      have x0 : wr.cell? ⟨w1.heap.size, 0, none⟩ = some (.int .i64 oJ) := by simp [World.cell?, hv']
      have x1 : wr.cell? ⟨w1.heap.size, 1, none⟩ = some (.int .i64 nJ) := by simp [World.cell?, hv']
      have x2 : wr.cell? ⟨w1.heap.size, 2, none⟩ = some (.string tJ) := by simp [World.cell?, hv']
      have x3 : wr.cell? ⟨w1.heap.size, 3, none⟩ = some (.slice aJ kJ.len cJ) := by simp [World.cell?, hv']
      obtain ⟨⟨z0, z1, z2, z3⟩, ⟨z4, z5, z6, z7⟩, z8⟩ := HZ1.out.ext hI.ext
      have HH := Lib.hid (And.intro hI (And.intro hdJ hE1))
      rw [show ((0 : Nat) : Int) - 1 = -1 by omega]
      clear hI hdJ hv hv' hE1
      go_wp2_with fail
      refine bodyPost_ret (v := .agg #[.int .i64 oJ, .int .i64 nJ, .string tJ, .slice aJ kJ.len cJ]) (by simp [results, Try.results198, go_sem, z0, z1, z2, z3, z4, z5, z6, z7, z8]) rfl ?_
      obtain ⟨hI, hdJ, hE1⟩ := HH.out
      have hsub := hI.sub
      have hcp := hI.cap
      rw [hdJ] at hsub hcp ⊢
      refine end_new2 (lo := w.heap.size + 1) (hi := w.heap.size + 2) (B := lo) (w3 := wr) hsub ⟨(List.nodup_append.1 hI.fresh.1).2.1, fun q hq => hI.fresh.2 q (by simp [hq])⟩ hcp (by omega) (by omega) (by omega) (hE1.trans hI.ext) ?_
      repeat (first | exact Touch.refl _ _ _ | refine Touch.setCell ?_ (by simp) (by simp) _)
    | succ q =>
      obtain ⟨p1, o1, n1, t1, k1, r1, hsp, hpl⟩ := F.at_len p' q (by omega)
      have hr0 : r1 = .nil := F.len_eq_zero (by have := congrArg F.len hsp; rw [F.len_app] at this; simp only [F.len] at this; omega)
      subst hr0
      have hrow' := hI.row
      rw [hsp] at hrow'
      obtain ⟨fpp, f2, hrp, hr2, rfl⟩ := RowAt.app_iff.1 hrow'
      rw [hpl, Nat.mul_comm 4, Nat.zero_add] at hr2
      obtain ⟨a1, c1, f1, g2, e0, e1, e2, e3, hc1, hs1, hg2, rfl⟩ := RowAt.cons_iff.1 hr2
      have hg2' : g2 = [] := hg2
      subst hg2'
      rw [List.append_nil] at hI
      rw [← hI.ext.cell hbl] at e0 e1 e2 e3
      obtain ⟨⟨oJ, nJ, tJ, kJ⟩, hdJ⟩ : ∃ d : D, catOn g (o9, n9, t9, k9) = d := ⟨_, rfl⟩
      have hv := hI.var
      have hsub := hI.sub
      have hcp := hI.cap
      rw [hdJ] at hv hsub hcp
      have hv' : wr.heap[w1.heap.size]? = some (.cells #[.int .i64 oJ, .int .i64 nJ, .string tJ, .slice aJ kJ.len cJ] 29 (0, 0)) := hv
      have hJl : w1.heap.size < wr.heap.size := (Array.getElem?_eq_some_iff.1 hv').1
      have x0 : wr.cell? ⟨w1.heap.size, 0, none⟩ = some (.int .i64 oJ) := by simp [World.cell?, hv']
      have x1 : wr.cell? ⟨w1.heap.size, 1, none⟩ = some (.int .i64 nJ) := by simp [World.cell?, hv']
      have x2 : wr.cell? ⟨w1.heap.size, 2, none⟩ = some (.string tJ) := by simp [World.cell?, hv']
      have x3 : wr.cell? ⟨w1.heap.size, 3, none⟩ = some (.slice aJ kJ.len cJ) := by simp [World.cell?, hv']
      have hs1r := subAt_same hs1 (B := wr) (fun c hc => hI.ext.block c (hI.old c (by simp [hc])))
      have HC := Lib.hid (fun (W : World) (e : Ext wr W) => Draw2.l1Cat W o1 n1 t1 k1 a1 c1 f1 oJ nJ tJ kJ aJ cJ fJ (e.sub hs1r (fun c hc => (hI.fresh.2 c (by simp [hc])).2.1)) (e.sub hsub (fun c hc => (hI.fresh.2 c (by simp [hc])).2.1)) (fun c hc => Nat.lt_of_lt_of_le (hI.fresh.2 c (by simp [hc])).2.1 e.size) (fun c hc => Nat.lt_of_lt_of_le (hI.fresh.2 c (by simp [hc])).2.1 e.size) hc1 hcp)
      obtain ⟨M1, hM1⟩ : ∃ M, k1.len = M := ⟨_, rfl⟩
      obtain ⟨MJ, hMJ⟩ : ∃ M, kJ.len = M := ⟨_, rfl⟩
      rw [hM1] at e3 HC
      rw [hMJ] at x3 HC hv'
      have HV := Lib.hid hv'
      have HH := Lib.hid (And.intro hI (And.intro hdJ (And.intro hsp (And.intro hpl hrp))))
      have hbr : b < wr.heap.size := Nat.lt_of_lt_of_le hbl hI.ext.size
      have j0 : (0 : Int) ≤ (q : Int) := Int.natCast_nonneg _
      have j1 : (q : Int) < (N : Int) + 1 := by omega
      rw [show ((q + 1 : Nat) : Int) - 1 = (q : Int) by omega]
      clear hI hdJ hv hv' hsub hcp hsp hpl hrp hs1 hs1r hrow' hr2 hg2 hE1 hM1 hMJ
      go_wp2_with fail
      go_region_law (go_simp; go_at_call 125; refine (HC.out _ (by first | exact (Ext.refl wr).drew | exact Ext.refl wr)).mono ?_; rintro e9 w2 ⟨b2, rfl, hb1, hb2, hrow2, hfz2, hB2⟩; have q2 : Ext wr w2 := (by first | exact hB2 | exact (Ext.refl wr).drew.trans hB2); have hv2 := (q2.block _ hJl).trans HV.out; have y0 : w2.cell? ⟨w1.heap.size, 0, none⟩ = some (.int .i64 oJ) := (by simp [World.cell?, hv2]); have y1 : w2.cell? ⟨w1.heap.size, 1, none⟩ = some (.int .i64 nJ) := (by simp [World.cell?, hv2]); have y2 : w2.cell? ⟨w1.heap.size, 2, none⟩ = some (.string tJ) := (by simp [World.cell?, hv2]); have y3 : w2.cell? ⟨w1.heap.size, 3, none⟩ = some (.slice aJ MJ cJ) := (by simp [World.cell?, hv2]); have z0 : w2.frozen? ⟨w1.heap.size, 0, none⟩ = false := (by simp [World.frozen?, hv2]); have z1 : w2.frozen? ⟨w1.heap.size, 1, none⟩ = false := (by simp [World.frozen?, hv2]); have z2 : w2.frozen? ⟨w1.heap.size, 2, none⟩ = false := (by simp [World.frozen?, hv2]); have z3 : w2.frozen? ⟨w1.heap.size, 3, none⟩ = false := (by simp [World.frozen?, hv2]); have H2 := Lib.hid (And.intro hb1 (And.intro hb2 (And.intro hrow2 (And.intro hfz2 (And.intro q2 hv2))))); clear hb1 hb2 hrow2 hfz2 hB2 hv2)
      all_goals
        go_wp2_with fail
        go_roundw
        case rel =>
          obtain ⟨hI, hdJ, hsp, hpl, hrp⟩ := HH.out
          obtain ⟨hb1, hb2, hrow2, hfz2, q2, hv2⟩ := H2.out
          have hXJ := set_four hv2 (.int .i64 7) (.int .i64 0) (.string ⟨#[]⟩) (.slice (some ⟨b2, 0, none⟩) 2 2)
          have hXo : ∀ i, i ≠ w1.heap.size → ((((w2.setCell ⟨w1.heap.size, 0, none⟩ (.int .i64 7)).setCell ⟨w1.heap.size, 1, none⟩ (.int .i64 0)).setCell ⟨w1.heap.size, 2, none⟩ (.string ⟨#[]⟩)).setCell ⟨w1.heap.size, 3, none⟩ (.slice (some ⟨b2, 0, none⟩) 2 2)).heap[i]? = w2.heap[i]? := fun i hi =>
            (((Below.heap_setCell _ _ _ i hi).trans (Below.heap_setCell _ _ _ i hi)).trans (Below.heap_setCell _ _ _ i hi)).trans (Below.heap_setCell _ _ _ i hi)
          have hb1' : wr.heap.size ≤ b2 := hb1
          have hap : ∀ c ∈ f1 ++ fJ, c ≠ w1.heap.size := fun c hc => by
            rcases List.mem_append.1 hc with hc | hc
            · have := hI.old c (by simp [hc]); omega
            · exact hI.apart c hc
          refine ⟨q, p1, .cons o1 n1 t1 k1 g, _, _, fpp, b2 :: (f1 ++ fJ), by omega, rfl, hpl, hI.round (a1 := a1) (c1 := c1) hsp hrp (Nat.le_refl _) (by have := hE0.out.1; omega) hdJ (by simp; exact q2.size) (fun i hi hne => (hXo i hne).trans (q2.block i hi)) hXJ ?_ ?_ hb1' (by simp; exact hb2) ?_⟩
          · exact ((((Below.setCell (hI.ext.trans q2) (p := ⟨w1.heap.size, 0, none⟩) (by simp) _).setCell (p := ⟨w1.heap.size, 1, none⟩) (by simp) _).setCell (p := ⟨w1.heap.size, 2, none⟩) (by simp) _).setCell (p := ⟨w1.heap.size, 3, none⟩) (by simp) _)
          · exact hrow2.congr' (fun o' _ _ => World.cell?_of_block (w := w2) (a := ⟨b2, o', none⟩) (hXo b2 (by omega))) (fun c hc o' => World.cell?_of_block (w := w2) (a := ⟨c, o', none⟩) (hXo c (hap c hc)))
          · exact fun o' => (World.frozen?_of_block (w := w2) (a := ⟨b2, o', none⟩) (hXo b2 (by omega))).trans (hfz2 o')
        case measure => first | (simp [intOf]; done) | (simp [intOf]; omega)

end Go.Proofs.Ytmkibpimjaofgaa.Nf

/-
  The model's l7Right at every document.
-/
set_option linter.unusedVariables false
set_option linter.unusedSimpArgs false
namespace Go.Proofs.Ytmkibpimjaofgaa.Nf
open Go.RowKit P1 Copy CatD

theorem ri_doc (w : World) (o n : Int) (t : ByteArray) (k : F) (ih : ∀ f : F, f.deep ≤ k.deep → RiS f) (hn : niceD (o, n, t, k) = true) (hcnt : k.cnt ≤ 10000) (a : Option Addr) (cap : Nat) (fs : List Nat) (hs : SubAt w a k fs) (hfs : ∀ c ∈ fs, c < w.heap.size) (hc : k.len ≤ cap) :
    Calls Try.prog 198 #[.agg #[.int .i64 o, .int .i64 n, .string t, .slice a k.len cap]] w (NewD w (rowD (fun f => f) o n t k)) := by
  by_cases h7 : o = 7
  · subst h7
    have hl := (ri_parts hn).2
    obtain ⟨p, o9, n9, t9, k9, hsn⟩ := snoc_of (psD (fun f => f) 7 n t k) (ps_pos _ hn)
    have e : rowD (fun f => f) 7 n t k = catOn p (o9, n9, t9, k9) := by
      show catAll (psD (fun f => f) 7 n t k) = _
      rw [hsn, show F.cons o9 n9 t9 k9 .nil = consD (o9, n9, t9, k9) .nil from rfl, catAll_snoc]
    have hpl : p.len ≤ (psD (fun f => f) 7 n t k).len := by rw [hsn, F.len_app]; omega
    rw [e]
    refine ri_pair w n t k a cap (w.heap.size + 1 + 1) p o9 n9 t9 k9 rfl (by omega) (fun W v e g => ?_)
    have h := spine (ri_oneOf ih) k.deep (Nat.le_refl _) W (w.heap.size + 1 + 1) v .nil [] 7 n t k a cap fs (Nat.le_refl _) hn hcnt (by simp only [F.len]; omega) g (e.sub hs hfs) (fun c hc => by have := hfs c hc; omega) hc
    rw [hsn] at h
    exact h
  · have e : rowD (fun f => f) o n t k = (o, n, t, mapL (rowD (fun f => f)) k) := by
      show catAll (psD (fun f => f) o n t k) = _
      unfold psD
      rw [if_neg h7, pr_map]; rfl
    rw [e]
    exact ri_one w o n t k (ih k (Nat.le_refl _)) hn hcnt a cap fs hs hfs hc h7

/-- The contract of l7Right, at the documents of every list. -/
theorem riS (m : Nat) : ∀ f : F, f.deep ≤ m → RiS f := by
  induction m with
  | zero =>
    intro f hf w o n t k p r a cap fs he
    rw [he, F.deep_app] at hf; simp only [F.deep] at hf; omega
  | succ m ih =>
    intro f hf w o n t k p r a cap fs he hn hcnt hs hfs hc
    have hk : k.deep ≤ m := by rw [he, F.deep_app] at hf; simp only [F.deep] at hf; omega
    have hn' : niceD (o, n, t, k) = true := by
      rw [he, nice_app, Bool.and_eq_true] at hn
      exact (Bool.and_eq_true_iff.1 hn.2).1
    rw [he, F.cnt_app] at hcnt
    simp only [F.cnt] at hcnt
    exact ri_doc w o n t k (fun f hf => ih f (Nat.le_trans hf hk)) hn' (by omega) a cap fs hs hfs hc

theorem l7Right (w : World) (o n : Int) (t : ByteArray) (k : F) (hn : niceD (o, n, t, k) = true) (hcnt : k.cnt ≤ 10000) (a : Option Addr) (cap : Nat) (fs : List Nat) (hs : SubAt w a k fs) (hfs : ∀ c ∈ fs, c < w.heap.size) (hc : k.len ≤ cap) :
    Calls Try.prog 198 #[.agg #[.int .i64 o, .int .i64 n, .string t, .slice a k.len cap]] w (NewD w (rowD (fun f => f) o n t k)) :=
  ri_doc w o n t k (fun f _ => riS _ f (Nat.le_refl _)) hn hcnt a cap fs hs hfs hc

end Go.Proofs.Ytmkibpimjaofgaa.Nf

