/-
  What the model's l1Some comes to, at every depth.
-/
import Derived.Test.YtjpgnhpfmdjamaaDrA
namespace Go.Proofs.Ytjpgnhpfmdjamaa.DrB
open Go.RowKit P1 Draw Draw2 DrA
set_option linter.unusedVariables false
set_option linter.unusedSimpArgs false

/-- a document whose Kids lie in blocks from lo up to hi -/
def MadeIn (w : World) (lo hi s dp : Nat) (v : Value) : Prop := ∃ (o n : Int) (t : ByteArray) (k : F) (a : Option Addr) (cap : Nat) (fs : List Nat), v = .agg #[.int .i64 o, .int .i64 n, .string t, .slice a k.len cap] ∧ k.len ≤ cap ∧ Bd s dp o n t k ∧ SubAt w a k fs ∧ Fresh lo w fs ∧ ∀ c ∈ fs, c < hi

theorem MadeIn.of {w : World} {lo s dp : Nat} {v : Value} (h : Made w lo s dp v) : MadeIn w lo w.heap.size s dp v := by
  obtain ⟨o, n, t, k, a, cap, fs, h2, h3, h4, h5, h6⟩ := h
  exact ⟨o, n, t, k, a, cap, fs, h2, h3, h4, h5, h6, h6.lt⟩
theorem MadeIn.made {w : World} {lo hi s dp : Nat} {v : Value} (h : MadeIn w lo hi s dp v) : Made w lo s dp v := by
  obtain ⟨o, n, t, k, a, cap, fs, h2, h3, h4, h5, h6, _⟩ := h
  exact ⟨o, n, t, k, a, cap, fs, h2, h3, h4, h5, h6⟩
theorem MadeIn.but {w w' : World} {lo hi s dp x B : Nat} {v : Value} (h : MadeIn w lo hi s dp v) (hx : x < lo) (hB : hi ≤ B) (k : But B x w w') : MadeIn w' lo hi s dp v := by
  obtain ⟨o, n, t, f, a, cap, fs, h2, h3, h4, h5, h6, h7⟩ := h
  exact ⟨o, n, t, f, a, cap, fs, h2, h3, h4, k.sub h5 (fun c hc => ⟨Nat.lt_of_lt_of_le (h7 c hc) hB, by have := (h6.2 c hc).1; omega⟩),
    h6.alike k.size (fun c hc o => k.frozen (Nat.lt_of_lt_of_le (h7 c hc) hB) (by have := (h6.2 c hc).1; omega)), h7⟩
theorem MadeIn.leaf (w : World) (lo hi : Nat) (o n : Int) (t : ByteArray) (s : Nat) (ht : t.size ≤ s) (dp : Nat) (hn : nodeB o n t 0 = true) : MadeIn w lo hi s dp (.agg #[.int .i64 o, .int .i64 n, .string t, .slice none 0 0]) :=
  ⟨o, n, t, .nil, none, 0, [], rfl, by simp [F.len], ⟨by simp [F.size]; omega, wf_leaf hn, by simp [F.deep]⟩, .inl ⟨rfl, rfl⟩, Fresh.nil _ _, fun c hc => by cases hc⟩

/-- l1Cat of two made documents -/
theorem cat_made (w : World) {lo m hi s1 s2 d1 d2 : Nat} {v1 v2 : Value} (h1 : MadeIn w lo m s1 d1 v1) (h2 : MadeIn w m hi s2 d2 v2) (hlm : lo ≤ m) (hm : m ≤ hi) (hhi : hi ≤ w.heap.size) :
    Calls Try.prog 55 #[v1, v2] w fun e w' => ∃ v, e = .returned v ∧ MadeIn w' lo w'.heap.size (s1 + s2 + 2) (max d1 d2 + 1) v ∧ Below w.heap.size w w' := by
  obtain ⟨o1, n1, t1, k1, a1, c1, f1, rfl, q1, q2, q3, q4, q5⟩ := h1
  obtain ⟨o2, n2, t2, k2, a2, c2, f2, rfl, r1, r2, r3, r4, r5⟩ := h2
  refine (l1Cat w o1 n1 t1 k1 a1 c1 f1 o2 n2 t2 k2 a2 c2 f2 q3 r3 q4.lt r4.lt q1 r1).mono ?_
  rintro e w' ⟨b, rfl, hb1, hb2, hrow, hz, hbel⟩
  refine ⟨_, rfl, ⟨7, 0, ⟨#[]⟩, .cons o1 n1 t1 k1 (.cons o2 n2 t2 k2 .nil), some ⟨b, 0, none⟩, 2, b :: (f1 ++ f2), rfl, by simp [F.len], ?_, .inr ⟨b, 0, _, rfl, by simp, rfl, hrow⟩, ?_, ?_⟩, hbel⟩
  · have e0 : (⟨#[]⟩ : ByteArray).size = 0 := rfl
    have h1 := q2.1
    have h2 := r2.1
    have h3 := q2.2.2
    have h4 := r2.2.2
    exact ⟨by simp only [F.size, e0]; omega, wf_two (by decide) q2.2.1 r2.2.1, by simp only [F.deep]; omega⟩
  · have g1 : Fresh lo w' f1 := q4.below q4.lt hbel
    have g2 : Fresh m w' f2 := r4.below r4.lt hbel
    have g3 : Fresh lo w' (f1 ++ f2) := g1.app q5 g2 hlm
    refine ⟨List.nodup_cons.2 ⟨fun hmem => ?_, g3.1⟩, fun c hc => ?_⟩
    · rcases List.mem_append.1 hmem with hm' | hm'
      · have := q4.lt b hm'; omega
      · have := r4.lt b hm'; omega
    · rcases List.mem_cons.1 hc with rfl | hc
      · exact ⟨by omega, hb2, hz⟩
      · exact g3.2 c hc
  · intro c hc
    rcases List.mem_cons.1 hc with rfl | hc
    · exact hb2
    · rcases List.mem_append.1 hc with hc | hc
      · exact Nat.lt_of_lt_of_le (q4.lt c hc) hbel.size
      · exact Nat.lt_of_lt_of_le (r4.lt c hc) hbel.size

/-- the end of a branch that puts one document into a new row -/
theorem end_row {w w2 w3 : World} {x lo p q s s0 dp d0 c op N : Nat} {nn o n : Int} {t : ByteArray} {k : F} {a : Option Addr} {cap : Nat} {fs : List Nat} (hx : x < w.heap.size) (hs : SubAt w2 a k fs) (hf : Fresh (w.heap.size + 1) w2 fs) (hc : k.len ≤ cap) (hbd : Bd s0 d0 o n t k) (hsz : s0 + 1 ≤ s) (hdp : d0 + 1 ≤ dp) (hop : nodeB op nn ⟨#[]⟩ 1 = true)
    (hr : Rd w2 x lo q) (hq : q ≤ p + c) (hb : But w.heap.size x w w2) (hlt : w.heap.size < w2.heap.size) (ht : Touch w.heap.size (w.heap.size + 1) w2 w3) (hN : w3.heap.size = N) (T : TypeId) :
    SomeOut w x lo p s dp c (.returned (.agg #[.int .i64 op, .int .i64 nn, .string ⟨#[]⟩, .slice (some ⟨N, 0, none⟩) 1 1])) (w3.alloc (.cells #[.int .i64 o, .int .i64 n, .string t, .slice a k.len cap] T)) := by
  subst hN
  have hA : Below w3.heap.size w3 (w3.alloc (.cells #[.int .i64 o, .int .i64 n, .string t, .slice a k.len cap] T)) := (Below.refl _ _).alloc (Nat.le_refl _) _
  have hs3 : SubAt w3 a k fs := ht.sub hs (fun c hc => Or.inr (hf.2 c hc).1)
  have hf3 : Fresh (w.heap.size + 1) w3 fs := ht.fresh hf (fun c hc => Or.inr (hf.2 c hc).1)
  refine ⟨_, q, rfl, ⟨op, nn, ⟨#[]⟩, .cons o n t k .nil, some ⟨w3.heap.size, 0, none⟩, 1, w3.heap.size :: fs, rfl, by simp [F.len], ?_, .inr ⟨_, 0, fs, rfl, by simp, rfl, ?_⟩, ?_⟩, rdBelow (rdTouch hr hx ht) (by have := ht.size; omega) hA, hq, ((butTouch hb ht (Nat.le_refl _)).trans (But.of_below (hA.mono (by have := ht.size; omega))))⟩
  · have e0 : (⟨#[]⟩ : ByteArray).size = 0 := rfl
    have h1 := hbd.1
    have h2 := hbd.2.2
    exact ⟨by simp only [F.size, e0]; omega, wf_one hop hbd.2.1, by simp only [F.deep]; omega⟩
  · refine RowAt.cons_iff.2 ⟨a, cap, fs, [], ?_, ?_, ?_, ?_, hc, hs3.below hf3.lt hA, rfl, by simp⟩
    all_goals (rw [World.cell?_alloc_new]; rfl)
  · have g := hf3.below hf3.lt hA
    refine ⟨List.nodup_cons.2 ⟨fun hmem => by have := hf3.lt _ hmem; omega, g.1⟩, fun c hc => ?_⟩
    rcases List.mem_cons.1 hc with rfl | hc
    · exact ⟨by have := ht.size; omega, by simp, fun o => World.frozen?_alloc_new _ _ _ _⟩
    · exact ⟨by have := (g.2 c hc).1; omega, (g.2 c hc).2⟩

/-- the contract of l1Some at a depth -/
def SomeS (d : Nat) : Prop := ∀ (w : World) (x lo p : Nat), Rd w x lo p → p + drawB d ≤ 1073741824 → x < w.heap.size →
  Calls Try.prog 84 #[.pointer (some ⟨x, 0, none⟩), .int .i64 d] w (SomeOut w x lo p (sizeB d) (2 * d) (drawB d))

theorem zeroS : SomeS 0 := fun w x lo p h1 h2 h3 => some0 w x lo p h1 h2 h3

end Go.Proofs.Ytjpgnhpfmdjamaa.DrB
