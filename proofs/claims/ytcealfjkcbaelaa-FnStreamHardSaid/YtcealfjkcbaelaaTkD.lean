import Derived.Test.YtcealfjkcbaelaaTkI
import Derived.Test.YtcealfjkcbaelaaPl
/-
  l6Tokens of the model: it adds some tokens to a row of the call's own.
-/
set_option linter.unusedVariables false
set_option linter.unusedSimpArgs false
namespace Go.Proofs.Ytcealfjkcbaelaa.Tk
open Go.RowKit P1

theorem infoT3 : (Try.prog.info? 55).map (fun i => (i.zero.map (fun z => z.cells.size), i.size, i.bytes)) = some (some 3, 3, 32) := by kernel_rfl
/-- the cells of tokens -/
def cells3 : List (Int × Int × ByteArray) → List Value
  | [] => []
  | r :: l => .int .i64 r.1 :: .int .i64 r.2.1 :: .string r.2.2 :: cells3 l
theorem cells3_app (l k : List (Int × Int × ByteArray)) : cells3 (l ++ k) = cells3 l ++ cells3 k := by
  induction l with
  | nil => rfl
  | cons r l ih => simp [cells3, ih]
theorem cells3_len (l : List (Int × Int × ByteArray)) : (cells3 l).length = l.length * 3 := by
  induction l with
  | nil => rfl
  | cons r l ih => simp only [cells3, List.length_cons, ih]; omega
theorem three_new (w : World) (k n : Int) (t : ByteArray) (T : TypeId) : ∀ j u, [Value.int .i64 k, .int .i64 n, .string t][j]? = some u → (w.alloc (.cells #[.int .i64 k, .int .i64 n, .string t] T)).cell? ((⟨w.heap.size, 0, none⟩ : Addr).add j) = some u := by
  intro j u hu
  rw [at_add, Nat.zero_add, World.cell?_alloc_new]
  simpa using hu
theorem own_block {w : World} {B : Nat} {T : TypeId} {n m : Nat} {v : Value} {xs : List Value} (h : w.ownsRow B T n v m xs) : ∀ g, v.ownBlock = some g → ∃ c, w.heap[g]? = some (.cells c T (0, 0)) := by
  intro g hg
  rcases h.2 with ⟨rfl, _⟩ | ⟨g', cap, cur, rfl, _, hgg, _⟩
  · simp [Value.ownBlock] at hg
  · simp only [Value.ownBlock, Option.some.injEq] at hg; subst hg; exact ⟨_, hgg⟩
/-- every block of cells that are no tokens stands -/
def KT (w w' : World) : Prop := ∀ (k : Nat) (c : Array Value) (T : TypeId) (z : Nat × Nat), w.heap[k]? = some (.cells c T z) → T ≠ 55 → w'.heap[k]? = some (.cells c T z)
theorem KT.trans {w w1 w2 : World} (h : KT w w1) (k : KT w1 w2) : KT w w2 := fun i c T z h1 h2 => k i c T z (h i c T z h1 h2) h2
theorem KT.of_below {w w' : World} (h : Below w.heap.size w w') : KT w w' := fun k c T z h1 _ => (h.block k (Array.getElem?_eq_some_iff.1 h1).1).trans h1
theorem KT.cell {w w' : World} (h : KT w w') {k o : Nat} {c : Array Value} {T : TypeId} {z : Nat × Nat} (hk : w.heap[k]? = some (.cells c T z)) (hT : T ≠ 55) : w'.cell? ⟨k, o, none⟩ = w.cell? ⟨k, o, none⟩ :=
  World.cell?_of_block (w := w) ((h k c T z hk hT).trans hk.symm)
theorem three_at (w : World) (z : Nat) (hz : w.heap.size = z) (k n : Int) (t : ByteArray) (T : TypeId) : ∀ j u, [Value.int .i64 k, .int .i64 n, .string t][j]? = some u → (w.alloc (.cells #[.int .i64 k, .int .i64 n, .string t] T)).cell? ((⟨z, 0, none⟩ : Addr).add j) = some u := by
  subst hz; exact three_new w k n t T
/-- tokens in a row of the call's own: it lies at block B or behind D -/
def TOwn (w : World) (B D : Nat) (X : List (Int × Int × ByteArray)) (v : Value) : Prop :=
  w.ownsRow B 55 3 v X.length (cells3 X) ∧ (∀ g, v.ownBlock = some g → g = B ∨ D ≤ g) ∧ X.length ≤ 100000 ∧ ∀ r ∈ X, r.2.2.size ≤ 2000
theorem TOwn.below {w w' : World} {B D : Nat} {X : List (Int × Int × ByteArray)} {v : Value} (h : TOwn w B D X v) (k : Below w.heap.size w w') : TOwn w' B D X v := ⟨own_ext h.1 k, h.2⟩
/-- what l6Tokens comes to -/
def TokOut (w : World) (B D c : Nat) (X : List (Int × Int × ByteArray)) (e : Ending) (w' : World) : Prop := ∃ (v : Value) (Y : List (Int × Int × ByteArray)), e = .returned v ∧ TOwn w' B D Y v ∧ Y.length ≤ X.length + c ∧ But D B w w' ∧ KT w w'
/-- a token is appended -/
theorem tk_append {w w5 : World} {B D n g cap : Nat} {X : List (Int × Int × ByteArray)} {v : Value} {o : Obj} {k m : Int} {t : ByteArray} (h : TOwn w B D X v) (hg : (w.alloc o).grownBy w5 v.ownBlock) (hown : w5.ownsRow B 55 3 (.slice (some ⟨g, 0, none⟩) n cap) n (cells3 X ++ [.int .i64 k, .int .i64 m, .string t]))
    (hat : v.ownBlock = some g ∨ D ≤ g) (hD : D ≤ w.heap.size) (hX : n = X.length + 1 ∧ X.length < 100000 ∧ t.size ≤ 2000) : TOwn w5 B D (X ++ [(k, m, t)]) (.slice (some ⟨g, 0, none⟩) n cap) ∧ But D B w w5 ∧ KT w w5 := by
  refine ⟨⟨?_, fun g' hg' => ?_, by rw [List.length_append]; simp; omega, fun r hr => ?_⟩, ⟨?_, ?_, ?_, ?_, fun c hc hcB => ?_⟩, fun i c T z h1 h2 => ?_⟩
  · rw [cells3_app, List.length_append, show X.length + [(k, m, t)].length = n by simp; omega]; exact hown
  · simp only [Value.ownBlock, Option.some.injEq] at hg'
    subst hg'
    rcases hat with hat | hat
    · exact h.2.1 _ hat
    · right; exact hat
  · rcases List.mem_append.1 hr with hr | hr
    · exact h.2.2.2 r hr
    · simp only [List.mem_singleton] at hr; subst hr; exact hX.2.2
  · exact hg.os.trans rfl
  · exact hg.tape.trans rfl
  · exact hg.output.trans rfl
  · have := hg.size; simp at this; omega
  · refine (hg.block c (by simp; omega) (fun e => ?_)).trans (Below.heap_alloc _ _ _ (by omega))
    rcases h.2.1 c e.symm with h1 | h1
    · exact hcB h1
    · omega
  · have hk := (Array.getElem?_eq_some_iff.1 h1).1
    refine (hg.block i (by simp; omega) (fun e => ?_)).trans ((Below.heap_alloc _ _ _ hk).trans h1)
    obtain ⟨c', hc'⟩ := own_block h.1 i e.symm
    rw [h1] at hc'
    injection hc' with hc'
    injection hc' with _ hc'
    exact h2 hc'

/-- the contract of l6Tokens at the documents of a list, which lie behind block B and ahead of D -/
def TokI (B D : Nat) (f : F) : Prop := ∀ (w : World) (X : List (Int × Int × ByteArray)) (v : Value) (o n : Int) (t : ByteArray) (k : F) (p r : F) (a : Option Addr) (cap : Nat) (fs : List Nat), f = p.app (.cons o n t k r) → SubAt w a k fs → (∀ c ∈ fs, c < D ∧ c ≠ B) → k.len ≤ cap → X.length + 2 * (1 + k.cnt) ≤ 90000 → t.size + k.size ≤ 2000 → TOwn w B D X v → D ≤ w.heap.size → B < D →
  Calls Try.prog 64 #[v, .agg #[.int .i64 o, .int .i64 n, .string t, .slice a k.len cap]] w (TokOut w B D (2 * (1 + k.cnt)) X)

set_option maxRecDepth 100000 in
set_option maxHeartbeats 6400000 in
theorem tok_step (B D : Nat) (w : World) (X : List (Int × Int × ByteArray)) (v : Value) (o n : Int) (t : ByteArray) (k : F) (ih : TokI B D k) (a : Option Addr) (cap : Nat) (fs : List Nat) (hs : SubAt w a k fs) (hfs : ∀ c ∈ fs, c < D ∧ c ≠ B) (hc : k.len ≤ cap) (hX : X.length + 2 * (1 + k.cnt) ≤ 90000) (hsz : t.size + k.size ≤ 2000) (hT : TOwn w B D X v) (hD : D ≤ w.heap.size) (hBD : B < D) (hone : o = 6 ∨ o = 8 → 0 < k.len) :
    Calls Try.prog 64 #[v, .agg #[.int .i64 o, .int .i64 n, .string t, .slice a k.len cap]] w (TokOut w B D (2 * (1 + k.cnt)) X) := by
  obtain ⟨al, cl, rfl, hcl⟩ := own_slice hT.1
  obtain ⟨N, hN⟩ : ∃ N, X.length = N := ⟨_, rfl⟩
  have HN := Lib.hid hN
  rw [hN] at hX hcl hT ⊢
  have hlc := F.len_le_size k
  obtain ⟨L, hL⟩ : ∃ L, k.len = L := ⟨_, rfl⟩
  have HL := Lib.hid hL
  rw [hL] at hc hlc hone ⊢
  have HS := Lib.hid (And.intro hs hfs)
  have HTT := Lib.hid hT
  have IH := Lib.hid ih
  have HSZ := Lib.hid (And.intro hsz (And.intro hX hBD))
  obtain ⟨i0, z0, hi, hz, hz1, hz2, hz3⟩ := info_some infoT3
  have HI := Lib.hid (And.intro hi (And.intro hz (And.intro hz1 (And.intro hz2 hz3))))
  obtain ⟨V, hV⟩ : ∃ V, w.alloc (.cells #[.int .i64 o, .int .i64 n, .string t, .slice a L cap] 25) = V := ⟨_, rfl⟩
  have hVb : Below w.heap.size w V := by rw [← hV]; exact (Below.refl _ _).alloc (Nat.le_refl _) _
  have hVz : V.heap.size = w.heap.size + 1 := by rw [← hV]; simp
  have q : ∀ i u, (#[Value.int .i64 o, .int .i64 n, .string t, .slice a L cap] : Array Value)[i]? = some u → V.cell? ⟨w.heap.size, i, none⟩ = some u := fun i u hu => by rw [← hV, World.cell?_alloc_new]; exact hu
  have q0 := q 0 _ rfl
  have q1 := q 1 _ rfl
  have q2 := q 2 _ rfl
  have q3 := q 3 _ rfl
  have hTV := hT.below hVb
  have HV := Lib.hid (And.intro hVb (And.intro hVz hTV))
  have hownV : V.ownsRow B 55 3 (.slice al N cl) N (cells3 X) := by have := hTV.1; rw [hN] at this; exact this
  have hcnt : X.length < 100000 ∧ t.size ≤ 2000 := by omega
  have HQ := Lib.hid (show V.heap[w.heap.size]? = some (.cells #[.int .i64 o, .int .i64 n, .string t, .slice a L cap] 25 (0, 0)) by
    rw [← hV]
    show (w.heap.push _)[w.heap.size]? = _
    exact Array.getElem?_push_size)
  clear q hT hi hz hz1 hz2 hz3 ih hL hN
  have hVz' : w.heap.size < V.heap.size := by omega
  rcases (show o = 2 ∨ o = 3 ∨ o = 4 ∨ o = 5 ∨ o = 6 ∨ o = 8 ∨ (o ≠ 2 ∧ o ≠ 3 ∧ o ≠ 4 ∧ o ≠ 5 ∧ o ≠ 6 ∧ o ≠ 8) by omega) with hop | hop | hop | hop | hop | hop | ⟨n2, n3, n4, n5, n6, n8⟩
  · subst hop
    subst hV
    go_enter Try.func64, Try.ntmps64
    go_wp2_with (at_builtin; refine wpList_append_lies _ rfl (.tmp 10) (.tmp 14) 28 rfl B 55 i0 z0 3 32 Try.underlying28 HI.out.1 HI.out.2.1 HI.out.2.2.1 HI.out.2.2.2.1 HI.out.2.2.2.2 (by omega) (.slice al N cl) N (cells3 X) rfl (hownV.alloc _) ⟨(w.heap.size + 1), 0, none⟩ 1 1 [.int .i64 1, .int .i64 0, .string t] rfl rfl (three_at (w.alloc (.cells #[.int .i64 2, .int .i64 n, .string t, .slice a L cap] 25)) (w.heap.size + 1) (by simp) _ _ _ _) (by simp [Value.oneCell']) (by omega) (by unfold maxLen; omega) (by omega) (by simp; omega) ((w.heap.size + 1) + 1) (by simp) ?_; intro g5 cap5 w5 hown5 hgrow5 hat5 hlt5; have H5 := Lib.hid (tk_append hTV hgrow5 hown5 (hat5.elim Or.inl (fun e => Or.inr (by omega))) (by first | omega | (simp; omega)) (by have := HN.out; have := HSZ.out; exact ⟨by omega, by omega, by first | omega | decide⟩)); clear hgrow5 hown5 hat5 hlt5)
    try go_wp2_with fail
    go_ret
    exact ⟨_, _, rfl, H5.out.1, by rw [List.length_append]; simp; omega, (But.of_below (hVb.mono hD)).trans H5.out.2.1, (KT.of_below hVb).trans H5.out.2.2⟩
  · subst hop
    subst hV
    go_enter Try.func64, Try.ntmps64
    go_wp2_with (at_builtin; refine wpList_append_lies _ rfl (.tmp 18) (.tmp 20) 28 rfl B 55 i0 z0 3 32 Try.underlying28 HI.out.1 HI.out.2.1 HI.out.2.2.1 HI.out.2.2.2.1 HI.out.2.2.2.2 (by omega) (.slice al N cl) N (cells3 X) rfl (hownV.alloc _) ⟨(w.heap.size + 1), 0, none⟩ 1 1 [.int .i64 2, .int .i64 0, .string ⟨#[]⟩] rfl rfl (three_at (w.alloc (.cells #[.int .i64 3, .int .i64 n, .string t, .slice a L cap] 25)) (w.heap.size + 1) (by simp) _ _ _ _) (by simp [Value.oneCell']) (by omega) (by unfold maxLen; omega) (by omega) (by simp; omega) ((w.heap.size + 1) + 1) (by simp) ?_; intro g5 cap5 w5 hown5 hgrow5 hat5 hlt5; have H5 := Lib.hid (tk_append hTV hgrow5 hown5 (hat5.elim Or.inl (fun e => Or.inr (by omega))) (by first | omega | (simp; omega)) (by have := HN.out; have := HSZ.out; exact ⟨by omega, by omega, by first | omega | decide⟩)); clear hgrow5 hown5 hat5 hlt5)
    try go_wp2_with fail
    go_ret
    exact ⟨_, _, rfl, H5.out.1, by rw [List.length_append]; simp; omega, (But.of_below (hVb.mono hD)).trans H5.out.2.1, (KT.of_below hVb).trans H5.out.2.2⟩
  · subst hop
    subst hV
    go_enter Try.func64, Try.ntmps64
    go_wp2_with (at_builtin; refine wpList_append_lies _ rfl (.tmp 24) (.tmp 26) 28 rfl B 55 i0 z0 3 32 Try.underlying28 HI.out.1 HI.out.2.1 HI.out.2.2.1 HI.out.2.2.2.1 HI.out.2.2.2.2 (by omega) (.slice al N cl) N (cells3 X) rfl (hownV.alloc _) ⟨(w.heap.size + 1), 0, none⟩ 1 1 [.int .i64 3, .int .i64 0, .string ⟨#[]⟩] rfl rfl (three_at (w.alloc (.cells #[.int .i64 4, .int .i64 n, .string t, .slice a L cap] 25)) (w.heap.size + 1) (by simp) _ _ _ _) (by simp [Value.oneCell']) (by omega) (by unfold maxLen; omega) (by omega) (by simp; omega) ((w.heap.size + 1) + 1) (by simp) ?_; intro g5 cap5 w5 hown5 hgrow5 hat5 hlt5; have H5 := Lib.hid (tk_append hTV hgrow5 hown5 (hat5.elim Or.inl (fun e => Or.inr (by omega))) (by first | omega | (simp; omega)) (by have := HN.out; have := HSZ.out; exact ⟨by omega, by omega, by first | omega | decide⟩)); clear hgrow5 hown5 hat5 hlt5)
    try go_wp2_with fail
    go_ret
    exact ⟨_, _, rfl, H5.out.1, by rw [List.length_append]; simp; omega, (But.of_below (hVb.mono hD)).trans H5.out.2.1, (KT.of_below hVb).trans H5.out.2.2⟩
  · subst hop
    subst hV
    go_enter Try.func64, Try.ntmps64
    go_wp2_with (at_builtin; refine wpList_append_lies _ rfl (.tmp 30) (.tmp 32) 28 rfl B 55 i0 z0 3 32 Try.underlying28 HI.out.1 HI.out.2.1 HI.out.2.2.1 HI.out.2.2.2.1 HI.out.2.2.2.2 (by omega) (.slice al N cl) N (cells3 X) rfl (hownV.alloc _) ⟨(w.heap.size + 1), 0, none⟩ 1 1 [.int .i64 4, .int .i64 0, .string ⟨#[]⟩] rfl rfl (three_at (w.alloc (.cells #[.int .i64 5, .int .i64 n, .string t, .slice a L cap] 25)) (w.heap.size + 1) (by simp) _ _ _ _) (by simp [Value.oneCell']) (by omega) (by unfold maxLen; omega) (by omega) (by simp; omega) ((w.heap.size + 1) + 1) (by simp) ?_; intro g5 cap5 w5 hown5 hgrow5 hat5 hlt5; have H5 := Lib.hid (tk_append hTV hgrow5 hown5 (hat5.elim Or.inl (fun e => Or.inr (by omega))) (by first | omega | (simp; omega)) (by have := HN.out; have := HSZ.out; exact ⟨by omega, by omega, by first | omega | decide⟩)); clear hgrow5 hown5 hat5 hlt5)
    try go_wp2_with fail
    go_ret
    exact ⟨_, _, rfl, H5.out.1, by rw [List.length_append]; simp; omega, (But.of_below (hVb.mono hD)).trans H5.out.2.1, (KT.of_below hVb).trans H5.out.2.2⟩
  · subst hop
    have hL0 : 0 < L := hone (by omega)
    subst hV
    cases k with
    | nil => have := HL.out; simp only [F.len] at this; omega
    | cons o1 n1 t1 kk r1 =>
      obtain ⟨bk, off, f', rfl, hrow, hbk⟩ : ∃ bk off f', a = some ⟨bk, off, none⟩ ∧ RowAt w (.cons o1 n1 t1 kk r1) bk off f' ∧ (bk < D ∧ bk ≠ B) ∧ ∀ c ∈ f', c < D ∧ c ≠ B := by
        rcases HS.out.1 with ⟨h0, _⟩ | ⟨bk, off, f', rfl, _, rfl, hrow⟩
        · cases h0
        · exact ⟨bk, off, f', rfl, hrow, HS.out.2 bk (by simp), fun c hc => HS.out.2 c (by simp [hc])⟩
      obtain ⟨a1, cap1, f1, c0, c1, c2, c3, hc1, hsub1, hin⟩ := row_at (p := .nil) hrow
      simp only [F.len, Nat.zero_mul, Nat.add_zero] at c0 c1 c2 c3
      have hsz2 : t1.size + kk.size ≤ 2000 ∧ N + 2 * (1 + (1 + kk.cnt + r1.cnt)) ≤ 90000 := by have := HSZ.out; simp only [F.size, F.cnt] at this; omega
      have HK := Lib.hid (And.intro c0 (And.intro c1 (And.intro c2 (And.intro c3 (And.intro hc1 (And.intro hsub1 (And.intro hin hbk)))))))
      have l0 : (0 : Int) < (L : Int) := by omega
      clear c0 c1 c2 c3 hc1 hsub1 hin hrow hbk hs hfs
      go_enter Try.func64, Try.ntmps64
      go_wp2_with (at_builtin; refine wpList_append_lies _ rfl (.tmp 36) (.tmp 40) 28 rfl B 55 i0 z0 3 32 Try.underlying28 HI.out.1 HI.out.2.1 HI.out.2.2.1 HI.out.2.2.2.1 HI.out.2.2.2.2 (by omega) (.slice al N cl) N (cells3 X) rfl (hownV.alloc _) ⟨(w.heap.size + 1), 0, none⟩ 1 1 [.int .i64 7, .int .i64 n, .string ⟨#[]⟩] rfl rfl (three_at (w.alloc (.cells #[.int .i64 6, .int .i64 n, .string t, .slice (some ⟨bk, off, none⟩) L cap] 25)) (w.heap.size + 1) (by simp) _ _ _ _) (by simp [Value.oneCell']) (by omega) (by unfold maxLen; omega) (by omega) (by simp; omega) ((w.heap.size + 1) + 1) (by simp) ?_; intro g5 cap5 w5 hown5 hgrow5 hat5 hlt5; have H5 := Lib.hid (tk_append hTV hgrow5 hown5 (hat5.elim Or.inl (fun e => Or.inr (by omega))) (by first | omega | (simp; omega)) (by have := HN.out; have := HSZ.out; exact ⟨by omega, by omega, by first | omega | decide⟩)); clear hgrow5 hown5 hat5 hlt5; have hz5 := H5.out.2.1.size; have d3 := (H5.out.2.2.cell (o := 3) HQ.out (by decide)).trans q3; obtain ⟨d0, d1, d2, d4, dc, ds, din, dbk, dfs⟩ := HK.out; have hW5 : But D B w w5 := (But.of_below (hVb.mono hD)).trans H5.out.2.1; have e0 := (hW5.cell (o := off) dbk.1 dbk.2).trans d0; have e1 := (hW5.cell (o := off + 1) dbk.1 dbk.2).trans d1; have e2 := (hW5.cell (o := off + 2) dbk.1 dbk.2).trans d2; have e3 := (hW5.cell (o := off + 3) dbk.1 dbk.2).trans d4; have hbk5 : bk < w5.heap.size := (by omega); have HC5 := Lib.hid (IH.out w5 _ _ o1 n1 t1 kk .nil r1 a1 cap1 f1 rfl (hW5.sub ds (fun c hc => dfs c (din c hc))) (fun c hc => dfs c (din c hc)) dc (by rw [List.length_append]; have := HN.out; simp; omega) hsz2.1 H5.out.1 (by omega) hBD); have HW5 := Lib.hid hW5; clear d0 d1 d2 d4 dc ds din dfs hW5)
      try go_wp2_with fail
      refine HC5.out.mono ?_
      rintro e6 w6 ⟨v6, Y, rfl, hT6, hY6, hB6, hK6⟩
      obtain ⟨al6, cl6, rfl, hcl6⟩ := own_slice hT6.1
      obtain ⟨M, hM⟩ : ∃ M, Y.length = M := ⟨_, rfl⟩
      have HM := Lib.hid hM
      have hYM : M ≤ N + 1 + 2 * (1 + kk.cnt) := by rw [← hM]; rw [List.length_append] at hY6; have := HN.out; simp at hY6; omega
      rw [hM] at hcl6 hT6
      have HT6 := Lib.hid hT6
      have hown6 : w6.ownsRow B 55 3 (.slice al6 M cl6) M (cells3 Y) := by have := hT6.1; rw [hM] at this; exact this
      try rw [hM]
      clear hM hT6 hY6
      have hz6 := hB6.size
      have HB6 := Lib.hid (And.intro (HW5.out.trans hB6) (((KT.of_below hVb).trans H5.out.2.2).trans hK6))
      clear hB6 hK6
      go_wp2_with (at_builtin; refine wpList_append_lies _ rfl (.tmp 47) (.tmp 49) 28 rfl B 55 i0 z0 3 32 Try.underlying28 HI.out.1 HI.out.2.1 HI.out.2.2.1 HI.out.2.2.2.1 HI.out.2.2.2.2 (by omega) (.slice al6 M cl6) M (cells3 Y) rfl (hown6.alloc _) ⟨w6.heap.size, 0, none⟩ 1 1 [.int .i64 8, .int .i64 0, .string ⟨#[]⟩] rfl rfl (three_at w6 w6.heap.size (by simp) _ _ _ _) (by simp [Value.oneCell']) (by omega) (by unfold maxLen; omega) (by omega) (by simp; omega) (w6.heap.size + 1) (by simp) ?_; intro g5 cap5 w5 hown5 hgrow5 hat5 hlt5; have H7 := Lib.hid (tk_append HT6.out hgrow5 hown5 (hat5.elim Or.inl (fun e => Or.inr (by omega))) (by first | omega | (simp; omega)) (by have := HM.out; have := HSZ.out; simp only [F.cnt] at *; exact ⟨by omega, by omega, by first | omega | decide⟩)); clear hgrow5 hown5 hat5 hlt5)
      try go_wp2_with fail
      go_ret
      exact ⟨_, _, rfl, H7.out.1, by rw [List.length_append, HM.out]; have := HN.out; simp only [F.cnt, List.length_cons, List.length_nil]; omega, HB6.out.1.trans H7.out.2.1, HB6.out.2.trans H7.out.2.2⟩
  · subst hop
    have hL0 : 0 < L := hone (by omega)
    subst hV
    cases k with
    | nil => have := HL.out; simp only [F.len] at this; omega
    | cons o1 n1 t1 kk r1 =>
      obtain ⟨bk, off, f', rfl, hrow, hbk⟩ : ∃ bk off f', a = some ⟨bk, off, none⟩ ∧ RowAt w (.cons o1 n1 t1 kk r1) bk off f' ∧ (bk < D ∧ bk ≠ B) ∧ ∀ c ∈ f', c < D ∧ c ≠ B := by
        rcases HS.out.1 with ⟨h0, _⟩ | ⟨bk, off, f', rfl, _, rfl, hrow⟩
        · cases h0
        · exact ⟨bk, off, f', rfl, hrow, HS.out.2 bk (by simp), fun c hc => HS.out.2 c (by simp [hc])⟩
      obtain ⟨a1, cap1, f1, c0, c1, c2, c3, hc1, hsub1, hin⟩ := row_at (p := .nil) hrow
      simp only [F.len, Nat.zero_mul, Nat.add_zero] at c0 c1 c2 c3
      have hsz2 : t1.size + kk.size ≤ 2000 ∧ N + 2 * (1 + (1 + kk.cnt + r1.cnt)) ≤ 90000 := by have := HSZ.out; simp only [F.size, F.cnt] at this; omega
      have HK := Lib.hid (And.intro c0 (And.intro c1 (And.intro c2 (And.intro c3 (And.intro hc1 (And.intro hsub1 (And.intro hin hbk)))))))
      have l0 : (0 : Int) < (L : Int) := by omega
      clear c0 c1 c2 c3 hc1 hsub1 hin hrow hbk hs hfs
      go_enter Try.func64, Try.ntmps64
      go_wp2_with (at_builtin; refine wpList_append_lies _ rfl (.tmp 53) (.tmp 55) 28 rfl B 55 i0 z0 3 32 Try.underlying28 HI.out.1 HI.out.2.1 HI.out.2.2.1 HI.out.2.2.2.1 HI.out.2.2.2.2 (by omega) (.slice al N cl) N (cells3 X) rfl (hownV.alloc _) ⟨(w.heap.size + 1), 0, none⟩ 1 1 [.int .i64 5, .int .i64 0, .string ⟨#[]⟩] rfl rfl (three_at (w.alloc (.cells #[.int .i64 8, .int .i64 n, .string t, .slice (some ⟨bk, off, none⟩) L cap] 25)) (w.heap.size + 1) (by simp) _ _ _ _) (by simp [Value.oneCell']) (by omega) (by unfold maxLen; omega) (by omega) (by simp; omega) ((w.heap.size + 1) + 1) (by simp) ?_; intro g5 cap5 w5 hown5 hgrow5 hat5 hlt5; have H5 := Lib.hid (tk_append hTV hgrow5 hown5 (hat5.elim Or.inl (fun e => Or.inr (by omega))) (by first | omega | (simp; omega)) (by have := HN.out; have := HSZ.out; exact ⟨by omega, by omega, by first | omega | decide⟩)); clear hgrow5 hown5 hat5 hlt5; have hz5 := H5.out.2.1.size; have d3 := (H5.out.2.2.cell (o := 3) HQ.out (by decide)).trans q3; obtain ⟨d0, d1, d2, d4, dc, ds, din, dbk, dfs⟩ := HK.out; have hW5 : But D B w w5 := (But.of_below (hVb.mono hD)).trans H5.out.2.1; have e0 := (hW5.cell (o := off) dbk.1 dbk.2).trans d0; have e1 := (hW5.cell (o := off + 1) dbk.1 dbk.2).trans d1; have e2 := (hW5.cell (o := off + 2) dbk.1 dbk.2).trans d2; have e3 := (hW5.cell (o := off + 3) dbk.1 dbk.2).trans d4; have hbk5 : bk < w5.heap.size := (by omega); have HC5 := Lib.hid (IH.out w5 _ _ o1 n1 t1 kk .nil r1 a1 cap1 f1 rfl (hW5.sub ds (fun c hc => dfs c (din c hc))) (fun c hc => dfs c (din c hc)) dc (by rw [List.length_append]; have := HN.out; simp; omega) hsz2.1 H5.out.1 (by omega) hBD); have HW5 := Lib.hid hW5; clear d0 d1 d2 d4 dc ds din dfs hW5)
      try go_wp2_with fail
      refine HC5.out.mono ?_
      rintro e6 w6 ⟨v6, Y, rfl, hT6, hY6, hB6, hK6⟩
      obtain ⟨al6, cl6, rfl, hcl6⟩ := own_slice hT6.1
      obtain ⟨M, hM⟩ : ∃ M, Y.length = M := ⟨_, rfl⟩
      have HM := Lib.hid hM
      have hYM : M ≤ N + 1 + 2 * (1 + kk.cnt) := by rw [← hM]; rw [List.length_append] at hY6; have := HN.out; simp at hY6; omega
      rw [hM] at hcl6 hT6
      have HT6 := Lib.hid hT6
      have hown6 : w6.ownsRow B 55 3 (.slice al6 M cl6) M (cells3 Y) := by have := hT6.1; rw [hM] at this; exact this
      try rw [hM]
      clear hM hT6 hY6
      have hz6 := hB6.size
      have HB6 := Lib.hid (And.intro (HW5.out.trans hB6) (((KT.of_below hVb).trans H5.out.2.2).trans hK6))
      clear hB6 hK6
      go_wp2_with (at_builtin; refine wpList_append_lies _ rfl (.tmp 62) (.tmp 64) 28 rfl B 55 i0 z0 3 32 Try.underlying28 HI.out.1 HI.out.2.1 HI.out.2.2.1 HI.out.2.2.2.1 HI.out.2.2.2.2 (by omega) (.slice al6 M cl6) M (cells3 Y) rfl (hown6.alloc _) ⟨w6.heap.size, 0, none⟩ 1 1 [.int .i64 6, .int .i64 0, .string ⟨#[]⟩] rfl rfl (three_at w6 w6.heap.size (by simp) _ _ _ _) (by simp [Value.oneCell']) (by omega) (by unfold maxLen; omega) (by omega) (by simp; omega) (w6.heap.size + 1) (by simp) ?_; intro g5 cap5 w5 hown5 hgrow5 hat5 hlt5; have H7 := Lib.hid (tk_append HT6.out hgrow5 hown5 (hat5.elim Or.inl (fun e => Or.inr (by omega))) (by first | omega | (simp; omega)) (by have := HM.out; have := HSZ.out; simp only [F.cnt] at *; exact ⟨by omega, by omega, by first | omega | decide⟩)); clear hgrow5 hown5 hat5 hlt5)
      try go_wp2_with fail
      go_ret
      exact ⟨_, _, rfl, H7.out.1, by rw [List.length_append, HM.out]; have := HN.out; simp only [F.cnt, List.length_cons, List.length_nil]; omega, HB6.out.1.trans H7.out.2.1, HB6.out.2.trans H7.out.2.2⟩
  · have b2 : (o == 2) = false := beq_eq_false_iff_ne.2 n2
    have b3 : (o == 3) = false := beq_eq_false_iff_ne.2 n3
    have b4 : (o == 4) = false := beq_eq_false_iff_ne.2 n4
    have b5 : (o == 5) = false := beq_eq_false_iff_ne.2 n5
    have b6 : (o == 6) = false := beq_eq_false_iff_ne.2 n6
    have b8 : (o == 8) = false := beq_eq_false_iff_ne.2 n8
    clear n2 n3 n4 n5 n6 n8 hone hs hfs
    have HVV := Lib.hid hV
    clear hV q0 q1 q2 q3
    go_enter Try.func64, Try.ntmps64
    go_wp2_with fail
    rw [HVV.out]
    go_loopw [5, 0] (fun i v wr => ∃ (j : Nat) (Y : List (Int × Int × ByteArray)) (z : Value), j ≤ L ∧ i = .int .i64 (j : Int) ∧ z = v ∧ (∃ p g : F, k = p.app g ∧ p.len = j ∧ Y.length ≤ N + 2 * p.cnt) ∧ TOwn wr B D Y z ∧ But D B w wr ∧ KT V wr ∧ V.heap.size ≤ wr.heap.size) (fun i _ _ => L - (intOf i).toNat)
    case atStart => exact ⟨0, X, _, by omega, rfl, rfl, ⟨.nil, k, rfl, rfl, by have := HN.out; omega⟩, by rw [HN.out] at *; exact HV.out.2.2, But.of_below (hVb.mono hD), fun _ _ _ _ h _ => h, Nat.le_refl _⟩
    case round =>
      obtain ⟨j, Y, v', hj, rfl, rfl, ⟨p, g, hk, hp, hY⟩, hTY, hbw, hkw, hvw⟩ := hrel
      obtain ⟨al6, cl6, rfl, hcl6⟩ := own_slice hTY.1
      have x3 := (hkw.cell (o := 3) HQ.out (by decide)).trans (show V.cell? ⟨w.heap.size, 3, none⟩ = some (.slice a L cap) by simp only [World.cell?, HQ.out]; rfl)
      have hlw : w.heap.size < wr.heap.size := by omega
      by_cases hjL : j < L
      · cases g with
        | nil => have := HL.out; rw [hk, F.len_app, hp] at this; simp only [F.len] at this; omega
        | cons o1 n1 t1 kk r1 =>
          obtain ⟨bk, off, f', rfl, hrow, hbk, hff⟩ : ∃ bk off f', a = some ⟨bk, off, none⟩ ∧ RowAt w k bk off f' ∧ (bk < D ∧ bk ≠ B) ∧ ∀ c ∈ f', c < D ∧ c ≠ B := by
            rcases HS.out.1 with ⟨h0, _⟩ | ⟨bk, off, f', rfl, _, hfe, hrow⟩
            · rw [h0] at hk; have := congrArg F.len hk; rw [F.len_app] at this; simp [F.len] at this
            · exact ⟨bk, off, f', rfl, hrow, HS.out.2 bk (by rw [hfe]; simp), fun c hc => HS.out.2 c (by rw [hfe]; simp [hc])⟩
          rw [hk] at hrow
          obtain ⟨a1, cap1, f1, c0, c1, c2, c3, hc1, hsub1, hin⟩ := row_at hrow
          rw [hp] at c0 c1 c2 c3
          rw [← hbw.cell hbk.1 hbk.2] at c0 c1 c2 c3
          have hbkr : bk < wr.heap.size := by have := hbw.size; omega
          have hsz2 : t1.size + kk.size ≤ 2000 ∧ N + 2 * (1 + (p.cnt + (1 + kk.cnt + r1.cnt))) ≤ 90000 := by have := HSZ.out; rw [hk, F.size_app, F.cnt_app] at this; simp only [F.size, F.cnt] at this; omega
          have HC := Lib.hid (IH.out wr Y _ o1 n1 t1 kk p r1 a1 cap1 f1 hk (hbw.sub hsub1 (fun c hc => hff c (hin c hc))) (fun c hc => hff c (hin c hc)) hc1 (by omega) hsz2.1 hTY (by have := hbw.size; omega) hBD)
          have H0 := Lib.hid (And.intro hk (And.intro hp (And.intro hY (And.intro hbw (And.intro hkw hvw)))))
          have i0' : (0 : Int) ≤ (j : Int) := Int.natCast_nonneg _
          have i1' : (j : Int) < (L : Int) := by omega
          clear hk hp hY hbw hkw hvw hTY hrow hff hsub1 hin hc1
          go_wp2_with fail
          refine HC.out.mono ?_
          rintro e6 w6 ⟨v6, Y6, rfl, hT6, hY6, hB6, hK6⟩
          have H6 := Lib.hid (And.intro hT6 (And.intro hY6 (And.intro hB6 hK6)))
          clear hT6 hY6 hB6 hK6
          go_wp2_with fail
          go_roundw
          case rel =>
            obtain ⟨hk, hp, hY, hbw, hkw, hvw⟩ := H0.out
            obtain ⟨hT6, hY6, hB6, hK6⟩ := H6.out
            exact ⟨j + 1, Y6, _, by omega, by go_num, rfl, ⟨p.app (.cons o1 n1 t1 kk .nil), r1, by rw [hk, F.app_assoc]; rfl, by rw [F.len_app, hp]; rfl, by rw [F.cnt_app]; simp only [F.cnt]; omega⟩, hT6, hbw.trans hB6, hkw.trans hK6, Nat.le_trans hvw hB6.size⟩
          case measure => simp [intOf]; omega
      · obtain rfl : j = L := by omega
        have H0 := Lib.hid (And.intro hTY (And.intro hbw hkw))
        have hYc : Y.length ≤ N + 2 * (1 + k.cnt) := by rw [hk, F.cnt_app]; omega
        clear hTY hbw hkw hk hp hY
        go_wp2_with fail
        go_ret
        exact ⟨_, Y, rfl, H0.out.1, by have := HN.out; omega, H0.out.2.1, (KT.of_below hVb).trans H0.out.2.2⟩

theorem tokI (B D : Nat) (m : Nat) : ∀ f : F, f.deep ≤ m → (∃ d, f.ok d = true) → TokI B D f := by
  induction m with
  | zero =>
    intro f hf _ w X v o n t k p r a cap fs he
    rw [he, F.deep_app] at hf; simp only [F.deep] at hf; omega
  | succ m ih =>
    intro f hf hok w X v o n t k p r a cap fs he hs hfs hc hX hsz hT hD hBD
    have hk : k.deep ≤ m := by rw [he, F.deep_app] at hf; simp only [F.deep] at hf; omega
    obtain ⟨d, hok⟩ := hok
    rw [he, F.ok_app] at hok
    simp only [F.ok, Bool.and_eq_true, decide_eq_true_eq] at hok
    obtain ⟨_, ⟨⟨hd, hn⟩, hkk⟩, _⟩ := hok
    refine tok_step B D w X v o n t k (ih k hk ⟨_, hkk⟩) a cap fs hs hfs hc hX hsz hT hD hBD (fun ho => ?_)
    simp only [nodeB, Bool.and_eq_true, decide_eq_true_eq] at hn
    have := hn.1.1
    unfold kidsOf at this
    rcases ho with rfl | rfl <;> simp at this <;> omega

end Go.Proofs.Ytcealfjkcbaelaa.Tk

