import Derived.Test.YtcealfjkcbaelaaTkD
import Derived.Test.YtcealfjkcbaelaaDrY
/-
  What the model's l6Draw comes to: some tokens of a bounded number in memory of its own.
-/
set_option linter.unusedVariables false
set_option linter.unusedSimpArgs false
namespace Go.Proofs.Ytcealfjkcbaelaa.Tk
open Go.RowKit P1 Draw Draw2 Draw6 DrD

theorem rdBut {w w' : World} {x lo q B D : Nat} (h : Rd w x lo q) (k : But D B w w') (hx : x < D) (hB : x < B) : Rd w' x lo q := by
  obtain ⟨a, l, c, h0, h1, h2, h3, h4, h5, h6⟩ := h
  refine ⟨a, l, c, by rw [k.cell hx (by omega)]; exact h0, by rw [k.cell hx (by omega)]; exact h1, by rw [k.frozen hx (by omega)]; exact h2, h3, h4, h5, fun hl => ?_⟩
  obtain ⟨b, off, e, hb, h7⟩ := h6 hl
  refine ⟨b, off, e, hb, fun i hi => ?_⟩
  obtain ⟨v, hv, h8⟩ := h7 i hi
  exact ⟨v, hv, by rw [k.cell (by omega) (by omega)]; exact h8⟩

theorem own_empty {w : World} {B : Nat} {T : TypeId} (h : w.heap[B]? = some (.cells #[] T (0, 0))) : w.ownsRow B T 3 (.slice (some ⟨B, 0, none⟩) 0 0) 0 [] :=
  ⟨rfl, .inr ⟨B, 0, #[], rfl, Nat.le_refl _, h, by omega, by unfold maxLen; omega, rfl, rfl⟩⟩

theorem cells3_get : ∀ (X : List (Int × Int × ByteArray)) (i : Nat) (h : i < X.length), (cells3 X)[i * 3]? = some (.int .i64 X[i].1) ∧ (cells3 X)[i * 3 + 1]? = some (.int .i64 X[i].2.1) ∧ (cells3 X)[i * 3 + 2]? = some (.string X[i].2.2)
  | [], i, h => absurd h (by simp)
  | r :: l, 0, _ => ⟨rfl, rfl, rfl⟩
  | r :: l, i + 1, h => by
    have := cells3_get l i (by simpa using h)
    rw [show (i + 1) * 3 = i * 3 + 3 by omega]
    exact this

/-- a row of the call's own, as tokens in memory -/
theorem own_tk {w : World} {B : Nat} {X : List (Int × Int × ByteArray)} {a : Option Addr} {n cap : Nat} (h : w.ownsRow B 55 3 (.slice a n cap) X.length (cells3 X)) (h0 : 0 < X.length) :
    ∃ g, a = some ⟨g, 0, none⟩ ∧ B ≤ g ∧ g < w.heap.size ∧ TkAt w X g 0 ∧ ∀ o, w.frozen? ⟨g, o, none⟩ = false := by
  obtain ⟨hl, h2⟩ := h
  rcases h2 with ⟨e1, e0⟩ | ⟨g, cap', cur, e1, hb, hg, hnc, hcm, hcs, ht⟩
  · omega
  · injection e1 with e2 e3 e4
    refine ⟨g, e2, hb, (Array.getElem?_eq_some_iff.1 hg).1, fun i hi => ?_, fun o => ?_⟩
    · have hc : ∀ o u, (cells3 X)[o]? = some u → w.cell? ⟨g, o, none⟩ = some u := fun o u hu => by
        have hlt : o < X.length * 3 := by rw [← cells3_len]; exact (List.getElem?_eq_some_iff.1 hu).1
        rw [← ht, List.getElem?_take_of_lt hlt] at hu
        simp only [World.cell?, hg]
        simpa using hu
      have := cells3_get X i hi
      rw [Nat.zero_add]
      exact ⟨hc _ _ this.1, hc _ _ this.2.1, hc _ _ this.2.2⟩
    · simp [World.frozen?, hg]

/-- what a draw of tokens comes to -/
def TkDraw (w : World) (x lo p : Nat) (e : Ending) (w' : World) : Prop := ∃ (X : List (Int × Int × ByteArray)) (a : Option Addr) (cap : Nat) (fs : List Nat) (q : Nat), e = .returned (.slice a X.length cap) ∧ X.length ≤ cap ∧ X.length ≤ 4000 ∧ (∀ r ∈ X, r.2.2.size ≤ 2000) ∧ TkSub w' a X fs ∧ (∀ c ∈ fs, w.heap.size ≤ c ∧ c < w'.heap.size) ∧ Rd w' x lo q ∧ q ≤ p + 1010 ∧ But w.heap.size x w w'

/-- the state behind the first call -/
structure DS (w wr : World) (x lo q : Nat) (X : List (Int × Int × ByteArray)) (v : Value) : Prop where
  rd : Rd wr x lo q
  but : But w.heap.size x w wr
  own : wr.ownsRow w.heap.size 55 3 v X.length (cells3 X)
  ln : X.length ≤ 4000
  tx : ∀ r ∈ X, r.2.2.size ≤ 2000
  lt : x < w.heap.size

theorem DS.step {w wr w' : World} {x lo q q' : Nat} {X : List (Int × Int × ByteArray)} {v : Value} (h : DS w wr x lo q X v) (hr : Rd w' x lo q') (k : But wr.heap.size x wr w') : DS w w' x lo q' X v := by
  refine ⟨hr, h.but.trans (k.mono h.but.size), ?_, h.ln, h.tx, h.lt⟩
  refine h.own.kept (row := some x) ⟨k.os, k.tape, k.output, k.size, fun i hi hne => k.block i hi (fun e => hne (by rw [e]))⟩ ?_
  cases hv : v.ownBlock with
  | none => exact .inl rfl
  | some g => exact .inr (fun e => by have := (h.own.lt g hv).1; injection e with e; have := h.lt; omega)

theorem DS.end {w wr : World} {x lo q p n cap : Nat} {X : List (Int × Int × ByteArray)} {a : Option Addr} (h : DS w wr x lo q X (.slice a n cap)) (hn : n = X.length) (hc : n ≤ cap) (hq : q ≤ p + 1010) : TkDraw w x lo p (.returned (.slice a n cap)) wr := by
  subst hn
  rcases Nat.eq_zero_or_pos X.length with h0 | h0
  · exact ⟨X, a, cap, [], q, rfl, hc, h.ln, h.tx, .inl ⟨List.eq_nil_of_length_eq_zero h0, rfl⟩, by simp, h.rd, hq, h.but⟩
  · obtain ⟨g, rfl, hg1, hg2, hat, _⟩ := own_tk h.own h0
    exact ⟨X, _, cap, [g], q, rfl, hc, h.ln, h.tx, .inr ⟨g, 0, rfl, by intro e; rw [e] at h0; simp at h0, rfl, hat⟩, by simp; exact ⟨hg1, hg2⟩, h.rd, hq, h.but⟩

theorem rdSetG {wr : World} {x lo q b o : Nat} (h : Rd wr x lo q) (hb : x < b) (u : Value) : Rd (wr.setCell ⟨b, o, none⟩ u) x lo q := by
  obtain ⟨a, l, c, h0, h1, h2, h3, h4, h5, h6⟩ := h
  refine ⟨a, l, c, by rw [World.cell?_setCell_other _ _ _ _ (by intro e; injection e with e1; omega)]; exact h0, by rw [World.cell?_setCell_other _ _ _ _ (by intro e; injection e with e1; omega)]; exact h1, by rw [World.frozen?_setCell]; exact h2, h3, h4, h5, fun hl => ?_⟩
  obtain ⟨b', off, e, hb', h7⟩ := h6 hl
  refine ⟨b', off, e, hb', fun i hi => ?_⟩
  obtain ⟨v, hv, h8⟩ := h7 i hi
  exact ⟨v, hv, by rw [World.cell?_setCell_other _ _ _ _ (by intro e; injection e with e1; omega)]; exact h8⟩
theorem set_tx {X : List (Int × Int × ByteArray)} (h : ∀ r ∈ X, r.2.2.size ≤ 2000) (j : Nat) (y : Int × Int × ByteArray) (hy : y.2.2.size ≤ 2000) : ∀ r ∈ X.set j y, r.2.2.size ≤ 2000 := fun r hr => by
  rcases List.mem_or_eq_of_mem_set hr with hr | rfl
  · exact h r hr
  · exact hy
/-- a token's kind is written anew -/
theorem DS.put0 {w wr : World} {x lo q p n cap g j : Nat} {X : List (Int × Int × ByteArray)} (h : DS w wr x lo q X (.slice (some ⟨g, 0, none⟩) n cap)) (hn : n = X.length) (hc : n ≤ cap) (hq : q ≤ p + 1010) (hj : j < X.length) (r : Int) : TkDraw w x lo p (.returned (.slice (some ⟨g, 0, none⟩) n cap)) (wr.setCell ⟨g, j * 3, none⟩ (.int .i64 r)) := by
  subst hn
  obtain ⟨g', e, hg1, hg2, hat, _⟩ := own_tk h.own (by omega)
  injection e with e; injection e with e; subst e
  have h3 := hat.setK hj (rfl : X[j] = (X[j].1, X[j].2.1, X[j].2.2)) r
  rw [Nat.zero_add] at h3
  refine ⟨X.set j (r, X[j].2.1, X[j].2.2), _, cap, [g], q, by rw [List.length_set], by rw [List.length_set]; exact hc, by rw [List.length_set]; exact h.ln, set_tx h.tx _ _ (h.tx X[j] (List.getElem_mem hj)), .inr ⟨g, 0, rfl, by intro e; have := congrArg List.length e; rw [List.length_set] at this; simp at this; subst this; simp at hj, rfl, h3⟩, by simp; exact ⟨hg1, by simpa [World.setCell] using hg2⟩, rdSetG h.rd (by have := h.lt; omega) _, hq, h.but.setCell (Or.inr hg1) _⟩
/-- a token's number is written anew -/
theorem DS.put1 {w wr : World} {x lo q p n cap g j : Nat} {X : List (Int × Int × ByteArray)} (h : DS w wr x lo q X (.slice (some ⟨g, 0, none⟩) n cap)) (hn : n = X.length) (hc : n ≤ cap) (hq : q ≤ p + 1010) (hj : j < X.length) (r : Int) : TkDraw w x lo p (.returned (.slice (some ⟨g, 0, none⟩) n cap)) (wr.setCell ⟨g, j * 3 + 1, none⟩ (.int .i64 r)) := by
  subst hn
  obtain ⟨g', e, hg1, hg2, hat, _⟩ := own_tk h.own (by omega)
  injection e with e; injection e with e; subst e
  have h3 := hat.setN hj (rfl : X[j] = (X[j].1, X[j].2.1, X[j].2.2)) r
  rw [Nat.zero_add] at h3
  refine ⟨X.set j (X[j].1, r, X[j].2.2), _, cap, [g], q, by rw [List.length_set], by rw [List.length_set]; exact hc, by rw [List.length_set]; exact h.ln, set_tx h.tx _ _ (h.tx X[j] (List.getElem_mem hj)), .inr ⟨g, 0, rfl, by intro e; have := congrArg List.length e; rw [List.length_set] at this; simp at this; subst this; simp at hj, rfl, h3⟩, by simp; exact ⟨hg1, by simpa [World.setCell] using hg2⟩, rdSetG h.rd (by have := h.lt; omega) _, hq, h.but.setCell (Or.inr hg1) _⟩
/-- the first tokens only -/
theorem DS.front {w wr : World} {x lo q p n cap g j : Nat} {X : List (Int × Int × ByteArray)} (h : DS w wr x lo q X (.slice (some ⟨g, 0, none⟩) n cap)) (hn : n = X.length) (hc : n ≤ cap) (hq : q ≤ p + 1010) (hj : j < X.length) : TkDraw w x lo p (.returned (.slice (some ⟨g, 0, none⟩) j cap)) wr := by
  subst hn
  obtain ⟨g', e, hg1, hg2, hat, _⟩ := own_tk h.own (by omega)
  injection e with e; injection e with e; subst e
  have hl : (X.take j).length = j := by rw [List.length_take]; omega
  have hln := h.ln
  refine ⟨X.take j, _, cap, if j = 0 then [] else [g], q, by rw [hl], by rw [hl]; omega, by rw [hl]; omega, fun r hr => h.tx r (List.mem_of_mem_take hr), ?_, ?_, h.rd, hq, h.but⟩
  · by_cases hj0 : j = 0
    · subst hj0; exact .inl ⟨rfl, rfl⟩
    · rw [if_neg hj0]
      exact .inr ⟨g, 0, rfl, by intro e; rw [e] at hl; simp at hl; omega, rfl, hat.take j⟩
  · split
    · simp
    · simp; exact ⟨hg1, hg2⟩
/-- a token is appended -/
theorem DS.push {w wr w5 : World} {x lo q n g cap : Nat} {X : List (Int × Int × ByteArray)} {v : Value} {o : Obj} {k m : Int} {t : ByteArray} (h : DS w wr x lo q X v) (hg : (wr.alloc o).grownBy w5 v.ownBlock) (hown : w5.ownsRow w.heap.size 55 3 (.slice (some ⟨g, 0, none⟩) n cap) n (cells3 X ++ [.int .i64 k, .int .i64 m, .string t])) (hn : n = X.length + 1) (hl : X.length < 4000) (ht : t.size ≤ 2000) : DS w w5 x lo q (X ++ [(k, m, t)]) (.slice (some ⟨g, 0, none⟩) n cap) := by
  have hb := below_append hg h.own h.but.size
  refine ⟨rdBelow h.rd h.lt hb, h.but.trans (But.of_below hb), ?_, by simp; omega, fun r hr => ?_, h.lt⟩
  · rw [cells3_app, List.length_append, show X.length + [(k, m, t)].length = n by simp; omega]; exact hown
  · rcases List.mem_append.1 hr with hr | hr
    · exact h.tx r hr
    · simp only [List.mem_singleton] at hr; subst hr; exact ht
def lenV : Value → Nat
  | .slice _ n _ => n
  | _ => 0

def kinds : List Int := [0, 9, 5, 6, 8]
def sizes : List Int := [10, 1, -1]
theorem intsK (V : World) : Ints (V.alloc (.cells #[.int .i64 0, .int .i64 9, .int .i64 5, .int .i64 6, .int .i64 8] 3)) V.heap.size 0 kinds := fun j hj => by
  have hj' : j < 5 := hj
  rw [Nat.zero_add, World.cell?_alloc_new]
  match j, hj' with
  | 0, _ => rfl
  | 1, _ => rfl
  | 2, _ => rfl
  | 3, _ => rfl
  | 4, _ => rfl
theorem intsN (V : World) : Ints (V.alloc (.cells #[.int .i64 10, .int .i64 1, .int .i64 (-1)] 3)) V.heap.size 0 sizes := fun j hj => by
  have hj' : j < 3 := hj
  rw [Nat.zero_add, World.cell?_alloc_new]
  match j, hj' with
  | 0, _ => rfl
  | 1, _ => rfl
  | 2, _ => rfl

set_option maxRecDepth 100000 in
set_option maxHeartbeats 6400000 in
theorem l6Draw (w : World) (x lo p : Nat) (hrd : Rd w x lo p) (hp : p + 2000 ≤ 1073741824) (hx : x < w.heap.size) :
    Calls Try.prog 72 #[.pointer (some ⟨x, 0, none⟩)] w (TkDraw w x lo p) := by
  have hA : ∀ o1, Below w.heap.size w (w.alloc o1) := fun o1 => (Below.refl _ _).alloc (Nat.le_refl _) _
  have HD := Lib.hid (fun o1 => l1Draw (w.alloc o1) x lo p (rdBelow hrd hx (hA o1)) (by omega) (by simp; omega))
  have HA := Lib.hid hA
  clear hA hrd
  go_enter Try.func72, Try.ntmps72
  go_wp2_with fail
  refine (HD.out _).mono ?_
  rintro e1 w1 ⟨o1, n1, t1, k1, a1, c1, f1, q1, rfl, hc1, hs1, hv1, hsub1, hfr1, hrd1, hq1, hbut1⟩
  simp only [World.size_alloc] at hfr1 hbut1
  have hB1 : w1.heap[w.heap.size]? = some (.cells #[] 55 (0, 0)) := by
    rw [hbut1.block _ (by omega) (by omega)]
    show (w.heap.push _)[w.heap.size]? = _
    exact Array.getElem?_push_size
  have hz1 := hbut1.size
  simp only [World.size_alloc] at hz1
  have hvv : okD 40 o1 n1 t1 k1 = true ∧ 1 + k1.cnt ≤ 80 := by unfold validD at hv1; simpa using hv1
  have HT := Lib.hid (tokI w.heap.size w1.heap.size (F.cons o1 n1 t1 k1 .nil).deep (.cons o1 n1 t1 k1 .nil) (Nat.le_refl _) ⟨40, by rw [ok_cons, hvv.1]; rfl⟩ w1 [] (.slice (some ⟨w.heap.size, 0, none⟩) 0 0) o1 n1 t1 k1 .nil .nil a1 c1 f1 rfl hsub1 (fun c hc => ⟨hfr1.lt c hc, by have := (hfr1.2 c hc).1; omega⟩) hc1 (by simp; omega) (by omega) ⟨own_empty hB1, fun g hg => by left; simpa [Value.ownBlock] using hg.symm, by simp, by simp⟩ (Nat.le_refl _) (by omega))
  have H1 := Lib.hid (And.intro hvv.2 (And.intro hrd1 (And.intro hq1 (And.intro hz1 ((But.of_below (x := x) (HA.out (.cells #[] 55))).trans (hbut1.mono (by omega)))))))
  clear hc1 hs1 hv1 hsub1 hfr1 hrd1 hq1 hbut1 hB1 hz1 hvv
  go_wp2_with fail
  refine HT.out.mono ?_
  rintro e2 w2 ⟨v, Y, rfl, hT2, hY2, hB2, hK2⟩
  obtain ⟨al, cl, rfl, hcl⟩ := own_slice hT2.1
  obtain ⟨N, hN⟩ : ∃ N, Y.length = N := ⟨_, rfl⟩
  have hNl : N ≤ 160 := by have := H1.out.1; simp at hY2; omega
  have H2 := Lib.hid (show DS w w2 x lo q1 Y (.slice al N cl) from by
    obtain ⟨h1, h2, h3, h4, h5⟩ := H1.out
    rw [← hN]
    exact ⟨rdBut h2 hB2 (by omega) hx, h5.trans (But.mono ⟨hB2.os, hB2.tape, hB2.output, hB2.size, fun k hk hne => hB2.block k (by omega) (by omega)⟩ (Nat.le_refl _)), hT2.1, by omega, hT2.2.2.2, hx⟩)
  have HQ := Lib.hid H1.out.2.2.1
  have HN := Lib.hid hN
  try rw [hN]
  rw [hN] at hcl
  clear hT2 hY2 hB2 hK2 hN
  rcases Nat.eq_zero_or_pos N with hN0 | hN0
  · subst hN0
    go_wp2_with fail
    go_ret
    exact H2.out.end (by have := HN.out; omega) hcl (by have := HQ.out; omega)
  · have b0 : ((N : Int) == 0) = false := beq_eq_false_iff_ne.2 (by omega)
    have HP := Lib.hid (pick w2 x lo q1 N H2.out.rd (by have := HQ.out; omega))
    go_wp2_with fail
    refine HP.out.mono ?_
    rintro e3 w3 ⟨r, rfl, hr0, hr1, hrd3, hbut3⟩
    have H3 := Lib.hid (H2.out.step hrd3 hbut3)
    obtain ⟨j, rfl⟩ := Int.eq_ofNat_of_zero_le hr0
    have hj : j < N := by omega
    have HP4 := Lib.hid (pick w3 x lo (q1 + 1) 20 H3.out.rd (by have := HQ.out; omega))
    clear hr0 hr1 hrd3 hbut3
    go_wp2_with fail
    refine HP4.out.mono ?_
    rintro e4 w4 ⟨s, rfl, hs0, hs1, hrd4, hbut4⟩
    have H4 := Lib.hid (H3.out.step hrd4 hbut4)
    clear hs0 hs1 hrd4 hbut4
    obtain ⟨g, rfl, hat⟩ : ∃ g, al = some ⟨g, 0, none⟩ ∧ (w.heap.size ≤ g ∧ g < w4.heap.size ∧ TkAt w4 Y g 0 ∧ ∀ o, w4.frozen? ⟨g, o, none⟩ = false) := own_tk H4.out.own (by have := HN.out; omega)
    have HAT := Lib.hid hat
    clear hat
    rcases (show s = 0 ∨ s = 1 ∨ s = 2 ∨ s = 3 ∨ (s ≠ 0 ∧ s ≠ 1 ∧ s ≠ 2 ∧ s ≠ 3) by omega) with rfl | rfl | rfl | rfl | ⟨n0, n1, n2, n3⟩
    · have HU := Lib.hid (num (w4.alloc (.cells #[.int .i64 0, .int .i64 9, .int .i64 5, .int .i64 6, .int .i64 8] 3)) x lo (q1 + 2) w4.heap.size 0 5 kinds (rdBelow H4.out.rd (by have := H4.out.lt; have := H4.out.but.size; omega) ((Below.refl w4.heap.size _).alloc (Nat.le_refl _) _)) (by have := HQ.out; omega) (intsK w4) (by decide) (by decide) (by decide) (by simp) (by have := H4.out.lt; have := H4.out.but.size; omega))
      have j0 : (0 : Int) ≤ (j : Int) := Int.natCast_nonneg _
      have j1 : (j : Int) < (N : Int) := by omega
      go_wp2_with fail
      refine HU.out.mono ?_
      rintro e5 w5 ⟨r, hr, rfl, hrd5, hbut5⟩
      have H5 := Lib.hid (H4.out.step hrd5 ((But.of_below ((Below.refl w4.heap.size _).alloc (Nat.le_refl _) (.cells #[.int .i64 0, .int .i64 9, .int .i64 5, .int .i64 6, .int .i64 8] 3))).trans (hbut5.mono (by simp))))
      obtain ⟨g', e', hg1, hg2, hat, hfz⟩ := own_tk H5.out.own (by have := HN.out; omega)
      injection e' with e'; injection e' with e'; subst e'
      have hjY : j < Y.length := by have := HN.out; omega
      have c0 := (hat j hjY).1
      rw [Nat.zero_add] at c0
      have f0 := hfz (j * 3)
      clear hr hrd5 hbut5 hat hfz hg1
      go_wp2_with fail
      go_ret
      exact H5.out.put0 (by have := HN.out; omega) hcl (by have := HQ.out; omega) hjY r
    · have HU := Lib.hid (num (w4.alloc (.cells #[.int .i64 10, .int .i64 1, .int .i64 (-1)] 3)) x lo (q1 + 2) w4.heap.size 0 3 sizes (rdBelow H4.out.rd (by have := H4.out.lt; have := H4.out.but.size; omega) ((Below.refl w4.heap.size _).alloc (Nat.le_refl _) _)) (by have := HQ.out; omega) (intsN w4) (by decide) (by decide) (by decide) (by simp) (by have := H4.out.lt; have := H4.out.but.size; omega))
      have j0 : (0 : Int) ≤ (j : Int) := Int.natCast_nonneg _
      have j1 : (j : Int) < (N : Int) := by omega
      go_wp2_with fail
      refine HU.out.mono ?_
      rintro e5 w5 ⟨r, hr, rfl, hrd5, hbut5⟩
      have H5 := Lib.hid (H4.out.step hrd5 ((But.of_below ((Below.refl w4.heap.size _).alloc (Nat.le_refl _) (.cells #[.int .i64 10, .int .i64 1, .int .i64 (-1)] 3))).trans (hbut5.mono (by simp))))
      obtain ⟨g', e', hg1, hg2, hat, hfz⟩ := own_tk H5.out.own (by have := HN.out; omega)
      injection e' with e'; injection e' with e'; subst e'
      have hjY : j < Y.length := by have := HN.out; omega
      have c0 := (hat j hjY).2.1
      rw [Nat.zero_add] at c0
      have f0 := hfz (j * 3 + 1)
      clear hr hrd5 hbut5 hat hfz hg1
      go_wp2_with fail
      go_ret
      exact H5.out.put1 (by have := HN.out; omega) hcl (by have := HQ.out; omega) hjY r
    · have j0 : (0 : Int) ≤ (j : Int) := Int.natCast_nonneg _
      have j1 : (j : Int) ≤ (cl : Int) := by omega
      go_wp2_with fail
      go_ret
      exact H4.out.front (by have := HN.out; omega) hcl (by have := HQ.out; omega) (by have := HN.out; omega)
    · obtain ⟨i0, z0, hi, hz, hz1, hz2, hz3⟩ := info_some infoT3
      have HI := Lib.hid (And.intro hi (And.intro hz (And.intro hz1 (And.intro hz2 hz3))))
      clear hi hz hz1 hz2 hz3
      go_wp2_with fail
      go_loopw [3] (fun v wr => ∃ (X : List (Int × Int × ByteArray)) (M : Nat) (a : Option Addr) (c : Nat), v = .slice a M c ∧ X.length = M ∧ M ≤ c ∧ M ≤ 300 ∧ DS w wr x lo (q1 + 2) X (.slice a M c)) (fun v _ => 220 - lenV v)
      case atStart => exact ⟨Y, N, _, cl, rfl, HN.out, hcl, by omega, H4.out⟩
      case round =>
        obtain ⟨X, M, a, c, rfl, hX, hMc, hM, hds⟩ := hrel
        have HX := Lib.hid hX
        have H5 := Lib.hid hds
        have hown : wr.ownsRow w.heap.size 55 3 (.slice a M c) M (cells3 X) := by have := hds.own; rw [hX] at this; exact this
        have hbs := hds.but.size
        clear hds hX
        by_cases hM2 : M < 220
        · have m1 : (M : Int) < 220 := by omega
          go_wp2_with (at_builtin; refine wpList_append_lies _ rfl (.tmp 47) (.tmp 49) 28 rfl w.heap.size 55 i0 z0 3 32 Try.underlying28 HI.out.1 HI.out.2.1 HI.out.2.2.1 HI.out.2.2.2.1 HI.out.2.2.2.2 (by omega) (.slice a M c) M (cells3 X) rfl (hown.alloc _) ⟨wr.heap.size, 0, none⟩ 1 1 [.int .i64 2, .int .i64 0, .string ⟨#[]⟩] rfl rfl (three_at wr wr.heap.size rfl _ _ _ _) (by simp [Value.oneCell']) (by omega) (by unfold maxLen; omega) (by omega) (by simp; omega) (wr.heap.size + 1) (by simp) ?_; intro g5 cap5 w5 hown5 hgrow5 hat5 hlt5; have H6 := Lib.hid (H5.out.push hgrow5 hown5 (by have := HX.out; omega) (by have := HX.out; omega) (by decide)); clear hgrow5 hown5 hat5 hlt5)
          go_roundw
          case rel => exact ⟨_, M + 1, _, _, rfl, by rw [List.length_append, HX.out]; rfl, (own_slice H6.out.own).elim (fun _ h => h.elim (fun _ h => by have h1 := h.1; have h2 := h.2; injection h1 with _ _ h3; rw [List.length_append, HX.out] at h2; simp at h2; omega)), by omega, H6.out⟩
          case measure => simp [lenV]; omega
        · have m1 : ¬ (M : Int) < 220 := by omega
          go_wp2_with fail
          go_ret
          exact H5.out.end (by have := HX.out; omega) hMc (by have := HQ.out; omega)
    · have b0 : (s == 0) = false := beq_eq_false_iff_ne.2 n0
      have b1 : (s == 1) = false := beq_eq_false_iff_ne.2 n1
      have b2 : (s == 2) = false := beq_eq_false_iff_ne.2 n2
      have b3 : (s == 3) = false := beq_eq_false_iff_ne.2 n3
      clear n0 n1 n2 n3
      go_wp2_with fail
      go_ret
      exact H4.out.end (by have := HN.out; omega) hcl (by have := HQ.out; omega)

end Go.Proofs.Ytcealfjkcbaelaa.Tk

/-
  The draws of tokens and a width.
-/
set_option linter.unusedVariables false
set_option linter.unusedSimpArgs false
namespace Go.Proofs.Ytcealfjkcbaelaa.Tk
open Go.RowKit P1 Draw Draw2 Draw6 DrD

def widths11 : List Int := [8, 5, 12, 3, 20, 0, 16, 7, 10, 201, -1]
theorem widths11_ok : ∀ r ∈ widths11, -1 ≤ r ∧ r ≤ 201 := by decide
theorem ints11 (V : World) : Ints (V.alloc (.cells #[.int .i64 8, .int .i64 5, .int .i64 12, .int .i64 3, .int .i64 20, .int .i64 0, .int .i64 16, .int .i64 7, .int .i64 10, .int .i64 201, .int .i64 (-1)] 3)) V.heap.size 0 widths11 := fun j hj => by
  have hj' : j < 11 := hj
  rw [Nat.zero_add, World.cell?_alloc_new]
  match j, hj' with
  | 0, _ => rfl
  | 1, _ => rfl
  | 2, _ => rfl
  | 3, _ => rfl
  | 4, _ => rfl
  | 5, _ => rfl
  | 6, _ => rfl
  | 7, _ => rfl
  | 8, _ => rfl
  | 9, _ => rfl
  | 10, _ => rfl
/-- some tokens, in memory of the call's own, and a width -/
def ToksW (w : World) (e : Ending) (w' : World) : Prop := ∃ (X : List (Int × Int × ByteArray)) (a : Option Addr) (cap : Nat) (fs : List Nat) (op : Int), e = .returned (.tuple #[.slice a X.length cap, .int .i64 op]) ∧ (-1 ≤ op ∧ op ≤ 201) ∧ X.length ≤ cap ∧ X.length ≤ 4000 ∧ (∀ r ∈ X, r.2.2.size ≤ 2000) ∧ TkSub w' a X fs ∧ (∀ c ∈ fs, w.heap.size ≤ c ∧ c < w'.heap.size) ∧ Below w.heap.size w w'
theorem tkBut {w w' : World} {a : Option Addr} {X : List (Int × Int × ByteArray)} {fs : List Nat} {B x : Nat} (h : TkSub w a X fs) (k : But B x w w') (hf : ∀ c ∈ fs, c < B ∧ c ≠ x) : TkSub w' a X fs :=
  h.congr fun b hb o => k.cell (hf b hb).1 (hf b hb).2

set_option maxRecDepth 100000 in
set_option maxHeartbeats 1600000 in
theorem drawStreamRows (w : World) (a : Option Addr) (len cap : Nat) (hb : Bytes w a len) (hlc : len ≤ cap) (hcm : cap ≤ maxLen) :
    Calls Try.prog 24 #[.slice a len cap] w (ToksW w) := by
  have HO := Lib.hid (l15Open w a len cap hb hlc hcm)
  clear hb hlc hcm
  go_enter Try.func24, Try.ntmps24
  go_wp2_with fail
  refine HO.out.mono ?_
  rintro e1 w1 ⟨rfl, hrd1, hlt1, hb1⟩
  have HD := Lib.hid (l6Draw w1 w.heap.size _ 0 hrd1 (by omega) hlt1)
  have H1 := Lib.hid (And.intro hlt1 hb1)
  clear hrd1 hlt1 hb1
  go_wp2_with fail
  refine HD.out.mono ?_
  rintro e2 w2 ⟨X, b, c, fs, q, rfl, hc, hl, ht, hs, hf, hrd, hq, hbut⟩
  have hx2 : w.heap.size < w2.heap.size := Nat.lt_of_lt_of_le H1.out.1 hbut.size
  have HU := Lib.hid (num (w2.alloc (.cells #[.int .i64 8, .int .i64 5, .int .i64 12, .int .i64 3, .int .i64 20, .int .i64 0, .int .i64 16, .int .i64 7, .int .i64 10, .int .i64 201, .int .i64 (-1)] 3)) w.heap.size _ q w2.heap.size 0 11 widths11 (rdBelow hrd hx2 ((Below.refl w2.heap.size _).alloc (Nat.le_refl _) _)) (by omega) (ints11 w2) (by decide) (by decide) (by decide) (by simp) (by omega))
  have H2 := Lib.hid (And.intro hc (And.intro hl (And.intro ht (And.intro hs (And.intro hf (And.intro hbut hx2))))))
  clear hc hl ht hs hf hrd hq hbut hx2
  go_wp2_with fail
  refine HU.out.mono ?_
  rintro e3 w3 ⟨op, hmem, rfl, hrd3, hbut3⟩
  have H3 := Lib.hid (And.intro (widths11_ok op hmem) hbut3)
  clear hmem hrd3 hbut3
  go_wp2_with fail
  go_ret2
  obtain ⟨hc, hl, ht, hs, hf, hbut, hx2⟩ := H2.out
  have h1 := H1.out.1
  have hb3 : But w2.heap.size w.heap.size w2 w3 := (But.of_below ((Below.refl w2.heap.size w2).alloc (Nat.le_refl _) _)).trans (H3.out.2.mono (by simp))
  exact ⟨X, b, c, fs, op, rfl, H3.out.1, hc, hl, ht, tkBut hs hb3 (fun c hc => ⟨(hf c hc).2, by have := (hf c hc).1; omega⟩), fun c hc => ⟨by have := (hf c hc).1; omega, Nat.lt_of_lt_of_le (hf c hc).2 hb3.size⟩, (H1.out.2.trans (hbut.below (by omega) (Nat.le_refl _))).trans (hb3.below (by omega) (Nat.le_refl _))⟩

end Go.Proofs.Ytcealfjkcbaelaa.Tk

