/-
  What the model's l1Some comes to: some well-formed document of a bounded size, in memory of its own.
-/
import Derived.Test.YtjpgnhpfmdjamaaDraw2
import Derived.Test.YtjpgnhpfmdjamaaValid
namespace Go.Proofs.Ytjpgnhpfmdjamaa.DrA
open Go.RowKit P1 Draw Draw2
set_option linter.unusedVariables false
set_option linter.unusedSimpArgs false

/-- every node is well-formed -/
def wfF : F → Bool
  | .nil => true
  | .cons o n t k r => nodeB o n t k.len && wfF k && wfF r
def wfD (o n : Int) (t : ByteArray) (k : F) : Bool := nodeB o n t k.len && wfF k
theorem ok_of_wf : ∀ (f : F) (d : Nat), wfF f = true → f.deep ≤ d → f.ok d = true
  | .nil, _, _, _ => rfl
  | .cons o n t k r, d, h, hd => by
    simp only [wfF, Bool.and_eq_true] at h
    simp only [F.deep] at hd
    simp only [F.ok, Bool.and_eq_true, decide_eq_true_eq]
    exact ⟨⟨⟨by omega, h.1.1⟩, ok_of_wf k (d - 1) h.1.2 (by omega)⟩, ok_of_wf r d h.2 (by omega)⟩
theorem okD_of_wf {o n : Int} {t : ByteArray} {k : F} {d : Nat} (h : wfD o n t k = true) (hd : k.deep + 1 ≤ d) : okD d o n t k = true := by
  simp only [wfD, Bool.and_eq_true] at h
  simp only [okD, Bool.and_eq_true, decide_eq_true_eq]
  exact ⟨⟨by omega, h.1⟩, ok_of_wf k (d - 1) h.2 (by omega)⟩
theorem wf_leaf {o n : Int} {t : ByteArray} (h : nodeB o n t 0 = true) : wfD o n t .nil = true := by simp [wfD, wfF, F.len, h]
theorem wf_one {o n o1 n1 : Int} {t t1 : ByteArray} {k1 : F} (h : nodeB o n t 1 = true) (h1 : wfD o1 n1 t1 k1 = true) : wfD o n t (.cons o1 n1 t1 k1 .nil) = true := by
  simp only [wfD, wfF, F.len, Bool.and_eq_true] at h1 ⊢
  exact ⟨h, ⟨h1, trivial⟩⟩
theorem wf_two {o n o1 n1 o2 n2 : Int} {t t1 t2 : ByteArray} {k1 k2 : F} (h : nodeB o n t 2 = true) (h1 : wfD o1 n1 t1 k1 = true) (h2 : wfD o2 n2 t2 k2 = true) : wfD o n t (.cons o1 n1 t1 k1 (.cons o2 n2 t2 k2 .nil)) = true := by
  simp only [wfD, wfF, F.len, Bool.and_eq_true] at h1 h2 ⊢
  exact ⟨h, ⟨h1, ⟨h2, trivial⟩⟩⟩

def sizeB : Nat → Nat
  | 0 => 8
  | d + 1 => 2 * sizeB d + 12
def drawB : Nat → Nat
  | 0 => 2
  | d + 1 => 2 * drawB d + 4
theorem drawB_two (d : Nat) : 2 ≤ drawB d := by cases d with
  | zero => simp [drawB]
  | succ d => simp only [drawB]; omega
theorem sizeB_8 (d : Nat) : 8 ≤ sizeB d := by
  induction d with
  | zero => simp [sizeB]
  | succ d ih => simp only [sizeB]; omega

/-- what is known of a made document: at most s bytes and nodes, well-formed, at most e deep below itself -/
def Bd (s e : Nat) (o n : Int) (t : ByteArray) (k : F) : Prop := t.size + k.size ≤ s ∧ wfD o n t k = true ∧ k.deep ≤ e
theorem Bd.mono {s e s' e' : Nat} {o n : Int} {t : ByteArray} {k : F} (h : Bd s e o n t k) (hs : s ≤ s') (he : e ≤ e') : Bd s' e' o n t k := ⟨by have := h.1; omega, h.2.1, by have := h.2.2; omega⟩

/-- a document in memory from lo on, of at most s bytes and nodes -/
def Made (w : World) (lo s e : Nat) (v : Value) : Prop := ∃ (o n : Int) (t : ByteArray) (k : F) (a : Option Addr) (cap : Nat) (fs : List Nat), v = .agg #[.int .i64 o, .int .i64 n, .string t, .slice a k.len cap] ∧ k.len ≤ cap ∧ Bd s e o n t k ∧ SubAt w a k fs ∧ Fresh lo w fs

def SomeOut (w : World) (x lo p s dp c : Nat) (e : Ending) (w' : World) : Prop := ∃ (v : Value) (q : Nat), e = .returned v ∧ Made w' w.heap.size s dp v ∧ Rd w' x lo q ∧ q ≤ p + c ∧ But w.heap.size x w w'

theorem SomeOut.mono {w w' : World} {x lo p s dp c s' dp' c' : Nat} {e : Ending} (h : SomeOut w x lo p s dp c e w') (hs : s ≤ s') (hd : dp ≤ dp') (hc : c ≤ c') : SomeOut w x lo p s' dp' c' e w' := by
  obtain ⟨v, q, h1, ⟨o, n, t, k, a, cap, fs, h2, h3, h4, h5, h6⟩, h7, h8, h9⟩ := h
  exact ⟨v, q, h1, ⟨o, n, t, k, a, cap, fs, h2, h3, h4.mono hs hd, h5, h6⟩, h7, by omega, h9⟩

/-- a document without Kids -/
theorem made_leaf (w : World) (lo : Nat) (o n : Int) (t : ByteArray) (ht : t.size ≤ 8) (s : Nat) (hs : 8 ≤ s) (e : Nat) (hn : nodeB o n t 0 = true) : Made w lo s e (.agg #[.int .i64 o, .int .i64 n, .string t, .slice none 0 0]) :=
  ⟨o, n, t, .nil, none, 0, [], rfl, by simp [F.len], ⟨by simp [F.size]; omega, wf_leaf hn, by simp [F.deep]⟩, .inl ⟨rfl, rfl⟩, Fresh.nil _ _⟩

/-- a short valid text, and one number more drawn -/
def WordV (w : World) (x lo p : Nat) (e : Ending) (w' : World) : Prop := ∃ r : ByteArray, e = .returned (.string r) ∧ (r.size ≤ 8 ∧ tv r.data.toList = true) ∧ Rd w' x lo (p + 1) ∧ But w.heap.size x w w'
theorem word_node {t : ByteArray} (h : tv t.data.toList = true) : nodeB 2 0 t 0 = true := by simp [nodeB, kidsOf, textB, numB, h]
set_option maxRecDepth 100000 in
set_option maxHeartbeats 800000 in
theorem word2 (w : World) (x lo p : Nat) (hrd : Rd w x lo p) (hp : p ≤ 1073741824) (hx : x < w.heap.size) :
    Calls Try.prog 102 #[.pointer (some ⟨x, 0, none⟩)] w (WordV w x lo p) := by
  go_enter Try.func102, Try.ntmps102
  go_wp2_with fail
  refine (Draw.of _ x lo p w.heap.size 0 10 words (rdBelow hrd hx ((Below.refl _ _).alloc (Nat.le_refl _) _)) hp (fun i hi => ?_) (by decide) (by decide) (by decide) (by simp) (by omega)).mono ?_
  · rw [World.cell?_alloc_new]
    have hi' : i < 10 := hi
    match i, hi' with
    | 0, _ => rfl
    | 1, _ => rfl
    | 2, _ => rfl
    | 3, _ => rfl
    | 4, _ => rfl
    | 5, _ => rfl
    | 6, _ => rfl
    | 7, _ => rfl
    | 8, _ => rfl
    | 9, _ => rfl
  · rintro e1 w1 ⟨r, hr, rfl, hrd1, hbut⟩
    have hsz : r.size ≤ 8 ∧ tv r.data.toList = true := by
      have : ∀ r ∈ words, r.size ≤ 8 ∧ tv r.data.toList = true := by decide
      exact this r hr
    have HR := Lib.hid (And.intro hsz (And.intro hrd1 hbut))
    clear hsz hrd1 hbut hr
    go_wp2_with fail
    go_ret
    obtain ⟨hsz, hrd1, hbut⟩ := HR.out
    exact ⟨r, rfl, hsz, hrd1, ((But.refl _ _ _).alloc (Nat.le_refl _) _).trans (hbut.mono (by simp))⟩

theorem rdTouch {w w' : World} {x lo p L U : Nat} (h : Rd w x lo p) (hx : x < L) (k : Touch L U w w') : Rd w' x lo p := by
  obtain ⟨a, l, c, h0, h1, h2, h3, h4, h5, h6⟩ := h
  refine ⟨a, l, c, by rw [k.cell (Or.inl hx)]; exact h0, by rw [k.cell (Or.inl hx)]; exact h1, by rw [k.frozen (Or.inl hx)]; exact h2, h3, h4, h5, fun hl => ?_⟩
  obtain ⟨b, off, ha, hb, hc⟩ := h6 hl
  refine ⟨b, off, ha, hb, fun i hi => ?_⟩
  obtain ⟨v, hv, hcell⟩ := hc i hi
  exact ⟨v, hv, by rw [k.cell (Or.inl (show b < L by omega))]; exact hcell⟩

theorem butTouch {B x L U : Nat} {a w w' : World} (h : But B x a w) (k : Touch L U w w') (hB : B ≤ L) : But B x a w' :=
  h.trans ⟨k.os, k.tape, k.output, Nat.le_of_eq k.size.symm, fun i hi _ => k.block i (Or.inl (by omega))⟩

theorem madeTouch {w w' : World} {lo s dp L U : Nat} {v : Value} (h : Made w lo s dp v) (k : Touch L U w w') (hU : U ≤ lo) : Made w' lo s dp v := by
  obtain ⟨o, n, t, f, a, cap, fs, h2, h3, h4, h5, h6⟩ := h
  exact ⟨o, n, t, f, a, cap, fs, h2, h3, h4, k.sub h5 (fun c hc => Or.inr (Nat.le_trans hU (h6.2 c hc).1)), k.fresh h6 (fun c hc => Or.inr (Nat.le_trans hU (h6.2 c hc).1))⟩

theorem madeMono {w : World} {lo lo' s s' dp dp' : Nat} {v : Value} (h : Made w lo s dp v) (hl : lo' ≤ lo) (hs : s ≤ s') (hd : dp ≤ dp') : Made w lo' s' dp' v := by
  obtain ⟨o, n, t, f, a, cap, fs, h2, h3, h4, h5, h6⟩ := h
  exact ⟨o, n, t, f, a, cap, fs, h2, h3, h4.mono hs hd, h5, h6.mono hl⟩

/-- the end of a branch: what was made stands in the result's variable, the call's first block -/
theorem end_of {w w1 w2 : World} {x lo p q s dp c : Nat} {v : Value} (hx : x < w.heap.size) (hm : Made w1 (w.heap.size + 1) s dp v) (hr : Rd w1 x lo q) (hq : q ≤ p + c) (hb : But w.heap.size x w w1) (ht : Touch w.heap.size (w.heap.size + 1) w1 w2) :
    SomeOut w x lo p s dp c (.returned v) w2 :=
  ⟨v, q, rfl, madeMono (madeTouch hm ht (Nat.le_refl _)) (by omega) (Nat.le_refl _) (Nat.le_refl _), rdTouch hr hx ht, hq, butTouch hb ht (Nat.le_refl _)⟩

set_option maxRecDepth 100000 in
set_option maxHeartbeats 1600000 in
theorem some0 (w : World) (x lo p : Nat) (hrd : Rd w x lo p) (hp : p + 2 ≤ 1073741824) (hx : x < w.heap.size) :
    Calls Try.prog 84 #[.pointer (some ⟨x, 0, none⟩), .int .i64 0] w (SomeOut w x lo p 8 0 2) := by
  have hA : ∀ ob, Below w.heap.size w (w.alloc ob) := fun ob => (Below.refl _ _).alloc (Nat.le_refl _) _
  have hpk := fun ob => pick (w.alloc ob) x lo p 8 (rdBelow hrd hx (hA ob)) (by omega)
  have HP := Lib.hid hpk
  clear hpk hrd
  go_enter Try.func84, Try.ntmps84
  go_wp2_with fail
  refine (HP.out _).mono ?_
  rintro e1 w1 ⟨r, rfl, hr0, hr1, hrd1, hbut⟩
  have hxr : x < w1.heap.size := by have := hbut.size; simp at this; omega
  have hzr : w.heap.size < w1.heap.size := by have := hbut.size; simp at this; omega
  have hne : w.heap.size ≠ x := by omega
  have hcell : ∀ o, w1.cell? ⟨w.heap.size, o, none⟩ = _ := fun o => hbut.cell (c := w.heap.size) (o := o) (by simp) hne
  have hfz : ∀ o, w1.frozen? ⟨w.heap.size, o, none⟩ = _ := fun o => hbut.frozen (c := w.heap.size) (o := o) (by simp) hne
  have HB := Lib.hid (And.intro hrd1 (((But.refl w.heap.size x w).alloc (Nat.le_refl _) _).trans (hbut.mono (by simp))))
  clear hrd1 hbut
  have hc : r = 0 ∨ r = 1 ∨ r = 2 ∨ r = 3 ∨ (4 ≤ r ∧ r < 8) := by omega
  clear hr0 hr1
  rcases hc with rfl | rfl | rfl | rfl | ⟨hr4, hr8⟩
  · go_wp2_with fail
    refine bodyPost_ret (v := .agg #[.int .i64 1, .int .i64 0, .string ⟨#[]⟩, .slice none 0 0]) (by simp [results, Try.results84, go_sem, hcell, hfz, hzr]) rfl ?_
    refine end_of (w1 := w1) (q := p + 1) hx (made_leaf _ _ _ _ _ (by decide) _ (by omega) _ (by decide)) HB.out.1 (by omega) HB.out.2 ?_
    repeat (first | exact Touch.refl _ _ _ | refine Touch.setCell ?_ (by simp) (by simp) _)
  · go_wp2_with fail
    refine bodyPost_ret (v := .agg #[.int .i64 3, .int .i64 0, .string ⟨#[]⟩, .slice none 0 0]) (by simp [results, Try.results84, go_sem, hcell, hfz, hzr]) rfl ?_
    refine end_of (w1 := w1) (q := p + 1) hx (made_leaf _ _ _ _ _ (by decide) _ (by omega) _ (by decide)) HB.out.1 (by omega) HB.out.2 ?_
    repeat (first | exact Touch.refl _ _ _ | refine Touch.setCell ?_ (by simp) (by simp) _)
  · go_wp2_with fail
    refine bodyPost_ret (v := .agg #[.int .i64 3, .int .i64 0, .string ⟨#[]⟩, .slice none 0 0]) (by simp [results, Try.results84, go_sem, hcell, hfz, hzr]) rfl ?_
    refine end_of (w1 := w1) (q := p + 1) hx (made_leaf _ _ _ _ _ (by decide) _ (by omega) _ (by decide)) HB.out.1 (by omega) HB.out.2 ?_
    repeat (first | exact Touch.refl _ _ _ | refine Touch.setCell ?_ (by simp) (by simp) _)
  · go_wp2_with fail
    refine bodyPost_ret (v := .agg #[.int .i64 4, .int .i64 0, .string ⟨#[]⟩, .slice none 0 0]) (by simp [results, Try.results84, go_sem, hcell, hfz, hzr]) rfl ?_
    refine end_of (w1 := w1) (q := p + 1) hx (made_leaf _ _ _ _ _ (by decide) _ (by omega) _ (by decide)) HB.out.1 (by omega) HB.out.2 ?_
    repeat (first | exact Touch.refl _ _ _ | refine Touch.setCell ?_ (by simp) (by simp) _)
  · have b0 : (r == 0) = false := beq_eq_false_iff_ne.2 (by omega)
    have b1 : (r == 1) = false := beq_eq_false_iff_ne.2 (by omega)
    have b2 : (r == 2) = false := beq_eq_false_iff_ne.2 (by omega)
    have b3 : (r == 3) = false := beq_eq_false_iff_ne.2 (by omega)
    clear hr4 hr8
    go_wp2_with fail
    refine (word2 w1 x lo (p + 1) HB.out.1 (by omega) hxr).mono ?_
    rintro e2 w2 ⟨t, rfl, ht, hrd2, hbut2⟩
    have hcell2 : ∀ o, w2.cell? ⟨w.heap.size, o, none⟩ = _ := fun o => (hbut2.cell (c := w.heap.size) (o := o) hzr hne).trans (hcell o)
    have hfz2 : ∀ o, w2.frozen? ⟨w.heap.size, o, none⟩ = _ := fun o => (hbut2.frozen (c := w.heap.size) (o := o) hzr hne).trans (hfz o)
    have hzr2 : w.heap.size < w2.heap.size := Nat.lt_of_lt_of_le hzr hbut2.size
    have HB2 := Lib.hid (And.intro ht (And.intro hrd2 (HB.out.2.trans (hbut2.mono (by omega)))))
    clear hrd2 hbut2 hcell hfz ht b0 b1 b2 b3
    go_wp2_with fail
    refine bodyPost_ret (v := .agg #[.int .i64 2, .int .i64 0, .string t, .slice none 0 0]) (by simp [results, Try.results84, go_sem, hcell2, hfz2, hzr2]) rfl ?_
    refine end_of (w1 := w2) (q := p + 1 + 1) hx (made_leaf _ _ _ _ _ HB2.out.1.1 _ (by omega) _ (word_node HB2.out.1.2)) HB2.out.2.1 (by omega) HB2.out.2.2 ?_
    repeat (first | exact Touch.refl _ _ _ | refine Touch.setCell ?_ (by simp) (by simp) _)

end Go.Proofs.Ytjpgnhpfmdjamaa.DrA
