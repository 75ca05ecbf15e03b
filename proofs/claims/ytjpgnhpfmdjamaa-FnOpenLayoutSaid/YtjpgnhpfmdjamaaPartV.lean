/-
  What the program's partValid and DocValid come to.
-/
import Derived.Test.YtjpgnhpfmdjamaaNodeV
set_option linter.unusedVariables false
set_option linter.unusedSimpArgs false
namespace Go.Proofs.Ytjpgnhpfmdjamaa.PartV
open Go.RowKit P1

theorem ret_bool {a b : Bool} (h : a = b) : Ending.returned (.bool a) = .returned (.bool b) := by rw [h]

/-- well-formed down to e nodes, and of at most L nodes -/
def fitB (e L : Nat) (o n : Int) (t : ByteArray) (k : F) : Bool := okD e o n t k && decide (1 + k.cnt ≤ L)

/-- what partValid comes to: its counter, in block x, has what is left -/
def PvOut (w : World) (x e L : Nat) (o n : Int) (t : ByteArray) (k : F) (en : Ending) (w' : World) : Prop :=
  en = .returned (.bool (fitB e L o n t k)) ∧ (fitB e L o n t k = true → w'.cell? ⟨x, 0, none⟩ = some (.int .i64 ((L - (1 + k.cnt) : Nat) : Int))) ∧ w'.frozen? ⟨x, 0, none⟩ = false ∧ But w.heap.size x w w'

/-- the contract of partValid at the documents of a list -/
def PvS (f : F) : Prop := ∀ (w : World) (o n : Int) (t : ByteArray) (k : F) (p r : F) (a : Option Addr) (cap : Nat) (fs : List Nat) (d : Int) (e L x : Nat), f = p.app (.cons o n t k r) → SubAt w a k fs → (∀ c ∈ fs, c < w.heap.size ∧ c ≠ x) → k.len ≤ cap → f.Fits → d + e = 41 → e ≤ 40 → L ≤ 80 → x < w.heap.size →
  w.cell? ⟨x, 0, none⟩ = some (.int .i64 L) → w.frozen? ⟨x, 0, none⟩ = false →
  Calls Try.prog 59 #[.agg #[.int .i64 o, .int .i64 n, .string t, .slice a k.len cap], .int .i64 d, .pointer (some ⟨x, 0, none⟩)] w (PvOut w x e L o n t k)

theorem fit_none (e : Nat) (o n : Int) (t : ByteArray) (k : F) : fitB e 0 o n t k = false := by simp [fitB]
theorem fit_deep (L : Nat) (o n : Int) (t : ByteArray) (k : F) : fitB 0 L o n t k = false := by simp [fitB, okD_zero]
theorem fit_node {o n : Int} {t : ByteArray} {k : F} (h : nodeB o n t k.len = false) (e L : Nat) : fitB e L o n t k = false := by simp [fitB, okD_bad h]
theorem fit_good {o n : Int} {t : ByteArray} {k : F} (h : nodeB o n t k.len = true) (e L : Nat) : fitB (e + 1) L o n t k = (k.ok e && decide (1 + k.cnt ≤ L)) := by simp [fitB, okD_good h]

set_option maxRecDepth 100000 in
set_option maxHeartbeats 800000 in
theorem pv_none (w : World) (o n : Int) (t : ByteArray) (k : F) (a : Option Addr) (cap : Nat) (d : Int) (x : Nat) (hx : x < w.heap.size) (hc : w.cell? ⟨x, 0, none⟩ = some (.int .i64 0)) (hz : w.frozen? ⟨x, 0, none⟩ = false) :
    Calls Try.prog 59 #[.agg #[.int .i64 o, .int .i64 n, .string t, .slice a k.len cap], .int .i64 d, .pointer (some ⟨x, 0, none⟩)] w fun en w' => en = .returned (.bool false) ∧ w'.frozen? ⟨x, 0, none⟩ = false ∧ But w.heap.size x w w' := by
  have hne : x ≠ w.heap.size := by omega
  have hcA : ∀ ob, (w.alloc ob).cell? ⟨x, 0, none⟩ = some (.int .i64 0) := fun ob => (World.cell?_alloc_lt w ob ⟨x, 0, none⟩ hx).trans hc
  have hzA : ∀ ob, (w.alloc ob).frozen? ⟨x, 0, none⟩ = false := fun ob => (World.frozen?_alloc_old w ob ⟨x, 0, none⟩ hne).trans hz
  go_enter Try.func59, Try.ntmps59
  go_wp2_with fail
  go_ret
  exact ⟨rfl, by rw [World.frozen?_alloc_old _ _ _ (by simp; omega), World.frozen?_setCell]; exact hz, by repeat (first | exact But.refl _ _ _ | refine But.setCell (p := ⟨x, 0, none⟩) ?_ (Or.inl rfl) _ | refine But.alloc ?_ (by simp) _)⟩

set_option maxRecDepth 100000 in
set_option maxHeartbeats 1600000 in
theorem pv_deep (w : World) (o n : Int) (t : ByteArray) (k : F) (a : Option Addr) (cap : Nat) (d : Int) (L x : Nat) (hx : x < w.heap.size) (hc : w.cell? ⟨x, 0, none⟩ = some (.int .i64 L)) (hz : w.frozen? ⟨x, 0, none⟩ = false) (hL : 1 ≤ L) (hL8 : L ≤ 80) (hd : d = 41) :
    Calls Try.prog 59 #[.agg #[.int .i64 o, .int .i64 n, .string t, .slice a k.len cap], .int .i64 d, .pointer (some ⟨x, 0, none⟩)] w fun en w' => en = .returned (.bool false) ∧ w'.frozen? ⟨x, 0, none⟩ = false ∧ But w.heap.size x w w' := by
  subst hd
  have hne : x ≠ w.heap.size := by omega
  have hcA : ∀ ob, (w.alloc ob).cell? ⟨x, 0, none⟩ = some (.int .i64 L) := fun ob => (World.cell?_alloc_lt w ob ⟨x, 0, none⟩ hx).trans hc
  have hzA : ∀ ob, (w.alloc ob).frozen? ⟨x, 0, none⟩ = false := fun ob => (World.frozen?_alloc_old w ob ⟨x, 0, none⟩ hne).trans hz
  have hL0 : ((L : Int) - 1 < 0) ↔ False := by simp; omega
  go_enter Try.func59, Try.ntmps59
  go_wp2_with fail
  go_ret
  exact ⟨rfl, by rw [World.frozen?_alloc_old _ _ _ (by simp; omega), World.frozen?_setCell]; exact hz, by repeat (first | exact But.refl _ _ _ | refine But.setCell (p := ⟨x, 0, none⟩) ?_ (Or.inl rfl) _ | refine But.alloc ?_ (by simp) _)⟩

set_option maxRecDepth 100000 in
set_option maxHeartbeats 1600000 in
theorem pv_node (w : World) (o n : Int) (t : ByteArray) (k : F) (a : Option Addr) (cap : Nat) (d : Int) (L x : Nat) (hx : x < w.heap.size) (hc : w.cell? ⟨x, 0, none⟩ = some (.int .i64 L)) (hz : w.frozen? ⟨x, 0, none⟩ = false) (hL : 1 ≤ L) (hL8 : L ≤ 80) (hd1 : 1 ≤ d) (hd : d ≤ 40) (hl : k.len ≤ maxLen) (hts : t.size ≤ maxLen) (hb : nodeB o n t k.len = false) :
    Calls Try.prog 59 #[.agg #[.int .i64 o, .int .i64 n, .string t, .slice a k.len cap], .int .i64 d, .pointer (some ⟨x, 0, none⟩)] w fun en w' => en = .returned (.bool false) ∧ w'.frozen? ⟨x, 0, none⟩ = false ∧ But w.heap.size x w w' := by
  have hne : x ≠ w.heap.size := by omega
  have hcA : ∀ ob, (w.alloc ob).cell? ⟨x, 0, none⟩ = some (.int .i64 L) := fun ob => (World.cell?_alloc_lt w ob ⟨x, 0, none⟩ hx).trans hc
  have hzA : ∀ ob, (w.alloc ob).frozen? ⟨x, 0, none⟩ = false := fun ob => (World.frozen?_alloc_old w ob ⟨x, 0, none⟩ hne).trans hz
  have hn := fun (w1 : World) => NodeV.nodeValid w1 o n t k.len a cap hl hts
  rw [hb] at hn
  have HN := Lib.hid hn
  clear hn hb
  go_enter Try.func59, Try.ntmps59
  go_wp2_with fail
  refine (HN.out _).mono ?_
  rintro e1 w1 ⟨rfl, hb1⟩
  have HB := Lib.hid hb1
  clear hb1
  go_wp2_with fail
  go_ret
  have hb1 := HB.out
  refine ⟨rfl, ?_, ?_⟩
  · rw [hb1.frozen (p := ⟨x, 0, none⟩) (by simp; omega), World.frozen?_alloc_old _ _ _ (by simp; omega), World.frozen?_setCell]; exact hz
  · refine But.trans ?_ (But.of_below (hb1.mono (by simp)))
    repeat (first | exact But.refl _ _ _ | refine But.setCell (p := ⟨x, 0, none⟩) ?_ (Or.inl rfl) _ | refine But.alloc ?_ (by simp) _)

/-- what holds at the head of a round of partValid -/
def PvMid (w : World) (k : F) (e L x j : Nat) (z : Int) (wr : World) : Prop := ∃ p g : F, k = p.app g ∧ p.len = j ∧ p.ok e = true ∧ 1 + p.cnt ≤ L ∧ z = ((L - (1 + p.cnt) : Nat) : Int) ∧ wr.frozen? ⟨x, 0, none⟩ = false ∧ But w.heap.size x w wr

set_option maxRecDepth 100000 in
set_option maxHeartbeats 3200000 in
theorem pv_good (w : World) (o n : Int) (t : ByteArray) (k : F) (ih : PvS k) (a : Option Addr) (cap : Nat) (fs : List Nat) (d : Int) (e L x : Nat) (hs : SubAt w a k fs) (hfs : ∀ c ∈ fs, c < w.heap.size ∧ c ≠ x) (hcap : k.len ≤ cap) (hx : x < w.heap.size) (hc : w.cell? ⟨x, 0, none⟩ = some (.int .i64 L)) (hz : w.frozen? ⟨x, 0, none⟩ = false) (hL : 1 ≤ L) (hL8 : L ≤ 80) (hde : d + ((e + 1 : Nat) : Int) = 41) (he : e < 40) (hl : k.len ≤ maxLen) (hft : k.Fits) (hts : t.size ≤ maxLen) (hb : nodeB o n t k.len = true) :
    Calls Try.prog 59 #[.agg #[.int .i64 o, .int .i64 n, .string t, .slice a k.len cap], .int .i64 d, .pointer (some ⟨x, 0, none⟩)] w (PvOut w x (e + 1) L o n t k) := by
  have hne : x ≠ w.heap.size := by omega
  have hcA : ∀ ob, (w.alloc ob).cell? ⟨x, 0, none⟩ = some (.int .i64 L) := fun ob => (World.cell?_alloc_lt w ob ⟨x, 0, none⟩ hx).trans hc
  have hzA : ∀ ob, (w.alloc ob).frozen? ⟨x, 0, none⟩ = false := fun ob => (World.frozen?_alloc_old w ob ⟨x, 0, none⟩ hne).trans hz
  have hd1 : 1 ≤ d := by omega
  have hd40 : d ≤ 40 := by omega
  have hn := fun (w1 : World) => NodeV.nodeValid w1 o n t k.len a cap hl hts
  rw [hb] at hn
  have HN := Lib.hid hn
  have HFG := Lib.hid (fit_good hb e L)
  clear hn hb
  obtain ⟨M, hM⟩ : ∃ M, k.len = M := ⟨_, rfl⟩
  rw [hM] at hcap hl ⊢
  have HM := Lib.hid hM
  rw [hM] at HN
  clear hM
  have hsub : 0 < M → ∃ b off f', a = some ⟨b, off, none⟩ ∧ RowAt w k b off f' ∧ (b < w.heap.size ∧ b ≠ x) ∧ ∀ c ∈ f', c < w.heap.size ∧ c ≠ x := by
    intro h0
    rcases hs with ⟨rfl, rfl⟩ | ⟨b, off, f', rfl, hnil, rfl, hrow⟩
    · have := HM.out; simp only [F.len] at this; omega
    · exact ⟨b, off, f', rfl, hrow, hfs b (by simp), fun c hc => hfs c (by simp [hc])⟩
  have HSUB := Lib.hid hsub
  have IH := Lib.hid ih
  have HFT := Lib.hid hft
  have HDE := Lib.hid hde
  clear hsub hs hfs ih hft hde
  unfold maxLen at hl
  have hq1 : decide ((L : Int) - 1 < 0) = false := by simp; omega
  have hq2 : decide (40 < d) = false := by simpa using hd40
  go_enter Try.func59, Try.ntmps59
  go_wp2_with fail
  refine (HN.out _).mono ?_
  rintro e1 w1 ⟨rfl, hb1⟩
  have hw1c : w1.cell? ⟨x, 0, none⟩ = some (.int .i64 ((L : Int) - 1)) := by
    rw [hb1.cell (p := ⟨x, 0, none⟩) (by simp; omega), World.cell?_alloc_lt _ _ _ (by simp; omega)]
    exact World.cell?_setCell_same w ⟨x, 0, none⟩ _ hc
  have hw1z : w1.frozen? ⟨x, 0, none⟩ = false := by
    rw [hb1.frozen (p := ⟨x, 0, none⟩) (by simp; omega), World.frozen?_alloc_old _ _ _ (by simp; omega), World.frozen?_setCell]; exact hz
  have hw1b : But w.heap.size x w w1 := by
    refine But.trans ?_ (But.of_below (hb1.mono (by simp)))
    repeat (first | exact But.refl _ _ _ | refine But.setCell (p := ⟨x, 0, none⟩) ?_ (Or.inl rfl) _ | refine But.alloc ?_ (by simp) _)
  have hs1 : (w.setCell ⟨x, 0, none⟩ (.int .i64 ((L : Int) - 1))).heap.size = w.heap.size := by simp
  have hbx : w1.cell? ⟨w.heap.size, 3, none⟩ = some (.slice a M cap) := by
    rw [hb1.cell (p := ⟨w.heap.size, 3, none⟩) (by simp), ← hs1, World.cell?_alloc_new]; rfl
  have HW := Lib.hid (And.intro hw1z hw1b)
  clear hb1 hw1z hw1b hcA hzA hs1
  go_wp2_with fail
  go_loopw [30] (fun i wr => ∃ (j : Nat) (z : Int), j ≤ M ∧ i = .int .i64 j ∧ wr.cell? ⟨x, 0, none⟩ = some (.int .i64 z) ∧ PvMid w k e L x j z wr) (fun i _ => M - (intOf i).toNat)
  case atStart => exact ⟨0, (L : Int) - 1, by omega, rfl, hw1c, .nil, k, rfl, rfl, rfl, by simp only [F.cnt]; omega, by simp only [F.cnt]; omega, HW.out.1, HW.out.2⟩
  case round =>
    obtain ⟨j, z, hj, rfl, hzc, p, g, h3, h5, h6, h8, h9, hzf, hbw⟩ := hrel
    have h7 : g.len = M - j := by have := HM.out; rw [h3, F.len_app, h5] at this; omega
    clear hw1c hbx hc hz
    cases g with
    | nil =>
      have hjM : M ≤ j := by simp only [F.len] at h7; omega
      have hfit : fitB (e + 1) L o n t k = true := by
        rw [HFG.out, h3, F.app_nil, h6, Bool.true_and]; simpa using h8
      have hk : k = p := by rw [h3, F.app_nil]
      rw [← hk] at h9
      have H := Lib.hid (And.intro hfit (And.intro h9 (And.intro hzf hbw)))
      have HZ := Lib.hid hzc
      clear h3 h5 h6 h7 h8 h9 hzf hbw hzc hfit hk
      go_wp2_with fail
      go_ret
      obtain ⟨hfit, h9, hzf, hbw⟩ := H.out
      exact ⟨ret_bool hfit.symm, fun _ => by rw [← h9]; exact HZ.out, hzf, hbw⟩
    | cons o1 n1 t1 k1 r1 =>
      have hjM : j < M := by simp only [F.len] at h7; omega
      obtain ⟨b, off, f', rfl, hrow, hbB, hfB⟩ := HSUB.out (by omega)
      rw [h3] at hrow
      obtain ⟨a1, cap1, f1, c0, c1, c2, c3, hc1', hsub1, hin⟩ := row_at hrow
      rw [h5] at c0 c1 c2 c3
      rw [← hbw.cell hbB.1 hbB.2] at c0 c1 c2 c3
      have hxr : x < wr.heap.size := Nat.lt_of_lt_of_le hx hbw.size
      have hd := fun (ob : Obj) => IH.out (wr.alloc ob) o1 n1 t1 k1 p r1 a1 cap1 f1 (d + 1) e (L - (1 + p.cnt)) x h3
        ((hbw.sub hsub1 (fun c hc => hfB c (hin c hc))).below (B := wr.heap.size) (fun c hc => Nat.lt_of_lt_of_le (hfB c (hin c hc)).1 hbw.size) ((Below.refl _ _).alloc (Nat.le_refl _) _))
        (fun c hc => ⟨by have := Nat.lt_of_lt_of_le (hfB c (hin c hc)).1 hbw.size; simp; omega, (hfB c (hin c hc)).2⟩) hc1' HFT.out (by have := HDE.out; omega) (by omega) (by omega) (by simp; omega)
        (by rw [World.cell?_alloc_lt _ _ _ hxr, ← h9]; exact hzc) (by rw [World.frozen?_alloc_old _ _ _ (by simp; omega)]; exact hzf)
      have HD := Lib.hid hd
      have H := Lib.hid (And.intro h3 (And.intro h5 (And.intro h6 (And.intro h8 (And.intro hxr hbw)))))
      clear hd h3 h5 h6 h7 h8 h9 hzf hbw hzc hrow hxr
      cases hfit : fitB e (L - (1 + p.cnt)) o1 n1 t1 k1 with
      | true =>
        have HFI := Lib.hid hfit
        clear hfit
        go_wp2_with fail
        refine (HD.out _).mono ?_
        rintro e1 w2 ⟨rfl, hcell2, hzf2, hbut2⟩
        have HC2 := Lib.hid (And.intro (hcell2 HFI.out) (And.intro hzf2 hbut2))
        rw [HFI.out]
        clear hcell2 hzf2 hbut2 c0 c1 c2 c3
        go_wp2_with fail
        go_roundw
        case rel =>
          obtain ⟨h3, h5, h6, h8, hxr, hbw⟩ := H.out
          obtain ⟨hcell2, hzf2, hbut2⟩ := HC2.out
          have hf := HFI.out
          simp only [fitB, Bool.and_eq_true, decide_eq_true_eq] at hf
          refine ⟨j + 1, _, by omega, by go_num, hcell2, p.app (.cons o1 n1 t1 k1 .nil), r1, by rw [h3, F.app_assoc]; rfl, by rw [F.len_app, h5]; rfl, by rw [F.ok_app, h6, ok_cons, hf.1]; rfl, ?_, ?_, hzf2, ?_⟩
          · rw [F.cnt_app]; simp only [F.cnt]; omega
          · rw [F.cnt_app]; simp only [F.cnt]; omega
          · exact (hbw.alloc hbw.size _).trans (hbut2.mono (by have := hbw.size; simp; omega))
        case measure => simp [intOf]; omega
      | false =>
        have HFI := Lib.hid hfit
        clear hfit
        go_wp2_with fail
        refine (HD.out _).mono ?_
        rintro e1 w2 ⟨rfl, hcell2, hzf2, hbut2⟩
        have HC2 := Lib.hid (And.intro hzf2 hbut2)
        rw [HFI.out]
        clear hcell2 hzf2 hbut2 c0 c1 c2 c3
        go_wp2_with fail
        go_ret
        obtain ⟨h3, h5, h6, h8, hxr, hbw⟩ := H.out
        obtain ⟨hzf2, hbut2⟩ := HC2.out
        have hbad : fitB (e + 1) L o n t k = false := by
          rw [HFG.out, h3, F.ok_app, F.cnt_app, ok_cons]
          have hf := HFI.out
          simp only [fitB, Bool.and_eq_false_iff, decide_eq_false_iff_not] at hf
          rcases hf with hf | hf
          · rw [hf]; simp
          · rw [decide_eq_false (by simp only [F.cnt]; omega)]; simp
        exact ⟨ret_bool hbad.symm, fun h => by rw [hbad] at h; simp at h, hzf2, (hbw.alloc hbw.size _).trans (hbut2.mono (by have := hbw.size; simp; omega))⟩

/-- The contract of partValid, at the documents of every list. -/
theorem pvS (m : Nat) : ∀ f : F, f.deep ≤ m → PvS f := by
  induction m with
  | zero =>
    intro f hf w o n t k p r a cap fs d e L x he
    rw [he, F.deep_app] at hf; simp only [F.deep] at hf; omega
  | succ m ih =>
    intro f hf w o n t k p r a cap fs d e L x he hs hfs hcap hft hde he4 hL hx hc hz
    have hk : k.deep ≤ m := by rw [he, F.deep_app] at hf; simp only [F.deep] at hf; omega
    rw [he] at hft
    obtain ⟨h1, h2, h3, _⟩ := (F.Fits.app_iff.1 hft).2
    cases L with
    | zero => exact (pv_none w o n t k a cap d x hx hc hz).mono fun _ _ ⟨q1, q2, q3⟩ => ⟨by rw [fit_none]; exact q1, fun h => by rw [fit_none] at h; simp at h, q2, q3⟩
    | succ L =>
      cases e with
      | zero => exact (pv_deep w o n t k a cap d (L + 1) x hx hc hz (by omega) hL (by omega)).mono fun _ _ ⟨q1, q2, q3⟩ => ⟨by rw [fit_deep]; exact q1, fun h => by rw [fit_deep] at h; simp at h, q2, q3⟩
      | succ e =>
        cases hn : nodeB o n t k.len with
        | false => exact (pv_node w o n t k a cap d (L + 1) x hx hc hz (by omega) hL (by omega) (by omega) h2 h1 hn).mono fun _ _ ⟨q1, q2, q3⟩ => ⟨by rw [fit_node hn]; exact q1, fun h => by rw [fit_node hn] at h; simp at h, q2, q3⟩
        | true => exact pv_good w o n t k (ih k hk) a cap fs d e (L + 1) x hs hfs hcap hx hc hz (by omega) hL hde (by omega) h2 h3 h1 hn

set_option maxHeartbeats 800000 in
/-- What the program's DocValid comes to. -/
theorem docValid (w : World) (o n : Int) (t : ByteArray) (k : F) (a : Option Addr) (cap : Nat) (fs : List Nat) (hs : SubAt w a k fs) (hfs : ∀ c ∈ fs, c < w.heap.size) (hcap : k.len ≤ cap) (hl : k.len ≤ maxLen) (hft : k.Fits) (ht : t.size ≤ maxLen) :
    Calls Try.prog 22 #[.agg #[.int .i64 o, .int .i64 n, .string t, .slice a k.len cap]] w fun e w' => e = .returned (.bool (validD o n t k)) ∧ Below w.heap.size w w' := by
  have B2 : ∀ (o1 o2 : Obj), Below w.heap.size w ((w.alloc o1).alloc o2) := fun o1 o2 => ((Below.refl _ _).alloc (Nat.le_refl _) _).alloc (by simp) _
  have hd := fun (o1 : Obj) => pvS _ (.cons o n t k .nil) (Nat.le_refl _) ((w.alloc o1).alloc (.cells #[.int .i64 80] 3)) o n t k .nil .nil a cap fs 1 40 80 (w.heap.size + 1) rfl (hs.below hfs (B2 _ _)) (fun c hc => by have := hfs c hc; simp; omega) hcap ⟨ht, hl, hft, trivial⟩ (by omega) (by omega) (by omega) (by simp)
    (by have e : (w.alloc o1).heap.size = w.heap.size + 1 := by simp
        rw [← e, World.cell?_alloc_new]; rfl)
    (by have e : (w.alloc o1).heap.size = w.heap.size + 1 := by simp
        rw [← e, World.frozen?_alloc_new])
  have hv : fitB 40 80 o n t k = validD o n t k := rfl
  have HD := Lib.hid hd
  have HV := Lib.hid hv
  clear hd hv hs hfs
  go_enter Try.func22, Try.ntmps22
  go_wp2_with fail
  refine (HD.out _).mono ?_
  rintro e1 w1 ⟨rfl, _, _, hbut⟩
  have HB := Lib.hid hbut
  clear hbut
  go_wp2_with fail
  go_ret
  exact ⟨ret_bool HV.out, (B2 _ _).trans (HB.out.below (by simp; omega) (by omega))⟩

end Go.Proofs.Ytjpgnhpfmdjamaa.PartV
