/-
  What the model's counting of nodes, and its DocValid, come to.
-/
import Derived.Test.YtjpgnhpfmdjamaaSpecV
set_option linter.unusedVariables false
set_option linter.unusedSimpArgs false
namespace Go.Proofs.Ytjpgnhpfmdjamaa.SpecC
open Go.RowKit P1

theorem ret_int {k : IntKind} {a b : Int} (h : a = b) : Ending.returned (.int k a) = .returned (.int k b) := by rw [h]
theorem ret_bool {a b : Bool} (h : a = b) : Ending.returned (.bool a) = .returned (.bool b) := by rw [h]

/-- the contract of l1Count at the documents of a list -/
def CntS (f : F) : Prop := ∀ (w : World) (o n : Int) (t : ByteArray) (k : F) (p r : F) (a : Option Addr) (cap : Nat) (fs : List Nat), f = p.app (.cons o n t k r) → SubAt w a k fs → (∀ c ∈ fs, c < w.heap.size) → k.len ≤ cap → f.size ≤ 4194304 →
  Calls Try.prog 64 #[.agg #[.int .i64 o, .int .i64 n, .string t, .slice a k.len cap]] w fun e w' => e = .returned (.int .i64 ((1 + k.cnt : Nat) : Int)) ∧ Below w.heap.size w w'

/-- what holds at the head of a round of l1Count -/
def CntMid (w : World) (k : F) (i : Nat) (c : Int) (wr : World) : Prop := ∃ p g : F, k = p.app g ∧ p.len = i ∧ c = ((1 + p.cnt : Nat) : Int) ∧ w.heap.size < wr.heap.size ∧ Below w.heap.size w wr

set_option maxRecDepth 100000 in
set_option maxHeartbeats 1600000 in
theorem l1Count_step (w : World) (o n : Int) (t : ByteArray) (k : F) (ih : CntS k) (a : Option Addr) (cap : Nat) (fs : List Nat) (hs : SubAt w a k fs) (hfs : ∀ c ∈ fs, c < w.heap.size) (hc : k.len ≤ cap) (hsz : k.size ≤ 4194304) :
    Calls Try.prog 64 #[.agg #[.int .i64 o, .int .i64 n, .string t, .slice a k.len cap]] w fun e w' => e = .returned (.int .i64 ((1 + k.cnt : Nat) : Int)) ∧ Below w.heap.size w w' := by
  have hcs := F.cnt_le_size k
  have hlc := F.len_le_cnt k
  obtain ⟨L, hL⟩ : ∃ L, k.len = L := ⟨_, rfl⟩
  rw [hL] at hc hlc ⊢
  have hL4 : L ≤ 4194304 := by omega
  have HL := Lib.hid hL
  clear hL
  have hsub : 0 < L → ∃ b off f', a = some ⟨b, off, none⟩ ∧ RowAt w k b off f' ∧ b < w.heap.size ∧ ∀ c ∈ f', c < w.heap.size := by
    intro h0
    rcases hs with ⟨rfl, rfl⟩ | ⟨b, off, f', rfl, hnil, rfl, hrow⟩
    · have := HL.out; simp only [F.len] at this; omega
    · exact ⟨b, off, f', rfl, hrow, hfs b (by simp), fun c hc => hfs c (by simp [hc])⟩
  have HSUB := Lib.hid hsub
  have IH := Lib.hid ih
  clear hsub hs hfs ih
  go_enter Try.func64, Try.ntmps64
  go_wp2_with fail
  go_loopw [4, 3] (fun i l wr => ∃ (j : Nat) (c : Int), j ≤ L ∧ i = .int .i64 j ∧ l = .int .i64 c ∧ 0 ≤ c ∧ c ≤ 4194305 ∧ wr.cell? ⟨w.heap.size, 3, none⟩ = some (.slice a L cap) ∧ CntMid w k j c wr) (fun i _ _ => L - (intOf i).toNat)
  case atStart => exact ⟨0, 1, by omega, rfl, rfl, by omega, by omega, by simp, .nil, k, rfl, rfl, rfl, by simp, (Below.refl _ _).alloc (Nat.le_refl _) _⟩
  case round =>
    obtain ⟨j, c, hj, rfl, rfl, hc0, hc1, hbox, p, g, h3, h5, h6, hlt, hbw⟩ := hrel
    have h7 : g.len = L - j := by have := HL.out; rw [h3, F.len_app, h5] at this; omega
    cases g with
    | nil =>
      have hjL : L ≤ j := by simp only [F.len] at h7; omega
      have H := Lib.hid (And.intro h3 (And.intro h6 hbw))
      clear h3 h5 h6 h7 hlt hbw
      go_wp2_with fail
      go_ret
      exact ⟨ret_int (by obtain ⟨h3, h6, _⟩ := H.out; rw [h6, h3, F.app_nil]), H.out.2.2⟩
    | cons o1 n1 t1 k1 r1 =>
      have hjL : j < L := by simp only [F.len] at h7; omega
      obtain ⟨b, off, f', rfl, hrow, hbB, hfB⟩ := HSUB.out (by omega)
      rw [h3] at hrow
      obtain ⟨a1, cap1, f1, c0, c1, c2, c3, hc1', hsub1, hin⟩ := row_at hrow
      rw [h5] at c0 c1 c2 c3
      rw [← hbw.cell (p := ⟨_, _, _⟩) hbB] at c0 c1 c2 c3
      have hd := IH.out wr o1 n1 t1 k1 p r1 a1 cap1 f1 h3 (hsub1.below (fun c hc => hfB c (hin c hc)) hbw) (fun c hc => Nat.lt_of_lt_of_le (hfB c (hin c hc)) hbw.size) hc1' hsz
      have hct : p.cnt + (1 + k1.cnt) + r1.cnt = k.cnt := by rw [h3, F.cnt_app]; simp only [F.cnt]; omega
      obtain ⟨z, hz⟩ : ∃ z : Int, ((1 + k1.cnt : Nat) : Int) = z := ⟨_, rfl⟩
      rw [hz] at hd
      have hz0 : 0 ≤ z := by omega
      have hz1 : c + z ≤ 4194305 := by omega
      have HD := Lib.hid hd
      have H := Lib.hid (And.intro h3 (And.intro h5 (And.intro h6 (And.intro hlt (And.intro hbw (And.intro hct hz))))))
      have HB := Lib.hid hbox
      clear hd h3 h5 h6 h7 hlt hbw hrow hct hz hcs hlc
      go_wp2_with (go_at_call 64; refine HD.out.mono ?_; rintro e1 w1 ⟨rfl, hb1⟩)
      go_roundw
      case rel =>
        obtain ⟨h3, h5, h6, hlt, hbw, hct, hz⟩ := H.out
        refine ⟨j + 1, c + z, by omega, by go_num, rfl, by omega, by omega, (hb1.cell (p := ⟨w.heap.size, 3, none⟩) hlt).trans HB.out, p.app (.cons o1 n1 t1 k1 .nil), r1, by rw [h3, F.app_assoc]; rfl, by rw [F.len_app, h5]; rfl, ?_, Nat.lt_of_lt_of_le hlt hb1.size, hbw.trans (hb1.mono hbw.size)⟩
        rw [F.cnt_app]; simp only [F.cnt]; omega
      case measure => simp [intOf]; omega

theorem cntS (m : Nat) : ∀ f : F, f.deep ≤ m → CntS f := by
  induction m with
  | zero =>
    intro f hf w o n t k p r a cap fs he
    rw [he, F.deep_app] at hf; simp only [F.deep] at hf; omega
  | succ m ih =>
    intro f hf w o n t k p r a cap fs he hs hfs hc hsz
    have hk : k.deep ≤ m := by rw [he, F.deep_app] at hf; simp only [F.deep] at hf; omega
    exact l1Count_step w o n t k (ih k hk) a cap fs hs hfs hc (by rw [he, F.size_app] at hsz; simp only [F.size] at hsz; omega)

theorem l1Count (w : World) (o n : Int) (t : ByteArray) (k : F) (a : Option Addr) (cap : Nat) (fs : List Nat) (hs : SubAt w a k fs) (hfs : ∀ c ∈ fs, c < w.heap.size) (hc : k.len ≤ cap) (hsz : k.size ≤ 4194304) :
    Calls Try.prog 64 #[.agg #[.int .i64 o, .int .i64 n, .string t, .slice a k.len cap]] w fun e w' => e = .returned (.int .i64 ((1 + k.cnt : Nat) : Int)) ∧ Below w.heap.size w w' :=
  l1Count_step w o n t k (cntS _ k (Nat.le_refl _)) a cap fs hs hfs hc hsz

set_option maxHeartbeats 800000 in
/-- What the model's DocValid comes to. -/
theorem docValid (w : World) (o n : Int) (t : ByteArray) (k : F) (a : Option Addr) (cap : Nat) (fs : List Nat) (hs : SubAt w a k fs) (hfs : ∀ c ∈ fs, c < w.heap.size) (hc : k.len ≤ cap) (hsz : k.size ≤ 4194304) (hft : k.Fits) (ht : t.size ≤ maxLen) :
    Calls Try.prog 30 #[.agg #[.int .i64 o, .int .i64 n, .string t, .slice a k.len cap]] w fun e w' => e = .returned (.bool (validD o n t k)) ∧ Below w.heap.size w w' := by
  have hl : k.len ≤ maxLen := by have := F.len_le_size k; unfold maxLen; omega
  have hcs := F.cnt_le_size k
  have B1 : ∀ (ob : Obj), Below w.heap.size w (w.alloc ob) := fun ob => (Below.refl _ _).alloc (Nat.le_refl _) _
  have hi := fun (w1 : World) (hw1 : Below w.heap.size w w1) => SpecV.l1Is w1 o n t k a cap fs 40 (hs.below hfs hw1) (fun c hc => Nat.lt_of_lt_of_le (hfs c hc) hw1.size) hc hl hft ht (by omega)
  have hn := fun (w1 : World) (hw1 : Below w.heap.size w w1) => l1Count w1 o n t k a cap fs (hs.below hfs hw1) (fun c hc => Nat.lt_of_lt_of_le (hfs c hc) hw1.size) hc hsz
  obtain ⟨z, hz⟩ : ∃ z : Nat, 1 + k.cnt = z := ⟨_, rfl⟩
  rw [hz] at hn
  cases hk : okD 40 o n t k with
  | false =>
    have hv : validD o n t k = false := by simp [validD, hk]
    rw [hv]
    rw [hk] at hi
    have HI := Lib.hid hi
    clear hi hn hk hv hs hfs hz hcs
    go_enter Try.func30, Try.ntmps30
    go_wp2_with (go_at_call 65; refine (HI.out _ (B1 _)).mono ?_; rintro e1 w1 ⟨rfl, hb1⟩)
    go_ret
    exact ⟨rfl, (B1 _).trans (hb1.mono (by simp))⟩
  | true =>
    have hv : validD o n t k = decide ((z : Int) ≤ 80) := by
      simp only [validD, hk, hz, Bool.true_and]
      rw [Bool.eq_iff_iff]; simp; omega
    rw [hv]
    rw [hk] at hi
    have HI := Lib.hid hi
    have HN := Lib.hid hn
    clear hi hn hk hv hs hfs hz hcs
    go_enter Try.func30, Try.ntmps30
    go_wp2_with fail
    refine (HI.out _ (B1 _)).mono ?_
    rintro e1 w1 ⟨rfl, hb1⟩
    have hbx : w1.cell? ⟨w.heap.size, 0, none⟩ = some (.int .i64 o) ∧ w1.cell? ⟨w.heap.size, 1, none⟩ = some (.int .i64 n) ∧ w1.cell? ⟨w.heap.size, 2, none⟩ = some (.string t) ∧ w1.cell? ⟨w.heap.size, 3, none⟩ = some (.slice a k.len cap) := by
      refine ⟨?_, ?_, ?_, ?_⟩
      all_goals (rw [hb1.cell (p := ⟨_, _, _⟩) (by simp)]; simp)
    obtain ⟨x0, x1, x2, x3⟩ := hbx
    have hb2 := (B1 _).trans (hb1.mono (by simp))
    have HB := Lib.hid hb2
    clear hb1 hb2
    go_wp2_with (go_at_call 64; refine (HN.out _ HB.out).mono ?_; rintro e1 w1 ⟨rfl, hb1⟩)
    go_ret
    exact ⟨rfl, HB.out.trans (hb1.mono HB.out.size)⟩

end Go.Proofs.Ytjpgnhpfmdjamaa.SpecC
