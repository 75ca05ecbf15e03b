import Derived.Test.YtjcaiecapapceaaGreatText
import Derived.Test.YtjcaiecapapceaaGreatEq
import Derived.Deep.QuietTactic
import Derived.BigQuiet
/-
 What the model's DocValid comes to.
-/
set_option linter.unusedVariables false
set_option linter.unusedSimpArgs false
set_option maxRecDepth 100000
set_option maxHeartbeats 3200000
namespace Go.Proofs.YtjcaiecapapceaaGreat.SpecV
open Go.RowKit P1
set_option maxHeartbeats 400000 in
theorem l1Kids (o : Int) (w : World) : Calls Tryz.prog 155 #[.int .i64 o] w fun e w' => e = .returned (.int .i64 (kidsOf o)) ∧ w = w' := by
 rcases kidsOf_ways o with ⟨h, e⟩ | ⟨h, e⟩ | ⟨h, e⟩ | ⟨h, e⟩ | ⟨h, e⟩ | ⟨h, e⟩ | ⟨h, e⟩ | ⟨h, e⟩ | ⟨h1, h2, h3, h4, h5, h6, h7, h8, e⟩
 iterate 8
  ·rw [e]
   subst h
   clear e
   go_enter Tryz.func155, Tryz.ntmps155
   go_wp2
   go_ret
   exact ⟨rfl, rfl⟩
 ·rw [e]
  have b1 : (o == 1) = false := beq_eq_false_iff_ne.2 h1
  have b2 : (o == 2) = false := beq_eq_false_iff_ne.2 h2
  have b3 : (o == 3) = false := beq_eq_false_iff_ne.2 h3
  have b4 : (o == 4) = false := beq_eq_false_iff_ne.2 h4
  have b5 : (o == 5) = false := beq_eq_false_iff_ne.2 h5
  have b6 : (o == 6) = false := beq_eq_false_iff_ne.2 h6
  have b7 : (o == 7) = false := beq_eq_false_iff_ne.2 h7
  have b8 : (o == 8) = false := beq_eq_false_iff_ne.2 h8
  clear e h1 h2 h3 h4 h5 h6 h7 h8
  go_enter Tryz.func155, Tryz.ntmps155
  go_wp2
  go_ret
  exact ⟨rfl, rfl⟩
theorem l1Kids' (o : Int) (w : World) : Calls Tryz.prog 155 #[.int .i64 o] w fun e w' => e = .returned (.int .i64 (kidsOf o)) ∧ w' = w :=
 (l1Kids o w).mono fun _ _ h => ⟨h.1, h.2.symm⟩
def IsS (f : F) : Prop := ∀ (w : World) (o n : Int) (t : ByteArray) (k : F) (p r : F) (a : Option Addr) (cap : Nat) (fs : List Nat) (d : Nat), f = p.app (.cons o n t k r) → SubAt w a k fs → (∀ c ∈ fs, c < w.heap.size) → k.len ≤ cap → f.Fits → d ≤ 40 →
 Calls Tryz.prog 108 #[.agg #[.int .i64 o, .int .i64 n, .string t, .slice a k.len cap], .int .i64 d] w fun e w' => e = .returned (.bool (okD d o n t k)) ∧ Below w.heap.size w w'
theorem drewN_below {B : Nat} {a w : World} (h : Below B a w) (n : Nat) : Below B a (w.drewN n) := by
 induction n with
 | zero => exact h
 | succ n ih => exact ih.drew
theorem bytes_ne_empty {t : ByteArray} (h : t ≠ ⟨#[]⟩) : (t.toList == ([] : List UInt8)) = false := by
 have := bytes_ne h
 simpa using this
theorem l1Is_zero (w : World) (o n : Int) (t : ByteArray) (k : F) (a : Option Addr) (cap : Nat) :
  Calls Tryz.prog 108 #[.agg #[.int .i64 o, .int .i64 n, .string t, .slice a k.len cap], .int .i64 0] w fun e w' => e = .returned (.bool false) ∧ Below w.heap.size w w' := by
 go_enter Tryz.func108, Tryz.ntmps108
 go_wp2_with fail
 go_quiet (fail)
 go_wp2_with fail
 go_ret
 exact ⟨rfl, drewN_below ((Below.refl _ _).alloc (Nat.le_refl _) _) _⟩
theorem l1Is_bad (w : World) (o n : Int) (t : ByteArray) (k : F) (a : Option Addr) (cap d : Nat) (hd : 0 < d) (hd4 : d ≤ 40) (hl : k.len ≤ maxLen) (ht : t.size ≤ maxLen) (hbad : nodeB o n t k.len = false) :
  Calls Tryz.prog 108 #[.agg #[.int .i64 o, .int .i64 n, .string t, .slice a k.len cap], .int .i64 d] w fun e w' => e = .returned (.bool false) ∧ Below w.heap.size w w' := by
 have B1 : ∀ (ob : Obj) (nq : Nat), Below w.heap.size w ((w.alloc ob).drewN nq) := fun ob nq => drewN_below ((Below.refl _ _).alloc (Nat.le_refl _) _) _
 obtain ⟨L, hL⟩ : ∃ L, k.len = L := ⟨_, rfl⟩
 rw [hL] at hbad hl ⊢
 clear hL
 have hl' := hl
 unfold maxLen at hl'
 have hd0 : ((d : Int) == 0) = false := by rw [beq_eq_false_iff_ne]; omega
 rcases node_ways o n t L with ⟨h1, h⟩ | ⟨h1, h2, h3, h⟩ | ⟨h1, h2, h3, h⟩ | ⟨h1, h2, h3, h4, h⟩ | ⟨h1, h2, h3, h4, h5, h⟩ | ⟨h1, h2, h3, h4, h⟩ | ⟨h1, h2, h3, h4, h5, h⟩ | ⟨h1, h2, h3, h4, h⟩ | ⟨h1, h2, h3, h4, h5, h⟩ | ⟨h1, h2, h3, h4, h5, h⟩
 ·have hb : ((L : Int) == kidsOf o) = false := beq_eq_false_iff_ne.2 h1
  clear h h1 hbad
  go_enter Tryz.func108, Tryz.ntmps108
  go_wp2_with fail
  go_quiet ((go_at_call 155; exact Calls.quiet_of_same (l1Kids' _ _)))
  go_wp2_with fail
  go_ret
  exact ⟨rfl, B1 _ _⟩
 ·have hb : ((L : Int) == kidsOf o) = true := beq_iff_eq.2 h1
  subst h2
  have H3 := Lib.hid h3
  clear h h1 h3 hbad
  go_enter Tryz.func108, Tryz.ntmps108
  go_wp2_with fail
  go_quiet ((go_at_call 155; exact Calls.quiet_of_same (l1Kids' _ _)))
  go_wp2_with (go_at_call 156; refine (TextV.specTextValid _ ht _).mono ?_; rw [H3.out]; rintro e w' ⟨rfl, rfl⟩)
  go_ret
  exact ⟨rfl, B1 _ _⟩
 ·have hb : ((L : Int) == kidsOf o) = true := beq_iff_eq.2 h1
  have h2' : (o == 2) = false := beq_eq_false_iff_ne.2 h2
  have h3' := bytes_ne_empty h3
  clear h h1 h2 h3 hbad
  go_enter Tryz.func108, Tryz.ntmps108
  go_wp2_with fail
  go_quiet ((go_at_call 155; exact Calls.quiet_of_same (l1Kids' _ _)))
  go_wp2_with fail
  go_ret
  exact ⟨rfl, B1 _ _⟩
 ·have hb : ((L : Int) == kidsOf o) = true := beq_iff_eq.2 h1
  subst h2
  have H3 := Lib.hid h3
  have h4' : (n == 0) = false := beq_eq_false_iff_ne.2 h4
  clear h h1 h3 h4 hbad
  go_enter Tryz.func108, Tryz.ntmps108
  go_wp2_with fail
  go_quiet ((go_at_call 155; exact Calls.quiet_of_same (l1Kids' _ _)))
  go_wp2_with (go_at_call 156; refine (TextV.specTextValid _ ht _).mono ?_; rw [H3.out]; rintro e w' ⟨rfl, rfl⟩)
  go_ret
  exact ⟨rfl, B1 _ _⟩
 ·have hb : ((L : Int) == kidsOf o) = true := beq_iff_eq.2 h1
  have h2' : (o == 2) = false := beq_eq_false_iff_ne.2 h2
  have h4' : (o == 6) = false := beq_eq_false_iff_ne.2 h4
  have h5' : (n == 0) = false := beq_eq_false_iff_ne.2 h5
  have h6' : (o != 6) = true := by rw [bne_iff_ne]; exact h4
  have h7' : (n != 0) = true := by rw [bne_iff_ne]; exact h5
  subst h3
  clear h h1 h2 hbad ht
  go_enter Tryz.func108, Tryz.ntmps108
  go_wp2_with fail
  go_quiet ((go_at_call 155; exact Calls.quiet_of_same (l1Kids' _ _)))
  go_wp2_with fail
  all_goals
   go_ret
   exact ⟨rfl, B1 _ _⟩
 ·have hb : ((L : Int) == kidsOf 6) = true := by rw [h2] at h1; exact beq_iff_eq.2 h1
  subst h2 h3
  have h4' : decide (n < 0) = true := by simpa using h4
  clear h h1 hbad ht
  go_enter Tryz.func108, Tryz.ntmps108
  go_wp2_with fail
  go_quiet ((go_at_call 155; exact Calls.quiet_of_same (l1Kids' _ _)))
  go_wp2_with fail
  go_ret
  exact ⟨rfl, B1 _ _⟩
 ·have hb : ((L : Int) == kidsOf 6) = true := by rw [h2] at h1; exact beq_iff_eq.2 h1
  subst h2 h3
  have h4' : decide (n < 0) = false := by simpa using h4
  have h5' : decide (9 < n) = true := by simpa using h5
  clear h h1 hbad ht
  go_enter Tryz.func108, Tryz.ntmps108
  go_wp2_with fail
  go_quiet ((go_at_call 155; exact Calls.quiet_of_same (l1Kids' _ _)))
  go_wp2_with fail
  go_ret
  exact ⟨rfl, B1 _ _⟩
 all_goals exact absurd (h.symm.trans hbad) (by simp)
def IsMid (w : World) (k : F) (d : Nat) (i : Nat) (wr : World) : Prop := ∃ p g : F, k = p.app g ∧ p.len = i ∧ p.ok d = true ∧ w.heap.size < wr.heap.size ∧ Below w.heap.size w wr
theorem ret_bool {a b : Bool} (h : a = b) : Ending.returned (.bool a) = .returned (.bool b) := by rw [h]
theorem l1Is_good (w : World) (o n : Int) (t : ByteArray) (k : F) (ih : IsS k) (a : Option Addr) (cap : Nat) (fs : List Nat) (e : Nat) (hs : SubAt w a k fs) (hfs : ∀ c ∈ fs, c < w.heap.size) (hc : k.len ≤ cap) (hd4 : e < 40) (hl : k.len ≤ maxLen) (hft : k.Fits) (ht : t.size ≤ maxLen) (hgood : nodeB o n t k.len = true) :
  Calls Tryz.prog 108 #[.agg #[.int .i64 o, .int .i64 n, .string t, .slice a k.len cap], .int .i64 ((e : Int) + 1)] w fun e' w' => e' = .returned (.bool (k.ok e)) ∧ Below w.heap.size w w' := by
 have B1 : ∀ (ob : Obj) (nq : Nat), Below w.heap.size w ((w.alloc ob).drewN nq) := fun ob nq => drewN_below ((Below.refl _ _).alloc (Nat.le_refl _) _) _
 obtain ⟨L, hL⟩ : ∃ L, k.len = L := ⟨_, rfl⟩
 rw [hL] at hgood hl hc ⊢
 have HL := Lib.hid hL
 clear hL
 have hl' := hl
 unfold maxLen at hl'
 have hd0 : ((e : Int) + 1 == 0) = false := by rw [beq_eq_false_iff_ne]; omega
 have hsub : 0 < L → ∃ b off f', a = some ⟨b, off, none⟩ ∧ RowAt w k b off f' ∧ b < w.heap.size ∧ ∀ c ∈ f', c < w.heap.size := by
  intro h0
  rcases hs with ⟨rfl, rfl⟩ | ⟨b, off, f', rfl, hnil, rfl, hrow⟩
  ·have := HL.out; simp only [F.len] at this; omega
  ·exact ⟨b, off, f', rfl, hrow, hfs b (by simp), fun c hc => hfs c (by simp [hc])⟩
 have HSUB := Lib.hid hsub
 clear hsub hs hfs
 have IH := Lib.hid ih
 clear ih
 rcases node_ways o n t L with ⟨h1, h⟩ | ⟨h1, h2, h3, h⟩ | ⟨h1, h2, h3, h⟩ | ⟨h1, h2, h3, h4, h⟩ | ⟨h1, h2, h3, h4, h5, h⟩ | ⟨h1, h2, h3, h4, h⟩ | ⟨h1, h2, h3, h4, h5, h⟩ | ⟨h1, h2, h3, h4, h⟩ | ⟨h1, h2, h3, h4, h5, h⟩ | ⟨h1, h2, h3, h4, h5, h⟩
 iterate 7 (exact absurd (h.symm.trans hgood) (by simp))
 ·have hb : ((L : Int) == kidsOf 2) = true := by rw [h2] at h1; exact beq_iff_eq.2 h1
  have H3 := Lib.hid h3
  subst h2 h4
  clear h h1 h3 hgood
  go_enter Tryz.func108, Tryz.ntmps108
  go_wp2_with fail
  go_quiet ((go_at_call 155; exact Calls.quiet_of_same (l1Kids' _ _)))
  go_wp2_with (go_at_call 156; refine (TextV.specTextValid _ ht _).mono ?_; rw [H3.out]; rintro e w' ⟨rfl, rfl⟩)
  go_loopw [5] (fun i wr => ∃ j : Nat, j ≤ L ∧ i = .int .i64 j ∧ wr.cell? ⟨w.heap.size, 3, none⟩ = some (.slice a L cap) ∧ IsMid w k e j wr) (fun i _ => L - (intOf i).toNat)
  case atStart => exact ⟨0, by omega, rfl, by simp, .nil, k, rfl, rfl, rfl, by simp, B1 _ _⟩
  case round =>
   obtain ⟨j, hj, rfl, hbox, p, g, h3, h5, h6, hlt, hbw⟩ := hrel
   have h7 : g.len = L - j := by have := HL.out; rw [h3, F.len_app, h5] at this; omega
   cases g with
   | nil =>
     have hjL : L ≤ j := by simp only [F.len] at h7; omega
     have H := Lib.hid (And.intro h3 (And.intro h6 hbw))
     clear h3 h5 h6 h7 hlt hbw
     go_wp2_with fail
     go_ret
     exact ⟨ret_bool (by obtain ⟨h3, h6, _⟩ := H.out; rw [h3, F.app_nil]; exact h6.symm), H.out.2.2⟩
   | cons o1 n1 t1 k1 r1 =>
     have hjL : j < L := by simp only [F.len] at h7; omega
     obtain ⟨b, off, f', rfl, hrow, hbB, hfB⟩ := HSUB.out (by omega)
     rw [h3] at hrow
     obtain ⟨a1, cap1, f1, c0, c1, c2, c3, hc1, hsub1, hin⟩ := row_at hrow
     rw [h5] at c0 c1 c2 c3
     rw [← hbw.cell (p := ⟨_, _, _⟩) hbB] at c0 c1 c2 c3
     have hd := fun (w1 : World) (hw1 : Below wr.heap.size wr w1) => IH.out w1 o1 n1 t1 k1 p r1 a1 cap1 f1 e h3 (hsub1.below (fun c hc => hfB c (hin c hc)) (hbw.trans (hw1.mono hbw.size))) (fun c hc => Nat.lt_of_lt_of_le (hfB c (hin c hc)) (Nat.le_trans hbw.size hw1.size)) hc1 hft (by omega)
     have HD := Lib.hid hd
     have H := Lib.hid (And.intro h3 (And.intro h5 (And.intro h6 (And.intro hlt hbw))))
     have HB := Lib.hid hbox
     clear hd h3 h5 h6 h7 hlt hbw hrow
     cases hok : okD e o1 n1 t1 k1 with
     | true =>
       have HOK := Lib.hid hok
       clear hok
       go_wp2_with (go_at_call 108; refine (HD.out _ (Below.refl _ _)).mono ?_; rw [HOK.out]; rintro e1 w1 ⟨rfl, hb1⟩)
       go_roundw
       case rel =>
        obtain ⟨h3, h5, h6, hlt, hbw⟩ := H.out
        refine ⟨j + 1, by omega, by go_num, (hb1.cell (p := ⟨w.heap.size, 3, none⟩) hlt).trans HB.out, p.app (.cons o1 n1 t1 k1 .nil), r1, by rw [h3, F.app_assoc]; rfl, by rw [F.len_app, h5]; rfl, by rw [F.ok_app, h6, ok_cons, HOK.out]; rfl, Nat.lt_of_lt_of_le hlt hb1.size, hbw.trans (hb1.mono hbw.size)⟩
       case measure => simp [intOf]; omega
     | false =>
       have HOK := Lib.hid hok
       clear hok
       go_wp2_with (go_at_call 108; refine (HD.out _ (Below.refl _ _)).mono ?_; rw [HOK.out]; rintro e1 w1 ⟨rfl, hb1⟩)
       go_ret
       obtain ⟨h3, h5, h6, hlt, hbw⟩ := H.out
       exact ⟨ret_bool (by rw [h3, F.ok_app, ok_cons, HOK.out]; simp), hbw.trans (hb1.mono hbw.size)⟩
 ·have hb : ((L : Int) == kidsOf o) = true := beq_iff_eq.2 h1
  have hbn : ((L : Int) != kidsOf o) = false := by rw [bne, hb]; rfl
  have h2' : (o == 2) = false := beq_eq_false_iff_ne.2 h2
  have h4' : (o == 6) = false := beq_eq_false_iff_ne.2 h4
  have h8' : (o != 2) = true := by rw [bne_iff_ne]; exact h2
  have h6' : (o != 6) = true := by rw [bne_iff_ne]; exact h4
  subst h3 h5
  clear h h1 hgood ht
  go_enter Tryz.func108, Tryz.ntmps108
  go_wp2_with fail
  go_quiet ((go_at_call 155; exact Calls.quiet_of_same (l1Kids' _ _)))
  go_wp2_with fail
  go_loopw [5] (fun i wr => ∃ j : Nat, j ≤ L ∧ i = .int .i64 j ∧ wr.cell? ⟨w.heap.size, 3, none⟩ = some (.slice a L cap) ∧ IsMid w k e j wr) (fun i _ => L - (intOf i).toNat)
  case atStart => exact ⟨0, by omega, rfl, by simp, .nil, k, rfl, rfl, rfl, by simp, B1 _ _⟩
  case round =>
   obtain ⟨j, hj, rfl, hbox, p, g, h3, h5, h6, hlt, hbw⟩ := hrel
   have h7 : g.len = L - j := by have := HL.out; rw [h3, F.len_app, h5] at this; omega
   cases g with
   | nil =>
     have hjL : L ≤ j := by simp only [F.len] at h7; omega
     have H := Lib.hid (And.intro h3 (And.intro h6 hbw))
     clear h3 h5 h6 h7 hlt hbw
     go_wp2_with fail
     go_ret
     exact ⟨ret_bool (by obtain ⟨h3, h6, _⟩ := H.out; rw [h3, F.app_nil]; exact h6.symm), H.out.2.2⟩
   | cons o1 n1 t1 k1 r1 =>
     have hjL : j < L := by simp only [F.len] at h7; omega
     obtain ⟨b, off, f', rfl, hrow, hbB, hfB⟩ := HSUB.out (by omega)
     rw [h3] at hrow
     obtain ⟨a1, cap1, f1, c0, c1, c2, c3, hc1, hsub1, hin⟩ := row_at hrow
     rw [h5] at c0 c1 c2 c3
     rw [← hbw.cell (p := ⟨_, _, _⟩) hbB] at c0 c1 c2 c3
     have hd := fun (w1 : World) (hw1 : Below wr.heap.size wr w1) => IH.out w1 o1 n1 t1 k1 p r1 a1 cap1 f1 e h3 (hsub1.below (fun c hc => hfB c (hin c hc)) (hbw.trans (hw1.mono hbw.size))) (fun c hc => Nat.lt_of_lt_of_le (hfB c (hin c hc)) (Nat.le_trans hbw.size hw1.size)) hc1 hft (by omega)
     have HD := Lib.hid hd
     have H := Lib.hid (And.intro h3 (And.intro h5 (And.intro h6 (And.intro hlt hbw))))
     have HB := Lib.hid hbox
     clear hd h3 h5 h6 h7 hlt hbw hrow
     cases hok : okD e o1 n1 t1 k1 with
     | true =>
       have HOK := Lib.hid hok
       clear hok
       go_wp2_with (go_at_call 108; refine (HD.out _ (Below.refl _ _)).mono ?_; rw [HOK.out]; rintro e1 w1 ⟨rfl, hb1⟩)
       go_roundw
       case rel =>
        obtain ⟨h3, h5, h6, hlt, hbw⟩ := H.out
        refine ⟨j + 1, by omega, by go_num, (hb1.cell (p := ⟨w.heap.size, 3, none⟩) hlt).trans HB.out, p.app (.cons o1 n1 t1 k1 .nil), r1, by rw [h3, F.app_assoc]; rfl, by rw [F.len_app, h5]; rfl, by rw [F.ok_app, h6, ok_cons, HOK.out]; rfl, Nat.lt_of_lt_of_le hlt hb1.size, hbw.trans (hb1.mono hbw.size)⟩
       case measure => simp [intOf]; omega
     | false =>
       have HOK := Lib.hid hok
       clear hok
       go_wp2_with (go_at_call 108; refine (HD.out _ (Below.refl _ _)).mono ?_; rw [HOK.out]; rintro e1 w1 ⟨rfl, hb1⟩)
       go_ret
       obtain ⟨h3, h5, h6, hlt, hbw⟩ := H.out
       exact ⟨ret_bool (by rw [h3, F.ok_app, ok_cons, HOK.out]; simp), hbw.trans (hb1.mono hbw.size)⟩
 ·have hb : ((L : Int) == kidsOf 6) = true := by rw [h2] at h1; exact beq_iff_eq.2 h1
  have hbn : ((L : Int) != kidsOf 6) = false := by rw [bne, hb]; rfl
  subst h2 h3
  have h4' : decide (n < 0) = false := by simpa using h4
  have h5' : decide (9 < n) = false := by simpa using h5
  clear h h1 hgood ht
  go_enter Tryz.func108, Tryz.ntmps108
  go_wp2_with fail
  go_quiet ((go_at_call 155; exact Calls.quiet_of_same (l1Kids' _ _)))
  go_wp2_with fail
  go_loopw [5] (fun i wr => ∃ j : Nat, j ≤ L ∧ i = .int .i64 j ∧ wr.cell? ⟨w.heap.size, 3, none⟩ = some (.slice a L cap) ∧ IsMid w k e j wr) (fun i _ => L - (intOf i).toNat)
  case atStart => exact ⟨0, by omega, rfl, by simp, .nil, k, rfl, rfl, rfl, by simp, B1 _ _⟩
  case round =>
   obtain ⟨j, hj, rfl, hbox, p, g, h3, h5, h6, hlt, hbw⟩ := hrel
   have h7 : g.len = L - j := by have := HL.out; rw [h3, F.len_app, h5] at this; omega
   cases g with
   | nil =>
     have hjL : L ≤ j := by simp only [F.len] at h7; omega
     have H := Lib.hid (And.intro h3 (And.intro h6 hbw))
     clear h3 h5 h6 h7 hlt hbw
     go_wp2_with fail
     go_ret
     exact ⟨ret_bool (by obtain ⟨h3, h6, _⟩ := H.out; rw [h3, F.app_nil]; exact h6.symm), H.out.2.2⟩
   | cons o1 n1 t1 k1 r1 =>
     have hjL : j < L := by simp only [F.len] at h7; omega
     obtain ⟨b, off, f', rfl, hrow, hbB, hfB⟩ := HSUB.out (by omega)
     rw [h3] at hrow
     obtain ⟨a1, cap1, f1, c0, c1, c2, c3, hc1, hsub1, hin⟩ := row_at hrow
     rw [h5] at c0 c1 c2 c3
     rw [← hbw.cell (p := ⟨_, _, _⟩) hbB] at c0 c1 c2 c3
     have hd := fun (w1 : World) (hw1 : Below wr.heap.size wr w1) => IH.out w1 o1 n1 t1 k1 p r1 a1 cap1 f1 e h3 (hsub1.below (fun c hc => hfB c (hin c hc)) (hbw.trans (hw1.mono hbw.size))) (fun c hc => Nat.lt_of_lt_of_le (hfB c (hin c hc)) (Nat.le_trans hbw.size hw1.size)) hc1 hft (by omega)
     have HD := Lib.hid hd
     have H := Lib.hid (And.intro h3 (And.intro h5 (And.intro h6 (And.intro hlt hbw))))
     have HB := Lib.hid hbox
     clear hd h3 h5 h6 h7 hlt hbw hrow
     cases hok : okD e o1 n1 t1 k1 with
     | true =>
       have HOK := Lib.hid hok
       clear hok
       go_wp2_with (go_at_call 108; refine (HD.out _ (Below.refl _ _)).mono ?_; rw [HOK.out]; rintro e1 w1 ⟨rfl, hb1⟩)
       go_roundw
       case rel =>
        obtain ⟨h3, h5, h6, hlt, hbw⟩ := H.out
        refine ⟨j + 1, by omega, by go_num, (hb1.cell (p := ⟨w.heap.size, 3, none⟩) hlt).trans HB.out, p.app (.cons o1 n1 t1 k1 .nil), r1, by rw [h3, F.app_assoc]; rfl, by rw [F.len_app, h5]; rfl, by rw [F.ok_app, h6, ok_cons, HOK.out]; rfl, Nat.lt_of_lt_of_le hlt hb1.size, hbw.trans (hb1.mono hbw.size)⟩
       case measure => simp [intOf]; omega
     | false =>
       have HOK := Lib.hid hok
       clear hok
       go_wp2_with (go_at_call 108; refine (HD.out _ (Below.refl _ _)).mono ?_; rw [HOK.out]; rintro e1 w1 ⟨rfl, hb1⟩)
       go_ret
       obtain ⟨h3, h5, h6, hlt, hbw⟩ := H.out
       exact ⟨ret_bool (by rw [h3, F.ok_app, ok_cons, HOK.out]; simp), hbw.trans (hb1.mono hbw.size)⟩
theorem isS (m : Nat) : ∀ f : F, f.deep ≤ m → IsS f := by
 induction m with
 | zero =>
   intro f hf w o n t k p r a cap fs d he
   rw [he, F.deep_app] at hf; simp only [F.deep] at hf; omega
 | succ m ih =>
   intro f hf w o n t k p r a cap fs d he hs hfs hc hft hd
   have hk : k.deep ≤ m := by rw [he, F.deep_app] at hf; simp only [F.deep] at hf; omega
   rw [he] at hft
   obtain ⟨h1, h2, h3, _⟩ := (F.Fits.app_iff.1 hft).2
   cases d with
   | zero => rw [okD_zero]; exact l1Is_zero w o n t k a cap
   | succ e =>
     cases hn : nodeB o n t k.len with
     | false => rw [okD_bad hn]; exact l1Is_bad w o n t k a cap (e + 1) (by omega) hd h2 h1 hn
     | true =>
       rw [okD_good hn (by omega)]
       exact l1Is_good w o n t k (ih k hk) a cap fs e hs hfs hc (by omega) h2 h3 h1 hn
theorem l1Is (w : World) (o n : Int) (t : ByteArray) (k : F) (a : Option Addr) (cap : Nat) (fs : List Nat) (d : Nat) (hs : SubAt w a k fs) (hfs : ∀ c ∈ fs, c < w.heap.size) (hc : k.len ≤ cap) (hl : k.len ≤ maxLen) (hft : k.Fits) (ht : t.size ≤ maxLen) (hd : d ≤ 40) :
  Calls Tryz.prog 108 #[.agg #[.int .i64 o, .int .i64 n, .string t, .slice a k.len cap], .int .i64 d] w fun e w' => e = .returned (.bool (okD d o n t k)) ∧ Below w.heap.size w w' :=
 isS _ (.cons o n t k .nil) (Nat.le_refl _) w o n t k .nil .nil a cap fs d rfl hs hfs hc ⟨ht, hl, hft, trivial⟩ hd
end Go.Proofs.YtjcaiecapapceaaGreat.SpecV
namespace Go.Proofs.YtjcaiecapapceaaGreat.SpecC
open Go.RowKit P1
theorem ret_int {k : IntKind} {a b : Int} (h : a = b) : Ending.returned (.int k a) = .returned (.int k b) := by rw [h]
def CntS (f : F) : Prop := ∀ (w : World) (o n : Int) (t : ByteArray) (k : F) (p r : F) (a : Option Addr) (cap : Nat) (fs : List Nat), f = p.app (.cons o n t k r) → SubAt w a k fs → (∀ c ∈ fs, c < w.heap.size) → k.len ≤ cap → f.size ≤ 4194304 →
 Calls Tryz.prog 109 #[.agg #[.int .i64 o, .int .i64 n, .string t, .slice a k.len cap]] w fun e w' => e = .returned (.int .i64 ((1 + k.cnt : Nat) : Int)) ∧ Below w.heap.size w w'
def CntMid (w : World) (k : F) (i : Nat) (c : Int) (wr : World) : Prop := ∃ p g : F, k = p.app g ∧ p.len = i ∧ c = ((1 + p.cnt : Nat) : Int) ∧ w.heap.size < wr.heap.size ∧ Below w.heap.size w wr
theorem l1Count_step (w : World) (o n : Int) (t : ByteArray) (k : F) (ih : CntS k) (a : Option Addr) (cap : Nat) (fs : List Nat) (hs : SubAt w a k fs) (hfs : ∀ c ∈ fs, c < w.heap.size) (hc : k.len ≤ cap) (hsz : k.size ≤ 4194304) :
  Calls Tryz.prog 109 #[.agg #[.int .i64 o, .int .i64 n, .string t, .slice a k.len cap]] w fun e w' => e = .returned (.int .i64 ((1 + k.cnt : Nat) : Int)) ∧ Below w.heap.size w w' := by
 have hcs := F.cnt_le_size k
 have hlc := F.len_le_cnt k
 obtain ⟨L, hL⟩ : ∃ L, k.len = L := ⟨_, rfl⟩
 rw [hL] at hc hlc ⊢
 have hL4 : L ≤ 4194304 := by omega
 have HL := Lib.hid hL
 clear hL
 have hsub : 0 < L → ∃ b off f', a = some ⟨b, off, none⟩ ∧ RowAt w k b off f' ∧ b < w.heap.size ∧ ∀ c ∈ f', c < w.heap.size := by
  intro h0
  rcases hs with ⟨rfl, rfl⟩ | ⟨b, off, f', rfl, hnil, rfl, hrow⟩
  ·have := HL.out; simp only [F.len] at this; omega
  ·exact ⟨b, off, f', rfl, hrow, hfs b (by simp), fun c hc => hfs c (by simp [hc])⟩
 have HSUB := Lib.hid hsub
 have IH := Lib.hid ih
 clear hsub hs hfs ih
 go_enter Tryz.func109, Tryz.ntmps109
 go_wp2_with fail
 go_loopw [4, 3] (fun i l wr => ∃ (j : Nat) (c : Int), j ≤ L ∧ i = .int .i64 j ∧ l = .int .i64 c ∧ 0 ≤ c ∧ c ≤ 4194305 ∧ wr.cell? ⟨w.heap.size, 3, none⟩ = some (.slice a L cap) ∧ CntMid w k j c wr) (fun i _ _ => L - (intOf i).toNat)
 case atStart => exact ⟨0, 1, by omega, rfl, rfl, by omega, by omega, by simp, .nil, k, rfl, rfl, rfl, by simp, (Below.refl _ _).alloc (Nat.le_refl _) _⟩
 case round =>
  obtain ⟨j, c, hj, rfl, rfl, hc0, hc1, hbox, p, g, h3, h5, h6, hlt, hbw⟩ := hrel
  have h7 : g.len = L - j := by have := HL.out; rw [h3, F.len_app, h5] at this; omega
  cases g with
  | nil =>
    have hjL : L ≤ j := by simp only [F.len] at h7; omega
    have H := Lib.hid (And.intro h3 (And.intro h6 hbw))
    clear h3 h5 h6 h7 hlt hbw
    go_wp2_with fail
    go_ret
    exact ⟨ret_int (by obtain ⟨h3, h6, _⟩ := H.out; rw [h6, h3, F.app_nil]), H.out.2.2⟩
  | cons o1 n1 t1 k1 r1 =>
    have hjL : j < L := by simp only [F.len] at h7; omega
    obtain ⟨b, off, f', rfl, hrow, hbB, hfB⟩ := HSUB.out (by omega)
    rw [h3] at hrow
    obtain ⟨a1, cap1, f1, c0, c1, c2, c3, hc1', hsub1, hin⟩ := row_at hrow
    rw [h5] at c0 c1 c2 c3
    rw [← hbw.cell (p := ⟨_, _, _⟩) hbB] at c0 c1 c2 c3
    have hd := IH.out wr o1 n1 t1 k1 p r1 a1 cap1 f1 h3 (hsub1.below (fun c hc => hfB c (hin c hc)) hbw) (fun c hc => Nat.lt_of_lt_of_le (hfB c (hin c hc)) hbw.size) hc1' hsz
    have hct : p.cnt + (1 + k1.cnt) + r1.cnt = k.cnt := by rw [h3, F.cnt_app]; simp only [F.cnt]; omega
    obtain ⟨z, hz⟩ : ∃ z : Int, ((1 + k1.cnt : Nat) : Int) = z := ⟨_, rfl⟩
    rw [hz] at hd
    have hz0 : 0 ≤ z := by omega
    have hz1 : c + z ≤ 4194305 := by omega
    have HD := Lib.hid hd
    have H := Lib.hid (And.intro h3 (And.intro h5 (And.intro h6 (And.intro hlt (And.intro hbw (And.intro hct hz))))))
    have HB := Lib.hid hbox
    clear hd h3 h5 h6 h7 hlt hbw hrow hct hz hcs hlc
    go_wp2_with (go_at_call 109; refine HD.out.mono ?_; rintro e1 w1 ⟨rfl, hb1⟩)
    go_roundw
    case rel =>
     obtain ⟨h3, h5, h6, hlt, hbw, hct, hz⟩ := H.out
     refine ⟨j + 1, c + z, by omega, by go_num, rfl, by omega, by omega, (hb1.cell (p := ⟨w.heap.size, 3, none⟩) hlt).trans HB.out, p.app (.cons o1 n1 t1 k1 .nil), r1, by rw [h3, F.app_assoc]; rfl, by rw [F.len_app, h5]; rfl, ?_, Nat.lt_of_lt_of_le hlt hb1.size, hbw.trans (hb1.mono hbw.size)⟩
     rw [F.cnt_app]; simp only [F.cnt]; omega
    case measure => simp [intOf]; omega
theorem cntS (m : Nat) : ∀ f : F, f.deep ≤ m → CntS f := by
 induction m with
 | zero =>
   intro f hf w o n t k p r a cap fs he
   rw [he, F.deep_app] at hf; simp only [F.deep] at hf; omega
 | succ m ih =>
   intro f hf w o n t k p r a cap fs he hs hfs hc hsz
   have hk : k.deep ≤ m := by rw [he, F.deep_app] at hf; simp only [F.deep] at hf; omega
   exact l1Count_step w o n t k (ih k hk) a cap fs hs hfs hc (by rw [he, F.size_app] at hsz; simp only [F.size] at hsz; omega)
theorem l1Count (w : World) (o n : Int) (t : ByteArray) (k : F) (a : Option Addr) (cap : Nat) (fs : List Nat) (hs : SubAt w a k fs) (hfs : ∀ c ∈ fs, c < w.heap.size) (hc : k.len ≤ cap) (hsz : k.size ≤ 4194304) :
  Calls Tryz.prog 109 #[.agg #[.int .i64 o, .int .i64 n, .string t, .slice a k.len cap]] w fun e w' => e = .returned (.int .i64 ((1 + k.cnt : Nat) : Int)) ∧ Below w.heap.size w w' :=
 l1Count_step w o n t k (cntS _ k (Nat.le_refl _)) a cap fs hs hfs hc hsz
theorem docValid (w : World) (o n : Int) (t : ByteArray) (k : F) (a : Option Addr) (cap : Nat) (fs : List Nat) (hs : SubAt w a k fs) (hfs : ∀ c ∈ fs, c < w.heap.size) (hc : k.len ≤ cap) (hsz : k.size ≤ 4194304) (hft : k.Fits) (ht : t.size ≤ maxLen) :
  Calls Tryz.prog 58 #[.agg #[.int .i64 o, .int .i64 n, .string t, .slice a k.len cap]] w fun e w' => e = .returned (.bool (validD o n t k)) ∧ Below w.heap.size w w' := by
 have hl : k.len ≤ maxLen := by have := F.len_le_size k; unfold maxLen; omega
 have hcs := F.cnt_le_size k
 have B1 : ∀ (ob : Obj), Below w.heap.size w (w.alloc ob) := fun ob => (Below.refl _ _).alloc (Nat.le_refl _) _
 have hi := fun (w1 : World) (hw1 : Below w.heap.size w w1) => SpecV.l1Is w1 o n t k a cap fs 40 (hs.below hfs hw1) (fun c hc => Nat.lt_of_lt_of_le (hfs c hc) hw1.size) hc hl hft ht (by omega)
 have hn := fun (w1 : World) (hw1 : Below w.heap.size w w1) => l1Count w1 o n t k a cap fs (hs.below hfs hw1) (fun c hc => Nat.lt_of_lt_of_le (hfs c hc) hw1.size) hc hsz
 obtain ⟨z, hz⟩ : ∃ z : Nat, 1 + k.cnt = z := ⟨_, rfl⟩
 rw [hz] at hn
 cases hk : okD 40 o n t k with
 | false =>
   have hv : validD o n t k = false := by simp [validD, hk]
   rw [hv]
   rw [hk] at hi
   have HI := Lib.hid hi
   clear hi hn hk hv hs hfs hz hcs
   go_enter Tryz.func58, Tryz.ntmps58
   go_wp2_with (go_at_call 108; refine (HI.out _ (B1 _)).mono ?_; rintro e1 w1 ⟨rfl, hb1⟩)
   go_ret
   exact ⟨rfl, (B1 _).trans (hb1.mono (by simp))⟩
 | true =>
   have hv : validD o n t k = decide ((z : Int) ≤ 80) := by
    simp only [validD, hk, hz, Bool.true_and]
    rw [Bool.eq_iff_iff]; simp; omega
   rw [hv]
   rw [hk] at hi
   have HI := Lib.hid hi
   have HN := Lib.hid hn
   clear hi hn hk hv hs hfs hz hcs
   go_enter Tryz.func58, Tryz.ntmps58
   go_wp2_with fail
   refine (HI.out _ (B1 _)).mono ?_
   rintro e1 w1 ⟨rfl, hb1⟩
   have hbx : w1.cell? ⟨w.heap.size, 0, none⟩ = some (.int .i64 o) ∧ w1.cell? ⟨w.heap.size, 1, none⟩ = some (.int .i64 n) ∧ w1.cell? ⟨w.heap.size, 2, none⟩ = some (.string t) ∧ w1.cell? ⟨w.heap.size, 3, none⟩ = some (.slice a k.len cap) := by
    refine ⟨?_, ?_, ?_, ?_⟩
    all_goals (rw [hb1.cell (p := ⟨_, _, _⟩) (by simp)]; simp)
   obtain ⟨x0, x1, x2, x3⟩ := hbx
   have hb2 := (B1 _).trans (hb1.mono (by simp))
   have HB := Lib.hid hb2
   clear hb1 hb2
   go_wp2_with (go_at_call 109; refine (HN.out _ HB.out).mono ?_; rintro e1 w1 ⟨rfl, hb1⟩)
   go_ret
   exact ⟨rfl, HB.out.trans (hb1.mono HB.out.size)⟩
end Go.Proofs.YtjcaiecapapceaaGreat.SpecC
namespace Go.Proofs.YtjcaiecapapceaaGreat.NodeV
open Go.RowKit P1
theorem drewN_below {B : Nat} {a w : World} (h : Below B a w) (n : Nat) : Below B a (w.drewN n) := by
 induction n with
 | zero => exact h
 | succ n ih => exact ih.drew
theorem ret_bool {a b : Bool} (h : a = b) : Ending.returned (.bool a) = .returned (.bool b) := by rw [h]
theorem bytes_ne_empty {t : ByteArray} (h : t ≠ ⟨#[]⟩) : (t.toList == ([] : List UInt8)) = false ∧ t.toList.isEmpty = false := by
 have h1 := bytes_ne h
 have h2 : (t.toList == ([] : List UInt8)) = false := by simpa using h1
 refine ⟨h2, ?_⟩
 cases hq : t.toList with
 | nil => rw [hq] at h2; simp at h2
 | cons => rfl
theorem plainB {o : Int} (h2 : o ≠ 2) (h6 : o ≠ 6) (n : Int) (t : ByteArray) (l : Nat) : nodeB o n t l = (decide ((l : Int) = kidsOf o) && decide (t = ⟨#[]⟩) && decide (n = 0)) := by simp [nodeB, textB, numB, h2, h6]
theorem twoB (n : Int) (t : ByteArray) (l : Nat) : nodeB 2 n t l = (decide ((l : Int) = kidsOf 2) && tv t.data.toList && decide (n = 0)) := by simp [nodeB, textB, numB]
theorem sixB (n : Int) (t : ByteArray) (l : Nat) : nodeB 6 n t l = (decide ((l : Int) = kidsOf 6) && decide (t = ⟨#[]⟩) && (decide (0 ≤ n) && decide (n ≤ 9))) := by simp [nodeB, textB, numB]
theorem op1 (w : World) (n : Int) (t : ByteArray) (L : Nat) (a : Option Addr) (cap : Nat) (hl : L ≤ maxLen) :
  Calls Tryz.prog 115 #[.agg #[.int .i64 1, .int .i64 n, .string t, .slice a L cap]] w fun e w' => e = .returned (.bool (nodeB 1 n t L)) ∧ Below w.heap.size w w' := by
 have B1 : ∀ (ob : Obj) (nq : Nat), Below w.heap.size w ((w.alloc ob).drewN nq) := fun ob nq => drewN_below ((Below.refl _ _).alloc (Nat.le_refl _) _) _
 rw [plainB (by omega) (by omega), show kidsOf 1 = 0 from rfl]
 unfold maxLen at hl
 by_cases hL : (L : Int) = 0
 ·have HL := Lib.hid hL
  have bL : ((L : Int) == 0) = true := beq_iff_eq.2 hL
  clear hL
  by_cases hn : n = 0
  ·subst hn
   by_cases ht : t = ⟨#[]⟩
   ·subst ht
    go_enter Tryz.func115, Tryz.ntmps115
    go_wp2_with fail
    go_quiet (fail)
    go_wp2_with fail
    all_goals
     go_ret
     exact ⟨ret_bool (by simp [HL.out]), B1 _ _⟩
   ·have HT := Lib.hid ht
    obtain ⟨t1, t2⟩ := bytes_ne_empty ht
    clear ht
    go_enter Tryz.func115, Tryz.ntmps115
    go_wp2_with fail
    go_quiet (fail)
    go_wp2_with fail
    all_goals
     go_ret
     exact ⟨ret_bool (by simp [HT.out]), B1 _ _⟩
  ·have HN := Lib.hid hn
   have bn : (n == 0) = false := beq_eq_false_iff_ne.2 hn
   go_enter Tryz.func115, Tryz.ntmps115
   go_wp2_with fail
   go_quiet (fail)
   go_wp2_with fail
   all_goals
    go_ret
    exact ⟨ret_bool (by simp [HN.out]), B1 _ _⟩
 ·have HL := Lib.hid hL
  have bL : ((L : Int) == 0) = false := beq_eq_false_iff_ne.2 hL
  go_enter Tryz.func115, Tryz.ntmps115
  go_wp2_with fail
  go_quiet (fail)
  go_wp2_with fail
  all_goals
   go_ret
   exact ⟨ret_bool (by rw [decide_eq_false HL.out, Bool.false_and, Bool.false_and]), B1 _ _⟩
theorem op3 (w : World) (n : Int) (t : ByteArray) (L : Nat) (a : Option Addr) (cap : Nat) (hl : L ≤ maxLen) :
  Calls Tryz.prog 115 #[.agg #[.int .i64 3, .int .i64 n, .string t, .slice a L cap]] w fun e w' => e = .returned (.bool (nodeB 3 n t L)) ∧ Below w.heap.size w w' := by
 have B1 : ∀ (ob : Obj) (nq : Nat), Below w.heap.size w ((w.alloc ob).drewN nq) := fun ob nq => drewN_below ((Below.refl _ _).alloc (Nat.le_refl _) _) _
 rw [plainB (by omega) (by omega), show kidsOf 3 = 0 from rfl]
 unfold maxLen at hl
 by_cases hL : (L : Int) = 0
 ·have HL := Lib.hid hL
  have bL : ((L : Int) == 0) = true := beq_iff_eq.2 hL
  clear hL
  by_cases hn : n = 0
  ·subst hn
   by_cases ht : t = ⟨#[]⟩
   ·subst ht
    go_enter Tryz.func115, Tryz.ntmps115
    go_wp2_with fail
    go_quiet (fail)
    go_wp2_with fail
    all_goals
     go_ret
     exact ⟨ret_bool (by simp [HL.out]), B1 _ _⟩
   ·have HT := Lib.hid ht
    obtain ⟨t1, t2⟩ := bytes_ne_empty ht
    clear ht
    go_enter Tryz.func115, Tryz.ntmps115
    go_wp2_with fail
    go_quiet (fail)
    go_wp2_with fail
    all_goals
     go_ret
     exact ⟨ret_bool (by simp [HT.out]), B1 _ _⟩
  ·have HN := Lib.hid hn
   have bn : (n == 0) = false := beq_eq_false_iff_ne.2 hn
   go_enter Tryz.func115, Tryz.ntmps115
   go_wp2_with fail
   go_quiet (fail)
   go_wp2_with fail
   all_goals
    go_ret
    exact ⟨ret_bool (by simp [HN.out]), B1 _ _⟩
 ·have HL := Lib.hid hL
  have bL : ((L : Int) == 0) = false := beq_eq_false_iff_ne.2 hL
  go_enter Tryz.func115, Tryz.ntmps115
  go_wp2_with fail
  go_quiet (fail)
  go_wp2_with fail
  all_goals
   go_ret
   exact ⟨ret_bool (by rw [decide_eq_false HL.out, Bool.false_and, Bool.false_and]), B1 _ _⟩
theorem op4 (w : World) (n : Int) (t : ByteArray) (L : Nat) (a : Option Addr) (cap : Nat) (hl : L ≤ maxLen) :
  Calls Tryz.prog 115 #[.agg #[.int .i64 4, .int .i64 n, .string t, .slice a L cap]] w fun e w' => e = .returned (.bool (nodeB 4 n t L)) ∧ Below w.heap.size w w' := by
 have B1 : ∀ (ob : Obj) (nq : Nat), Below w.heap.size w ((w.alloc ob).drewN nq) := fun ob nq => drewN_below ((Below.refl _ _).alloc (Nat.le_refl _) _) _
 rw [plainB (by omega) (by omega), show kidsOf 4 = 0 from rfl]
 unfold maxLen at hl
 by_cases hL : (L : Int) = 0
 ·have HL := Lib.hid hL
  have bL : ((L : Int) == 0) = true := beq_iff_eq.2 hL
  clear hL
  by_cases hn : n = 0
  ·subst hn
   by_cases ht : t = ⟨#[]⟩
   ·subst ht
    go_enter Tryz.func115, Tryz.ntmps115
    go_wp2_with fail
    go_quiet (fail)
    go_wp2_with fail
    all_goals
     go_ret
     exact ⟨ret_bool (by simp [HL.out]), B1 _ _⟩
   ·have HT := Lib.hid ht
    obtain ⟨t1, t2⟩ := bytes_ne_empty ht
    clear ht
    go_enter Tryz.func115, Tryz.ntmps115
    go_wp2_with fail
    go_quiet (fail)
    go_wp2_with fail
    all_goals
     go_ret
     exact ⟨ret_bool (by simp [HT.out]), B1 _ _⟩
  ·have HN := Lib.hid hn
   have bn : (n == 0) = false := beq_eq_false_iff_ne.2 hn
   go_enter Tryz.func115, Tryz.ntmps115
   go_wp2_with fail
   go_quiet (fail)
   go_wp2_with fail
   all_goals
    go_ret
    exact ⟨ret_bool (by simp [HN.out]), B1 _ _⟩
 ·have HL := Lib.hid hL
  have bL : ((L : Int) == 0) = false := beq_eq_false_iff_ne.2 hL
  go_enter Tryz.func115, Tryz.ntmps115
  go_wp2_with fail
  go_quiet (fail)
  go_wp2_with fail
  all_goals
   go_ret
   exact ⟨ret_bool (by rw [decide_eq_false HL.out, Bool.false_and, Bool.false_and]), B1 _ _⟩
theorem op5 (w : World) (n : Int) (t : ByteArray) (L : Nat) (a : Option Addr) (cap : Nat) (hl : L ≤ maxLen) :
  Calls Tryz.prog 115 #[.agg #[.int .i64 5, .int .i64 n, .string t, .slice a L cap]] w fun e w' => e = .returned (.bool (nodeB 5 n t L)) ∧ Below w.heap.size w w' := by
 have B1 : ∀ (ob : Obj) (nq : Nat), Below w.heap.size w ((w.alloc ob).drewN nq) := fun ob nq => drewN_below ((Below.refl _ _).alloc (Nat.le_refl _) _) _
 rw [plainB (by omega) (by omega), show kidsOf 5 = 0 from rfl]
 unfold maxLen at hl
 by_cases hL : (L : Int) = 0
 ·have HL := Lib.hid hL
  have bL : ((L : Int) == 0) = true := beq_iff_eq.2 hL
  clear hL
  by_cases hn : n = 0
  ·subst hn
   by_cases ht : t = ⟨#[]⟩
   ·subst ht
    go_enter Tryz.func115, Tryz.ntmps115
    go_wp2_with fail
    go_quiet (fail)
    go_wp2_with fail
    all_goals
     go_ret
     exact ⟨ret_bool (by simp [HL.out]), B1 _ _⟩
   ·have HT := Lib.hid ht
    obtain ⟨t1, t2⟩ := bytes_ne_empty ht
    clear ht
    go_enter Tryz.func115, Tryz.ntmps115
    go_wp2_with fail
    go_quiet (fail)
    go_wp2_with fail
    all_goals
     go_ret
     exact ⟨ret_bool (by simp [HT.out]), B1 _ _⟩
  ·have HN := Lib.hid hn
   have bn : (n == 0) = false := beq_eq_false_iff_ne.2 hn
   go_enter Tryz.func115, Tryz.ntmps115
   go_wp2_with fail
   go_quiet (fail)
   go_wp2_with fail
   all_goals
    go_ret
    exact ⟨ret_bool (by simp [HN.out]), B1 _ _⟩
 ·have HL := Lib.hid hL
  have bL : ((L : Int) == 0) = false := beq_eq_false_iff_ne.2 hL
  go_enter Tryz.func115, Tryz.ntmps115
  go_wp2_with fail
  go_quiet (fail)
  go_wp2_with fail
  all_goals
   go_ret
   exact ⟨ret_bool (by rw [decide_eq_false HL.out, Bool.false_and, Bool.false_and]), B1 _ _⟩
theorem op7 (w : World) (n : Int) (t : ByteArray) (L : Nat) (a : Option Addr) (cap : Nat) (hl : L ≤ maxLen) :
  Calls Tryz.prog 115 #[.agg #[.int .i64 7, .int .i64 n, .string t, .slice a L cap]] w fun e w' => e = .returned (.bool (nodeB 7 n t L)) ∧ Below w.heap.size w w' := by
 have B1 : ∀ (ob : Obj) (nq : Nat), Below w.heap.size w ((w.alloc ob).drewN nq) := fun ob nq => drewN_below ((Below.refl _ _).alloc (Nat.le_refl _) _) _
 rw [plainB (by omega) (by omega), show kidsOf 7 = 2 from rfl]
 unfold maxLen at hl
 by_cases hL : (L : Int) = 2
 ·have HL := Lib.hid hL
  have bL : ((L : Int) == 2) = true := beq_iff_eq.2 hL
  clear hL
  by_cases hn : n = 0
  ·subst hn
   by_cases ht : t = ⟨#[]⟩
   ·subst ht
    go_enter Tryz.func115, Tryz.ntmps115
    go_wp2_with fail
    go_quiet (fail)
    go_wp2_with fail
    all_goals
     go_ret
     exact ⟨ret_bool (by simp [HL.out]), B1 _ _⟩
   ·have HT := Lib.hid ht
    obtain ⟨t1, t2⟩ := bytes_ne_empty ht
    clear ht
    go_enter Tryz.func115, Tryz.ntmps115
    go_wp2_with fail
    go_quiet (fail)
    go_wp2_with fail
    all_goals
     go_ret
     exact ⟨ret_bool (by simp [HT.out]), B1 _ _⟩
  ·have HN := Lib.hid hn
   have bn : (n == 0) = false := beq_eq_false_iff_ne.2 hn
   go_enter Tryz.func115, Tryz.ntmps115
   go_wp2_with fail
   go_quiet (fail)
   go_wp2_with fail
   all_goals
    go_ret
    exact ⟨ret_bool (by simp [HN.out]), B1 _ _⟩
 ·have HL := Lib.hid hL
  have bL : ((L : Int) == 2) = false := beq_eq_false_iff_ne.2 hL
  go_enter Tryz.func115, Tryz.ntmps115
  go_wp2_with fail
  go_quiet (fail)
  go_wp2_with fail
  all_goals
   go_ret
   exact ⟨ret_bool (by rw [decide_eq_false HL.out, Bool.false_and, Bool.false_and]), B1 _ _⟩
theorem op8 (w : World) (n : Int) (t : ByteArray) (L : Nat) (a : Option Addr) (cap : Nat) (hl : L ≤ maxLen) :
  Calls Tryz.prog 115 #[.agg #[.int .i64 8, .int .i64 n, .string t, .slice a L cap]] w fun e w' => e = .returned (.bool (nodeB 8 n t L)) ∧ Below w.heap.size w w' := by
 have B1 : ∀ (ob : Obj) (nq : Nat), Below w.heap.size w ((w.alloc ob).drewN nq) := fun ob nq => drewN_below ((Below.refl _ _).alloc (Nat.le_refl _) _) _
 rw [plainB (by omega) (by omega), show kidsOf 8 = 1 from rfl]
 unfold maxLen at hl
 by_cases hL : (L : Int) = 1
 ·have HL := Lib.hid hL
  have bL : ((L : Int) == 1) = true := beq_iff_eq.2 hL
  clear hL
  by_cases hn : n = 0
  ·subst hn
   by_cases ht : t = ⟨#[]⟩
   ·subst ht
    go_enter Tryz.func115, Tryz.ntmps115
    go_wp2_with fail
    go_quiet (fail)
    go_wp2_with fail
    all_goals
     go_ret
     exact ⟨ret_bool (by simp [HL.out]), B1 _ _⟩
   ·have HT := Lib.hid ht
    obtain ⟨t1, t2⟩ := bytes_ne_empty ht
    clear ht
    go_enter Tryz.func115, Tryz.ntmps115
    go_wp2_with fail
    go_quiet (fail)
    go_wp2_with fail
    all_goals
     go_ret
     exact ⟨ret_bool (by simp [HT.out]), B1 _ _⟩
  ·have HN := Lib.hid hn
   have bn : (n == 0) = false := beq_eq_false_iff_ne.2 hn
   go_enter Tryz.func115, Tryz.ntmps115
   go_wp2_with fail
   go_quiet (fail)
   go_wp2_with fail
   all_goals
    go_ret
    exact ⟨ret_bool (by simp [HN.out]), B1 _ _⟩
 ·have HL := Lib.hid hL
  have bL : ((L : Int) == 1) = false := beq_eq_false_iff_ne.2 hL
  go_enter Tryz.func115, Tryz.ntmps115
  go_wp2_with fail
  go_quiet (fail)
  go_wp2_with fail
  all_goals
   go_ret
   exact ⟨ret_bool (by rw [decide_eq_false HL.out, Bool.false_and, Bool.false_and]), B1 _ _⟩
theorem op2 (w : World) (n : Int) (t : ByteArray) (L : Nat) (a : Option Addr) (cap : Nat) (hl : L ≤ maxLen) (hts : t.size ≤ maxLen) :
  Calls Tryz.prog 115 #[.agg #[.int .i64 2, .int .i64 n, .string t, .slice a L cap]] w fun e w' => e = .returned (.bool (nodeB 2 n t L)) ∧ Below w.heap.size w w' := by
 have B1 : ∀ (ob : Obj) (nq : Nat), Below w.heap.size w ((w.alloc ob).drewN nq) := fun ob nq => drewN_below ((Below.refl _ _).alloc (Nat.le_refl _) _) _
 rw [twoB, show kidsOf 2 = 0 from rfl]
 unfold maxLen at hl
 cases ht : tv t.data.toList with
 | false =>
   have HT := Lib.hid ht
   clear ht
   by_cases hL : (L : Int) = 0
   ·have HL := Lib.hid hL
    have bL : ((L : Int) == 0) = true := beq_iff_eq.2 hL
    clear hL
    go_enter Tryz.func115, Tryz.ntmps115
    go_wp2_with fail
    go_quiet (fail)
    go_wp2_with (go_at_call 165; refine (TextV.implTextValid _ hts _).mono ?_; rw [HT.out]; rintro e w' ⟨rfl, rfl⟩)
    all_goals
     go_ret
     exact ⟨ret_bool (by simp), B1 _ _⟩
   ·have HL := Lib.hid hL
    have bL : ((L : Int) == 0) = false := beq_eq_false_iff_ne.2 hL
    go_enter Tryz.func115, Tryz.ntmps115
    go_wp2_with fail
    go_quiet (fail)
    go_wp2_with (go_at_call 165; refine (TextV.implTextValid _ hts _).mono ?_; rw [HT.out]; rintro e w' ⟨rfl, rfl⟩)
    all_goals
     go_ret
     exact ⟨ret_bool (by simp), B1 _ _⟩
 | true =>
   have HT := Lib.hid ht
   clear ht
   by_cases hL : (L : Int) = 0
   ·have HL := Lib.hid hL
    have bL : ((L : Int) == 0) = true := beq_iff_eq.2 hL
    clear hL
    by_cases hn : n = 0
    ·subst hn
     go_enter Tryz.func115, Tryz.ntmps115
     go_wp2_with fail
     go_quiet (fail)
     go_wp2_with (go_at_call 165; refine (TextV.implTextValid _ hts _).mono ?_; rw [HT.out]; rintro e w' ⟨rfl, rfl⟩)
     all_goals
      go_ret
      exact ⟨ret_bool (by simp [HL.out]), B1 _ _⟩
    ·have HN := Lib.hid hn
     have bn : (n == 0) = false := beq_eq_false_iff_ne.2 hn
     go_enter Tryz.func115, Tryz.ntmps115
     go_wp2_with fail
     go_quiet (fail)
     go_wp2_with (go_at_call 165; refine (TextV.implTextValid _ hts _).mono ?_; rw [HT.out]; rintro e w' ⟨rfl, rfl⟩)
     all_goals
      go_ret
      exact ⟨ret_bool (by simp [HN.out]), B1 _ _⟩
   ·have HL := Lib.hid hL
    have bL : ((L : Int) == 0) = false := beq_eq_false_iff_ne.2 hL
    go_enter Tryz.func115, Tryz.ntmps115
    go_wp2_with fail
    go_quiet (fail)
    go_wp2_with (go_at_call 165; refine (TextV.implTextValid _ hts _).mono ?_; rw [HT.out]; rintro e w' ⟨rfl, rfl⟩)
    all_goals
     go_ret
     exact ⟨ret_bool (by rw [decide_eq_false HL.out, Bool.false_and, Bool.false_and]), B1 _ _⟩
theorem op6 (w : World) (n : Int) (t : ByteArray) (L : Nat) (a : Option Addr) (cap : Nat) (hl : L ≤ maxLen) (hts : t.size ≤ maxLen) :
  Calls Tryz.prog 115 #[.agg #[.int .i64 6, .int .i64 n, .string t, .slice a L cap]] w fun e w' => e = .returned (.bool (nodeB 6 n t L)) ∧ Below w.heap.size w w' := by
 have B1 : ∀ (ob : Obj) (nq : Nat), Below w.heap.size w ((w.alloc ob).drewN nq) := fun ob nq => drewN_below ((Below.refl _ _).alloc (Nat.le_refl _) _) _
 rw [sixB, show kidsOf 6 = 1 from rfl]
 unfold maxLen at hl
 clear hts
 by_cases hL : (L : Int) = 1
 ·have HL := Lib.hid hL
  have bL : ((L : Int) == 1) = true := beq_iff_eq.2 hL
  clear hL
  by_cases ht : t = ⟨#[]⟩
  ·subst ht
   by_cases h0 : 0 ≤ n
   ·have b0 : decide (0 ≤ n) = true := by simpa using h0
    by_cases h9 : n ≤ 9
    ·have b9 : decide (n ≤ 9) = true := by simpa using h9
     go_enter Tryz.func115, Tryz.ntmps115
     go_wp2_with fail
     go_quiet (fail)
     go_wp2_with fail
     go_quiet (fail)
     go_wp2_with fail
     all_goals
      go_ret
      exact ⟨ret_bool (by simp [HL.out, h0, h9]), by repeat (first | exact (Below.refl _ _).alloc (Nat.le_refl _) _ | refine drewN_below ?_ _)⟩
    ·have b9 : decide (n ≤ 9) = false := by simpa using h9
     go_enter Tryz.func115, Tryz.ntmps115
     go_wp2_with fail
     go_quiet (fail)
     go_wp2_with fail
     go_quiet (fail)
     go_wp2_with fail
     all_goals
      go_ret
      exact ⟨ret_bool (by simp; intros; omega), by repeat (first | exact (Below.refl _ _).alloc (Nat.le_refl _) _ | refine drewN_below ?_ _)⟩
   ·have b0 : decide (0 ≤ n) = false := by simpa using h0
    go_enter Tryz.func115, Tryz.ntmps115
    go_wp2_with fail
    go_quiet (fail)
    go_wp2_with fail
    go_quiet (fail)
    go_wp2_with fail
    all_goals
     go_ret
     exact ⟨ret_bool (by simp; intros; omega), by repeat (first | exact (Below.refl _ _).alloc (Nat.le_refl _) _ | refine drewN_below ?_ _)⟩
  ·have HT := Lib.hid ht
   obtain ⟨t1, t2⟩ := bytes_ne_empty ht
   clear ht
   by_cases h0 : 0 ≤ n
   ·have b0 : decide (0 ≤ n) = true := by simpa using h0
    go_enter Tryz.func115, Tryz.ntmps115
    go_wp2_with fail
    go_quiet (fail)
    go_wp2_with fail
    go_quiet (fail)
    go_wp2_with fail
    all_goals
     go_ret
     exact ⟨ret_bool (by simp [HT.out]), by repeat (first | exact (Below.refl _ _).alloc (Nat.le_refl _) _ | refine drewN_below ?_ _)⟩
   ·have b0 : decide (0 ≤ n) = false := by simpa using h0
    go_enter Tryz.func115, Tryz.ntmps115
    go_wp2_with fail
    go_quiet (fail)
    go_wp2_with fail
    go_quiet (fail)
    go_wp2_with fail
    all_goals
     go_ret
     exact ⟨ret_bool (by simp [HT.out]), by repeat (first | exact (Below.refl _ _).alloc (Nat.le_refl _) _ | refine drewN_below ?_ _)⟩
 ·have HL := Lib.hid hL
  have bL : ((L : Int) == 1) = false := beq_eq_false_iff_ne.2 hL
  by_cases h0 : 0 ≤ n
  ·have b0 : decide (0 ≤ n) = true := by simpa using h0
   go_enter Tryz.func115, Tryz.ntmps115
   go_wp2_with fail
   go_quiet (fail)
   go_wp2_with fail
   go_quiet (fail)
   go_wp2_with fail
   all_goals
    go_ret
    exact ⟨ret_bool (by rw [decide_eq_false HL.out, Bool.false_and, Bool.false_and]), by repeat (first | exact (Below.refl _ _).alloc (Nat.le_refl _) _ | refine drewN_below ?_ _)⟩
  ·have b0 : decide (0 ≤ n) = false := by simpa using h0
   go_enter Tryz.func115, Tryz.ntmps115
   go_wp2_with fail
   go_quiet (fail)
   go_wp2_with fail
   go_quiet (fail)
   go_wp2_with fail
   all_goals
    go_ret
    exact ⟨ret_bool (by rw [decide_eq_false HL.out, Bool.false_and, Bool.false_and]), by repeat (first | exact (Below.refl _ _).alloc (Nat.le_refl _) _ | refine drewN_below ?_ _)⟩
theorem other (w : World) (o n : Int) (t : ByteArray) (L : Nat) (a : Option Addr) (cap : Nat) (h1 : o ≠ 1) (h2 : o ≠ 2) (h3 : o ≠ 3) (h4 : o ≠ 4) (h5 : o ≠ 5) (h6 : o ≠ 6) (h7 : o ≠ 7) (h8 : o ≠ 8) :
  Calls Tryz.prog 115 #[.agg #[.int .i64 o, .int .i64 n, .string t, .slice a L cap]] w fun e w' => e = .returned (.bool false) ∧ Below w.heap.size w w' := by
 have B1 : ∀ (ob : Obj) (nq : Nat), Below w.heap.size w ((w.alloc ob).drewN nq) := fun ob nq => drewN_below ((Below.refl _ _).alloc (Nat.le_refl _) _) _
 have b1 : (o == 1) = false := beq_eq_false_iff_ne.2 h1
 have b2 : (o == 2) = false := beq_eq_false_iff_ne.2 h2
 have b3 : (o == 3) = false := beq_eq_false_iff_ne.2 h3
 have b4 : (o == 4) = false := beq_eq_false_iff_ne.2 h4
 have b5 : (o == 5) = false := beq_eq_false_iff_ne.2 h5
 have b6 : (o == 6) = false := beq_eq_false_iff_ne.2 h6
 have b7 : (o == 7) = false := beq_eq_false_iff_ne.2 h7
 have b8 : (o == 8) = false := beq_eq_false_iff_ne.2 h8
 clear h1 h2 h3 h4 h5 h6 h7 h8
 go_enter Tryz.func115, Tryz.ntmps115
 go_wp2_with fail
 go_quiet (fail)
 go_wp2_with fail
 all_goals
  go_ret
  exact ⟨rfl, B1 _ _⟩
theorem nodeValid (w : World) (o n : Int) (t : ByteArray) (L : Nat) (a : Option Addr) (cap : Nat) (hl : L ≤ maxLen) (hts : t.size ≤ maxLen) :
  Calls Tryz.prog 115 #[.agg #[.int .i64 o, .int .i64 n, .string t, .slice a L cap]] w fun e w' => e = .returned (.bool (nodeB o n t L)) ∧ Below w.heap.size w w' := by
 rcases kidsOf_ways o with ⟨h, _⟩ | ⟨h, _⟩ | ⟨h, _⟩ | ⟨h, _⟩ | ⟨h, _⟩ | ⟨h, _⟩ | ⟨h, _⟩ | ⟨h, _⟩ | ⟨h1, h2, h3, h4, h5, h6, h7, h8, e⟩
 ·subst h; exact op1 w n t L a cap hl
 ·subst h; exact op2 w n t L a cap hl hts
 ·subst h; exact op3 w n t L a cap hl
 ·subst h; exact op4 w n t L a cap hl
 ·subst h; exact op5 w n t L a cap hl
 ·subst h; exact op6 w n t L a cap hl hts
 ·subst h; exact op8 w n t L a cap hl
 ·subst h; exact op7 w n t L a cap hl
 ·have hb : nodeB o n t L = false := by
   unfold nodeB
   rw [e, decide_eq_false (by omega), Bool.false_and, Bool.false_and]
  rw [hb]
  exact other w o n t L a cap h1 h2 h3 h4 h5 h6 h7 h8
end Go.Proofs.YtjcaiecapapceaaGreat.NodeV
namespace Go.Proofs.YtjcaiecapapceaaGreat.PartV
open Go.RowKit P1
theorem ret_bool {a b : Bool} (h : a = b) : Ending.returned (.bool a) = .returned (.bool b) := by rw [h]
def fitB (e L : Nat) (o n : Int) (t : ByteArray) (k : F) : Bool := okD e o n t k && decide (1 + k.cnt ≤ L)
def PvOut (w : World) (x e L : Nat) (o n : Int) (t : ByteArray) (k : F) (en : Ending) (w' : World) : Prop :=
 en = .returned (.bool (fitB e L o n t k)) ∧ (fitB e L o n t k = true → w'.cell? ⟨x, 0, none⟩ = some (.int .i64 ((L - (1 + k.cnt) : Nat) : Int))) ∧ w'.frozen? ⟨x, 0, none⟩ = false ∧ But w.heap.size x w w'
def PvS (f : F) : Prop := ∀ (w : World) (o n : Int) (t : ByteArray) (k : F) (p r : F) (a : Option Addr) (cap : Nat) (fs : List Nat) (d : Int) (e L x : Nat), f = p.app (.cons o n t k r) → SubAt w a k fs → (∀ c ∈ fs, c < w.heap.size ∧ c ≠ x) → k.len ≤ cap → f.Fits → d + e = 41 → e ≤ 40 → L ≤ 80 → x < w.heap.size →
 w.cell? ⟨x, 0, none⟩ = some (.int .i64 L) → w.frozen? ⟨x, 0, none⟩ = false →
 Calls Tryz.prog 63 #[.agg #[.int .i64 o, .int .i64 n, .string t, .slice a k.len cap], .int .i64 d, .pointer (some ⟨x, 0, none⟩)] w (PvOut w x e L o n t k)
theorem fit_none (e : Nat) (o n : Int) (t : ByteArray) (k : F) : fitB e 0 o n t k = false := by simp [fitB]
theorem fit_deep (L : Nat) (o n : Int) (t : ByteArray) (k : F) : fitB 0 L o n t k = false := by simp [fitB, okD_zero]
theorem fit_node {o n : Int} {t : ByteArray} {k : F} (h : nodeB o n t k.len = false) (e L : Nat) : fitB e L o n t k = false := by simp [fitB, okD_bad h]
theorem fit_good {o n : Int} {t : ByteArray} {k : F} (h : nodeB o n t k.len = true) (e L : Nat) : fitB (e + 1) L o n t k = (k.ok e && decide (1 + k.cnt ≤ L)) := by simp [fitB, okD_good h]
theorem pv_none (w : World) (o n : Int) (t : ByteArray) (k : F) (a : Option Addr) (cap : Nat) (d : Int) (x : Nat) (hx : x < w.heap.size) (hc : w.cell? ⟨x, 0, none⟩ = some (.int .i64 0)) (hz : w.frozen? ⟨x, 0, none⟩ = false) :
  Calls Tryz.prog 63 #[.agg #[.int .i64 o, .int .i64 n, .string t, .slice a k.len cap], .int .i64 d, .pointer (some ⟨x, 0, none⟩)] w fun en w' => en = .returned (.bool false) ∧ w'.frozen? ⟨x, 0, none⟩ = false ∧ But w.heap.size x w w' := by
 have hne : x ≠ w.heap.size := by omega
 have hcA : ∀ ob, (w.alloc ob).cell? ⟨x, 0, none⟩ = some (.int .i64 0) := fun ob => (World.cell?_alloc_lt w ob ⟨x, 0, none⟩ hx).trans hc
 have hzA : ∀ ob, (w.alloc ob).frozen? ⟨x, 0, none⟩ = false := fun ob => (World.frozen?_alloc_old w ob ⟨x, 0, none⟩ hne).trans hz
 go_enter Tryz.func63, Tryz.ntmps63
 go_wp2_with fail
 go_ret
 exact ⟨rfl, by rw [World.frozen?_alloc_old _ _ _ (by simp; omega), World.frozen?_setCell]; exact hz, by repeat (first | exact But.refl _ _ _ | refine But.setCell (p := ⟨x, 0, none⟩) ?_ (Or.inl rfl) _ | refine But.alloc ?_ (by simp) _)⟩
theorem pv_deep (w : World) (o n : Int) (t : ByteArray) (k : F) (a : Option Addr) (cap : Nat) (d : Int) (L x : Nat) (hx : x < w.heap.size) (hc : w.cell? ⟨x, 0, none⟩ = some (.int .i64 L)) (hz : w.frozen? ⟨x, 0, none⟩ = false) (hL : 1 ≤ L) (hL8 : L ≤ 80) (hd : d = 41) :
  Calls Tryz.prog 63 #[.agg #[.int .i64 o, .int .i64 n, .string t, .slice a k.len cap], .int .i64 d, .pointer (some ⟨x, 0, none⟩)] w fun en w' => en = .returned (.bool false) ∧ w'.frozen? ⟨x, 0, none⟩ = false ∧ But w.heap.size x w w' := by
 subst hd
 have hne : x ≠ w.heap.size := by omega
 have hcA : ∀ ob, (w.alloc ob).cell? ⟨x, 0, none⟩ = some (.int .i64 L) := fun ob => (World.cell?_alloc_lt w ob ⟨x, 0, none⟩ hx).trans hc
 have hzA : ∀ ob, (w.alloc ob).frozen? ⟨x, 0, none⟩ = false := fun ob => (World.frozen?_alloc_old w ob ⟨x, 0, none⟩ hne).trans hz
 have hL0 : ((L : Int) - 1 < 0) ↔ False := by simp; omega
 go_enter Tryz.func63, Tryz.ntmps63
 go_wp2_with fail
 go_ret
 exact ⟨rfl, by rw [World.frozen?_alloc_old _ _ _ (by simp; omega), World.frozen?_setCell]; exact hz, by repeat (first | exact But.refl _ _ _ | refine But.setCell (p := ⟨x, 0, none⟩) ?_ (Or.inl rfl) _ | refine But.alloc ?_ (by simp) _)⟩
theorem pv_node (w : World) (o n : Int) (t : ByteArray) (k : F) (a : Option Addr) (cap : Nat) (d : Int) (L x : Nat) (hx : x < w.heap.size) (hc : w.cell? ⟨x, 0, none⟩ = some (.int .i64 L)) (hz : w.frozen? ⟨x, 0, none⟩ = false) (hL : 1 ≤ L) (hL8 : L ≤ 80) (hd1 : 1 ≤ d) (hd : d ≤ 40) (hl : k.len ≤ maxLen) (hts : t.size ≤ maxLen) (hb : nodeB o n t k.len = false) :
  Calls Tryz.prog 63 #[.agg #[.int .i64 o, .int .i64 n, .string t, .slice a k.len cap], .int .i64 d, .pointer (some ⟨x, 0, none⟩)] w fun en w' => en = .returned (.bool false) ∧ w'.frozen? ⟨x, 0, none⟩ = false ∧ But w.heap.size x w w' := by
 have hne : x ≠ w.heap.size := by omega
 have hcA : ∀ ob, (w.alloc ob).cell? ⟨x, 0, none⟩ = some (.int .i64 L) := fun ob => (World.cell?_alloc_lt w ob ⟨x, 0, none⟩ hx).trans hc
 have hzA : ∀ ob, (w.alloc ob).frozen? ⟨x, 0, none⟩ = false := fun ob => (World.frozen?_alloc_old w ob ⟨x, 0, none⟩ hne).trans hz
 have hn := fun (w1 : World) => NodeV.nodeValid w1 o n t k.len a cap hl hts
 rw [hb] at hn
 have HN := Lib.hid hn
 clear hn hb
 go_enter Tryz.func63, Tryz.ntmps63
 go_wp2_with fail
 refine (HN.out _).mono ?_
 rintro e1 w1 ⟨rfl, hb1⟩
 have HB := Lib.hid hb1
 clear hb1
 go_wp2_with fail
 go_ret
 have hb1 := HB.out
 refine ⟨rfl, ?_, ?_⟩
 ·rw [hb1.frozen (p := ⟨x, 0, none⟩) (by simp; omega), World.frozen?_alloc_old _ _ _ (by simp; omega), World.frozen?_setCell]; exact hz
 ·refine But.trans ?_ (But.of_below (hb1.mono (by simp)))
  repeat (first | exact But.refl _ _ _ | refine But.setCell (p := ⟨x, 0, none⟩) ?_ (Or.inl rfl) _ | refine But.alloc ?_ (by simp) _)
def PvMid (w : World) (k : F) (e L x j : Nat) (z : Int) (wr : World) : Prop := ∃ p g : F, k = p.app g ∧ p.len = j ∧ p.ok e = true ∧ 1 + p.cnt ≤ L ∧ z = ((L - (1 + p.cnt) : Nat) : Int) ∧ wr.frozen? ⟨x, 0, none⟩ = false ∧ But w.heap.size x w wr
theorem pv_good (w : World) (o n : Int) (t : ByteArray) (k : F) (ih : PvS k) (a : Option Addr) (cap : Nat) (fs : List Nat) (d : Int) (e L x : Nat) (hs : SubAt w a k fs) (hfs : ∀ c ∈ fs, c < w.heap.size ∧ c ≠ x) (hcap : k.len ≤ cap) (hx : x < w.heap.size) (hc : w.cell? ⟨x, 0, none⟩ = some (.int .i64 L)) (hz : w.frozen? ⟨x, 0, none⟩ = false) (hL : 1 ≤ L) (hL8 : L ≤ 80) (hde : d + ((e + 1 : Nat) : Int) = 41) (he : e < 40) (hl : k.len ≤ maxLen) (hft : k.Fits) (hts : t.size ≤ maxLen) (hb : nodeB o n t k.len = true) :
  Calls Tryz.prog 63 #[.agg #[.int .i64 o, .int .i64 n, .string t, .slice a k.len cap], .int .i64 d, .pointer (some ⟨x, 0, none⟩)] w (PvOut w x (e + 1) L o n t k) := by
 have hne : x ≠ w.heap.size := by omega
 have hcA : ∀ ob, (w.alloc ob).cell? ⟨x, 0, none⟩ = some (.int .i64 L) := fun ob => (World.cell?_alloc_lt w ob ⟨x, 0, none⟩ hx).trans hc
 have hzA : ∀ ob, (w.alloc ob).frozen? ⟨x, 0, none⟩ = false := fun ob => (World.frozen?_alloc_old w ob ⟨x, 0, none⟩ hne).trans hz
 have hd1 : 1 ≤ d := by omega
 have hd40 : d ≤ 40 := by omega
 have hn := fun (w1 : World) => NodeV.nodeValid w1 o n t k.len a cap hl hts
 rw [hb] at hn
 have HN := Lib.hid hn
 have HFG := Lib.hid (fit_good hb e L)
 clear hn hb
 obtain ⟨M, hM⟩ : ∃ M, k.len = M := ⟨_, rfl⟩
 rw [hM] at hcap hl ⊢
 have HM := Lib.hid hM
 rw [hM] at HN
 clear hM
 have hsub : 0 < M → ∃ b off f', a = some ⟨b, off, none⟩ ∧ RowAt w k b off f' ∧ (b < w.heap.size ∧ b ≠ x) ∧ ∀ c ∈ f', c < w.heap.size ∧ c ≠ x := by
  intro h0
  rcases hs with ⟨rfl, rfl⟩ | ⟨b, off, f', rfl, hnil, rfl, hrow⟩
  ·have := HM.out; simp only [F.len] at this; omega
  ·exact ⟨b, off, f', rfl, hrow, hfs b (by simp), fun c hc => hfs c (by simp [hc])⟩
 have HSUB := Lib.hid hsub
 have IH := Lib.hid ih
 have HFT := Lib.hid hft
 have HDE := Lib.hid hde
 clear hsub hs hfs ih hft hde
 unfold maxLen at hl
 have hq1 : decide ((L : Int) - 1 < 0) = false := by simp; omega
 have hq2 : decide (40 < d) = false := by simpa using hd40
 go_enter Tryz.func63, Tryz.ntmps63
 go_wp2_with fail
 refine (HN.out _).mono ?_
 rintro e1 w1 ⟨rfl, hb1⟩
 have hw1c : w1.cell? ⟨x, 0, none⟩ = some (.int .i64 ((L : Int) - 1)) := by
  rw [hb1.cell (p := ⟨x, 0, none⟩) (by simp; omega), World.cell?_alloc_lt _ _ _ (by simp; omega)]
  exact World.cell?_setCell_same w ⟨x, 0, none⟩ _ hc
 have hw1z : w1.frozen? ⟨x, 0, none⟩ = false := by
  rw [hb1.frozen (p := ⟨x, 0, none⟩) (by simp; omega), World.frozen?_alloc_old _ _ _ (by simp; omega), World.frozen?_setCell]; exact hz
 have hw1b : But w.heap.size x w w1 := by
  refine But.trans ?_ (But.of_below (hb1.mono (by simp)))
  repeat (first | exact But.refl _ _ _ | refine But.setCell (p := ⟨x, 0, none⟩) ?_ (Or.inl rfl) _ | refine But.alloc ?_ (by simp) _)
 have hs1 : (w.setCell ⟨x, 0, none⟩ (.int .i64 ((L : Int) - 1))).heap.size = w.heap.size := by simp
 have hbx : w1.cell? ⟨w.heap.size, 3, none⟩ = some (.slice a M cap) := by
  rw [hb1.cell (p := ⟨w.heap.size, 3, none⟩) (by simp), ← hs1, World.cell?_alloc_new]; rfl
 have HW := Lib.hid (And.intro hw1z hw1b)
 clear hb1 hw1z hw1b hcA hzA hs1
 go_wp2_with fail
 go_loopw [30] (fun i wr => ∃ (j : Nat) (z : Int), j ≤ M ∧ i = .int .i64 j ∧ wr.cell? ⟨x, 0, none⟩ = some (.int .i64 z) ∧ PvMid w k e L x j z wr) (fun i _ => M - (intOf i).toNat)
 case atStart => exact ⟨0, (L : Int) - 1, by omega, rfl, hw1c, .nil, k, rfl, rfl, rfl, by simp only [F.cnt]; omega, by simp only [F.cnt]; omega, HW.out.1, HW.out.2⟩
 case round =>
  obtain ⟨j, z, hj, rfl, hzc, p, g, h3, h5, h6, h8, h9, hzf, hbw⟩ := hrel
  have h7 : g.len = M - j := by have := HM.out; rw [h3, F.len_app, h5] at this; omega
  clear hw1c hbx hc hz
  cases g with
  | nil =>
    have hjM : M ≤ j := by simp only [F.len] at h7; omega
    have hfit : fitB (e + 1) L o n t k = true := by
     rw [HFG.out, h3, F.app_nil, h6, Bool.true_and]; simpa using h8
    have hk : k = p := by rw [h3, F.app_nil]
    rw [← hk] at h9
    have H := Lib.hid (And.intro hfit (And.intro h9 (And.intro hzf hbw)))
    have HZ := Lib.hid hzc
    clear h3 h5 h6 h7 h8 h9 hzf hbw hzc hfit hk
    go_wp2_with fail
    go_ret
    obtain ⟨hfit, h9, hzf, hbw⟩ := H.out
    exact ⟨ret_bool hfit.symm, fun _ => by rw [← h9]; exact HZ.out, hzf, hbw⟩
  | cons o1 n1 t1 k1 r1 =>
    have hjM : j < M := by simp only [F.len] at h7; omega
    obtain ⟨b, off, f', rfl, hrow, hbB, hfB⟩ := HSUB.out (by omega)
    rw [h3] at hrow
    obtain ⟨a1, cap1, f1, c0, c1, c2, c3, hc1', hsub1, hin⟩ := row_at hrow
    rw [h5] at c0 c1 c2 c3
    rw [← hbw.cell hbB.1 hbB.2] at c0 c1 c2 c3
    have hxr : x < wr.heap.size := Nat.lt_of_lt_of_le hx hbw.size
    have hd := fun (ob : Obj) => IH.out (wr.alloc ob) o1 n1 t1 k1 p r1 a1 cap1 f1 (d + 1) e (L - (1 + p.cnt)) x h3
     ((hbw.sub hsub1 (fun c hc => hfB c (hin c hc))).below (B := wr.heap.size) (fun c hc => Nat.lt_of_lt_of_le (hfB c (hin c hc)).1 hbw.size) ((Below.refl _ _).alloc (Nat.le_refl _) _))
     (fun c hc => ⟨by have := Nat.lt_of_lt_of_le (hfB c (hin c hc)).1 hbw.size; simp; omega, (hfB c (hin c hc)).2⟩) hc1' HFT.out (by have := HDE.out; omega) (by omega) (by omega) (by simp; omega)
     (by rw [World.cell?_alloc_lt _ _ _ hxr, ← h9]; exact hzc) (by rw [World.frozen?_alloc_old _ _ _ (by simp; omega)]; exact hzf)
    have HD := Lib.hid hd
    have H := Lib.hid (And.intro h3 (And.intro h5 (And.intro h6 (And.intro h8 (And.intro hxr hbw)))))
    clear hd h3 h5 h6 h7 h8 h9 hzf hbw hzc hrow hxr
    cases hfit : fitB e (L - (1 + p.cnt)) o1 n1 t1 k1 with
    | true =>
      have HFI := Lib.hid hfit
      clear hfit
      go_wp2_with fail
      refine (HD.out _).mono ?_
      rintro e1 w2 ⟨rfl, hcell2, hzf2, hbut2⟩
      have HC2 := Lib.hid (And.intro (hcell2 HFI.out) (And.intro hzf2 hbut2))
      rw [HFI.out]
      clear hcell2 hzf2 hbut2 c0 c1 c2 c3
      go_wp2_with fail
      go_roundw
      case rel =>
       obtain ⟨h3, h5, h6, h8, hxr, hbw⟩ := H.out
       obtain ⟨hcell2, hzf2, hbut2⟩ := HC2.out
       have hf := HFI.out
       simp only [fitB, Bool.and_eq_true, decide_eq_true_eq] at hf
       refine ⟨j + 1, _, by omega, by go_num, hcell2, p.app (.cons o1 n1 t1 k1 .nil), r1, by rw [h3, F.app_assoc]; rfl, by rw [F.len_app, h5]; rfl, by rw [F.ok_app, h6, ok_cons, hf.1]; rfl, ?_, ?_, hzf2, ?_⟩
       ·rw [F.cnt_app]; simp only [F.cnt]; omega
       ·rw [F.cnt_app]; simp only [F.cnt]; omega
       ·exact (hbw.alloc hbw.size _).trans (hbut2.mono (by have := hbw.size; simp; omega))
      case measure => simp [intOf]; omega
    | false =>
      have HFI := Lib.hid hfit
      clear hfit
      go_wp2_with fail
      refine (HD.out _).mono ?_
      rintro e1 w2 ⟨rfl, hcell2, hzf2, hbut2⟩
      have HC2 := Lib.hid (And.intro hzf2 hbut2)
      rw [HFI.out]
      clear hcell2 hzf2 hbut2 c0 c1 c2 c3
      go_wp2_with fail
      go_ret
      obtain ⟨h3, h5, h6, h8, hxr, hbw⟩ := H.out
      obtain ⟨hzf2, hbut2⟩ := HC2.out
      have hbad : fitB (e + 1) L o n t k = false := by
       rw [HFG.out, h3, F.ok_app, F.cnt_app, ok_cons]
       have hf := HFI.out
       simp only [fitB, Bool.and_eq_false_iff, decide_eq_false_iff_not] at hf
       rcases hf with hf | hf
       ·rw [hf]; simp
       ·rw [decide_eq_false (by simp only [F.cnt]; omega)]; simp
      exact ⟨ret_bool hbad.symm, fun h => by rw [hbad] at h; simp at h, hzf2, (hbw.alloc hbw.size _).trans (hbut2.mono (by have := hbw.size; simp; omega))⟩
theorem pvS (m : Nat) : ∀ f : F, f.deep ≤ m → PvS f := by
 induction m with
 | zero =>
   intro f hf w o n t k p r a cap fs d e L x he
   rw [he, F.deep_app] at hf; simp only [F.deep] at hf; omega
 | succ m ih =>
   intro f hf w o n t k p r a cap fs d e L x he hs hfs hcap hft hde he4 hL hx hc hz
   have hk : k.deep ≤ m := by rw [he, F.deep_app] at hf; simp only [F.deep] at hf; omega
   rw [he] at hft
   obtain ⟨h1, h2, h3, _⟩ := (F.Fits.app_iff.1 hft).2
   cases L with
   | zero => exact (pv_none w o n t k a cap d x hx hc hz).mono fun _ _ ⟨q1, q2, q3⟩ => ⟨by rw [fit_none]; exact q1, fun h => by rw [fit_none] at h; simp at h, q2, q3⟩
   | succ L =>
     cases e with
     | zero => exact (pv_deep w o n t k a cap d (L + 1) x hx hc hz (by omega) hL (by omega)).mono fun _ _ ⟨q1, q2, q3⟩ => ⟨by rw [fit_deep]; exact q1, fun h => by rw [fit_deep] at h; simp at h, q2, q3⟩
     | succ e =>
       cases hn : nodeB o n t k.len with
       | false => exact (pv_node w o n t k a cap d (L + 1) x hx hc hz (by omega) hL (by omega) (by omega) h2 h1 hn).mono fun _ _ ⟨q1, q2, q3⟩ => ⟨by rw [fit_node hn]; exact q1, fun h => by rw [fit_node hn] at h; simp at h, q2, q3⟩
       | true => exact pv_good w o n t k (ih k hk) a cap fs d e (L + 1) x hs hfs hcap hx hc hz (by omega) hL hde (by omega) h2 h3 h1 hn
theorem docValid (w : World) (o n : Int) (t : ByteArray) (k : F) (a : Option Addr) (cap : Nat) (fs : List Nat) (hs : SubAt w a k fs) (hfs : ∀ c ∈ fs, c < w.heap.size) (hcap : k.len ≤ cap) (hl : k.len ≤ maxLen) (hft : k.Fits) (ht : t.size ≤ maxLen) :
  Calls Tryz.prog 24 #[.agg #[.int .i64 o, .int .i64 n, .string t, .slice a k.len cap]] w fun e w' => e = .returned (.bool (validD o n t k)) ∧ Below w.heap.size w w' := by
 have B2 : ∀ (o1 o2 : Obj), Below w.heap.size w ((w.alloc o1).alloc o2) := fun o1 o2 => ((Below.refl _ _).alloc (Nat.le_refl _) _).alloc (by simp) _
 have hd := fun (o1 : Obj) => pvS _ (.cons o n t k .nil) (Nat.le_refl _) ((w.alloc o1).alloc (.cells #[.int .i64 80] 3)) o n t k .nil .nil a cap fs 1 40 80 (w.heap.size + 1) rfl (hs.below hfs (B2 _ _)) (fun c hc => by have := hfs c hc; simp; omega) hcap ⟨ht, hl, hft, trivial⟩ (by omega) (by omega) (by omega) (by simp)
  (by have e : (w.alloc o1).heap.size = w.heap.size + 1 := by simp
      rw [← e, World.cell?_alloc_new]; rfl)
  (by have e : (w.alloc o1).heap.size = w.heap.size + 1 := by simp
      rw [← e, World.frozen?_alloc_new])
 have hv : fitB 40 80 o n t k = validD o n t k := rfl
 have HD := Lib.hid hd
 have HV := Lib.hid hv
 clear hd hv hs hfs
 go_enter Tryz.func24, Tryz.ntmps24
 go_wp2_with fail
 refine (HD.out _).mono ?_
 rintro e1 w1 ⟨rfl, _, _, hbut⟩
 have HB := Lib.hid hbut
 clear hbut
 go_wp2_with fail
 go_ret
 exact ⟨ret_bool HV.out, (B2 _ _).trans (HB.out.below (by simp; omega) (by omega))⟩
end Go.Proofs.YtjcaiecapapceaaGreat.PartV
