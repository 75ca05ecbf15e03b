import Derived.Test.YtpiaiandjnpdfaaChS
/-
  What the model's l3Pick and ChoiceOf come to: the layout of a choice.
-/
set_option linter.unusedVariables false
set_option linter.unusedSimpArgs false
namespace Go.Proofs.Ytpiaiandjnpdfaa.ChK
open Go.RowKit P1 LayL LayV LayM LayN LayC Cnt CntC Flat Wid ChP ChS OpenR

set_option maxRecDepth 100000 in
set_option maxHeartbeats 3200000 in
theorem pick_leaf (o n : Int) (t : ByteArray) (w : World) (a : Option Addr) (L cap : Nat) (X : List (Int × ByteArray)) (i : Int) (h6 : o ≠ 6) (h7 : o ≠ 7) (h8 : o ≠ 8) (b6 : (o == 6) = false) (b7 : (o == 7) = false) (b8 : (o == 8) = false)
    (hO : ∀ W, Below w.heap.size w W → Calls Try.prog 88 #[.agg #[.int .i64 o, .int .i64 n, .string t, .slice a L cap]] W (RowsNew W X)) :
    Calls Try.prog 52 #[.agg #[.int .i64 o, .int .i64 n, .string t, .slice a L cap], .int .i64 i] w (RowsNew w X) := by
  have B1 := Lib.hid (show ∀ ob, Below w.heap.size w (w.alloc ob) from fun ob => (Below.refl _ _).alloc (Nat.le_refl _) _)
  have HO := Lib.hid hO
  clear hO
  go_enter Try.func52, Try.ntmps52
  go_wp2_with fail
  refine (HO.out _ (B1.out _)).mono ?_
  rintro e1 w2 ⟨a2, c2, f2, rfl, hc2, hs2, hf2, hb2⟩
  have H2 := Lib.hid (lift_rows (B1.out _) rfl hc2 hs2 hf2 hb2)
  clear hc2 hs2 hf2 hb2
  go_wp2_with fail
  go_ret
  exact H2.out

set_option maxRecDepth 100000 in
set_option maxHeartbeats 3200000 in
theorem pick_nest (n : Int) (hn0 : 0 ≤ n) (hn9 : n ≤ 9) (t : ByteArray) (w : World) (b off cap : Nat) (o1 n1 : Int) (t1 : ByteArray) (l1 c1 : Nat) (a1 : Option Addr) (X : List (Int × ByteArray)) (hX : lv X = true) (i : Int) (hb : b < w.heap.size) (hcap : 1 ≤ cap)
    (h0 : w.cell? ⟨b, off, none⟩ = some (.int .i64 o1)) (h1 : w.cell? ⟨b, off + 1, none⟩ = some (.int .i64 n1)) (h2 : w.cell? ⟨b, off + 2, none⟩ = some (.string t1)) (h3 : w.cell? ⟨b, off + 3, none⟩ = some (.slice a1 l1 c1))
    (hK : ∀ W, Below w.heap.size w W → Calls Try.prog 52 #[.agg #[.int .i64 o1, .int .i64 n1, .string t1, .slice a1 l1 c1], .int .i64 i] W (RowsNew W X)) :
    Calls Try.prog 52 #[.agg #[.int .i64 6, .int .i64 n, .string t, .slice (some ⟨b, off, none⟩) 1 cap], .int .i64 i] w (RowsNew w (nestL n X)) := by
  have B1 := Lib.hid (show ∀ ob, Below w.heap.size w (w.alloc ob) from fun ob => (Below.refl _ _).alloc (Nat.le_refl _) _)
  have HK := Lib.hid hK
  have HN := Lib.hid (fun (W : World) (a : Option Addr) (c : Nat) (fs : List Nat) (hs : LaySub W a X fs) (hc : X.length ≤ c) => l2Nest n hn0 (by omega) X hX W a c fs hs hc)
  clear hK hX
  go_enter Try.func52, Try.ntmps52
  go_wp2_with fail
  obtain ⟨W, hW, hbW, lW, lb, x1, x3, x4, x5, x6, x7⟩ := boxed_one (T := 25) 6 n t b off 1 cap hb h0 h1 h2 h3
  rw [hW]
  have HW := Lib.hid hbW
  clear hW hbW h0 h1 h2 h3
  go_region_held3 (fun w' => w'.cell? ⟨w.heap.size, 1, none⟩ = some (.int .i64 n) ∧ w'.cell? ⟨w.heap.size, 3, none⟩ = some (.slice (some ⟨b, off, none⟩) 1 cap) ∧ w'.cell? ⟨b, off, none⟩ = some (.int .i64 o1) ∧ w'.cell? ⟨b, off + 1, none⟩ = some (.int .i64 n1) ∧ w'.cell? ⟨b, off + 2, none⟩ = some (.string t1) ∧ w'.cell? ⟨b, off + 3, none⟩ = some (.slice a1 l1 c1))
    (first | go_keep | (refine ⟨?_, ?_, ?_, ?_, ?_, ?_⟩ <;> (first | assumption | (rw [hb2.cell (p := ⟨_, _, _⟩) (by first | (simp; done) | (simp; omega) | omega)]; assumption) | (rw [hb3.cell (p := ⟨_, _, _⟩) (by have := hb2.size; first | (simp at this ⊢; done) | (simp at this ⊢; omega) | omega), hb2.cell (p := ⟨_, _, _⟩) (by first | (simp; done) | (simp; omega) | omega)]; assumption))))
    (first
      | (go_at_call 52; refine (HK.out _ (by first | exact HW.out | exact HW.out.drew)).mono ?_; rintro e1 w2 ⟨a2, c2, f2, rfl, hc2, hs2, hf2, hb2⟩)
      | (go_at_call 84; refine (HN.out _ a2 c2 f2 hs2 hc2).mono ?_; rintro e2 w3 ⟨a3, c3, f3, rfl, hc3, hs3, hf3, hb3⟩))
  all_goals
    go_wp2_with fail
    go_ret
    have q2 : Below w.heap.size w w2 := HW.out.trans (((Below.refl _ W).drew.trans hb2).mono HW.out.size)
    exact lift_rows q2 rfl hc3 hs3 hf3 hb3

set_option maxRecDepth 100000 in
set_option maxHeartbeats 3200000 in
theorem pick_cat (n : Int) (t : ByteArray) (w : World) (b off cap : Nat) (o1 n1 : Int) (t1 : ByteArray) (l1 c1 : Nat) (a1 : Option Addr) (o2 n2 : Int) (t2 : ByteArray) (l2 c2 : Nat) (a2 : Option Addr) (X Y : List (Int × ByteArray)) (hX : lv X = true) (hY : lv Y = true) (i c q r : Int) (hi0 : 0 ≤ i) (hi1 : i ≤ 200000) (hc1 : 1 ≤ c) (hc2 : c ≤ 200000) (hq : i / c = q) (hr : i % c = r) (hb : b < w.heap.size) (hcap : 2 ≤ cap)
    (h8 : Eight w b off o1 n1 t1 a1 l1 c1 o2 n2 t2 a2 l2 c2)
    (hC : ∀ W, Below w.heap.size w W → Calls Try.prog 83 #[.agg #[.int .i64 o2, .int .i64 n2, .string t2, .slice a2 l2 c2]] W (NumR W c))
    (hK : ∀ W, Below w.heap.size w W → Calls Try.prog 52 #[.agg #[.int .i64 o1, .int .i64 n1, .string t1, .slice a1 l1 c1], .int .i64 q] W (RowsNew W X))
    (hK2 : ∀ W, Below w.heap.size w W → Calls Try.prog 52 #[.agg #[.int .i64 o2, .int .i64 n2, .string t2, .slice a2 l2 c2], .int .i64 r] W (RowsNew W Y)) :
    Calls Try.prog 52 #[.agg #[.int .i64 7, .int .i64 n, .string t, .slice (some ⟨b, off, none⟩) 2 cap], .int .i64 i] w (RowsNew w (catL X Y)) := by
  have B1 := Lib.hid (show ∀ ob, Below w.heap.size w (w.alloc ob) from fun ob => (Below.refl _ _).alloc (Nat.le_refl _) _)
  have HC := Lib.hid hC
  have HK := Lib.hid hK
  have HK2 := Lib.hid hK2
  have HN := Lib.hid (fun (W : World) (a : Option Addr) (c : Nat) (fs : List Nat) (hs : LaySub W a X fs) (hc : X.length ≤ c) (a' : Option Addr) (c' : Nat) (fs' : List Nat) (hs' : LaySub W a' Y fs') (hc' : Y.length ≤ c') => l2Cat X Y hX hY W a c fs hs hc a' c' fs' hs' hc')
  have qt : IntKind.i64.wrap (i.tdiv c) = q := by
    rw [← hq, Int.tdiv_eq_ediv_of_nonneg hi0]
    exact IntWalk.i64_in _ ⟨by have := Int.ediv_nonneg hi0 (show 0 ≤ c by omega); omega, by have := Int.ediv_le_self c hi0; omega⟩
  have rt : i.tmod c = r := by rw [← hr, Int.tmod_eq_emod_of_nonneg hi0]
  have HQ := Lib.hid (And.intro qt (And.intro rt (And.intro hq hr)))
  obtain ⟨⟨x0, x1, x2, x3⟩, y0, y1, y2, y3⟩ := h8
  clear hC hK hK2 hX hY qt rt hq hr
  go_enter Try.func52, Try.ntmps52
  go_wp2_with fail
  obtain ⟨W, hW, hbW, lW, lb, xx, xs, x4, x5, x6, x7⟩ := boxed_one (T := 25) 7 n t b off 2 cap hb x0 x1 x2 x3
  rw [hW]
  have z0 : W.cell? ⟨b, off + 4, none⟩ = _ := (hbW.cell (p := ⟨_, _, _⟩) hb).trans y0
  have z1 : W.cell? ⟨b, off + 4 + 1, none⟩ = _ := (hbW.cell (p := ⟨_, _, _⟩) hb).trans y1
  have z2 : W.cell? ⟨b, off + 4 + 2, none⟩ = _ := (hbW.cell (p := ⟨_, _, _⟩) hb).trans y2
  have z3 : W.cell? ⟨b, off + 4 + 3, none⟩ = _ := (hbW.cell (p := ⟨_, _, _⟩) hb).trans y3
  have HW0 := Lib.hid hbW
  clear hW hbW x0 x1 x2 x3 y0 y1 y2 y3 xx
  go_wp2_with fail
  refine (HC.out _ HW0.out).mono ?_
  rintro e0 W1 ⟨rfl, hbc⟩
  have hbW := HW0.out.trans (hbc.mono HW0.out.size)
  have HW := Lib.hid hbW
  replace xs := (hbc.cell (p := ⟨w.heap.size, 3, none⟩) lW).trans xs
  replace x4 := (hbc.cell (p := ⟨_, _, _⟩) lb).trans x4
  replace x5 := (hbc.cell (p := ⟨_, _, _⟩) lb).trans x5
  replace x6 := (hbc.cell (p := ⟨_, _, _⟩) lb).trans x6
  replace x7 := (hbc.cell (p := ⟨_, _, _⟩) lb).trans x7
  replace z0 := (hbc.cell (p := ⟨_, _, _⟩) lb).trans z0
  replace z1 := (hbc.cell (p := ⟨_, _, _⟩) lb).trans z1
  replace z2 := (hbc.cell (p := ⟨_, _, _⟩) lb).trans z2
  replace z3 := (hbc.cell (p := ⟨_, _, _⟩) lb).trans z3
  replace lW := Nat.lt_of_lt_of_le lW hbc.size
  replace lb := Nat.lt_of_lt_of_le lb hbc.size
  clear hbW hbc HW0
  go_wp2_with fail
  obtain ⟨qt, rt, qe, re⟩ := HQ.out
  have hc0 : ¬ (c = 0) := by omega
  have hc0b : (c == 0) = false := beq_eq_false_iff_ne.2 hc0
  go_region_held3 (fun w' => w'.cell? ⟨w.heap.size, 3, none⟩ = some (.slice (some ⟨b, off, none⟩) 2 cap) ∧ w'.cell? ⟨b, off, none⟩ = some (.int .i64 o1) ∧ w'.cell? ⟨b, off + 1, none⟩ = some (.int .i64 n1) ∧ w'.cell? ⟨b, off + 2, none⟩ = some (.string t1) ∧ w'.cell? ⟨b, off + 3, none⟩ = some (.slice a1 l1 c1) ∧ w'.cell? ⟨b, off + 4, none⟩ = some (.int .i64 o2) ∧ w'.cell? ⟨b, off + 4 + 1, none⟩ = some (.int .i64 n2) ∧ w'.cell? ⟨b, off + 4 + 2, none⟩ = some (.string t2) ∧ w'.cell? ⟨b, off + 4 + 3, none⟩ = some (.slice a2 l2 c2))
    (first | go_keep | (refine ⟨?_, ?_, ?_, ?_, ?_, ?_, ?_, ?_, ?_⟩ <;> (first | assumption | (rw [hbX.cell (p := ⟨_, _, _⟩) (by first | (simp; done) | (simp; omega) | omega)]; assumption) | (rw [hbY.cell (p := ⟨_, _, _⟩) (by have := hbX.size; first | (simp at this ⊢; done) | (simp at this ⊢; omega) | omega), hbX.cell (p := ⟨_, _, _⟩) (by first | (simp; done) | (simp; omega) | omega)]; assumption) | (rw [hb3.cell (p := ⟨_, _, _⟩) (by have := hbX.size; have := hbY.size; first | (simp at *; omega) | omega), hbY.cell (p := ⟨_, _, _⟩) (by have := hbX.size; first | (simp at this ⊢; done) | (simp at this ⊢; omega) | omega), hbX.cell (p := ⟨_, _, _⟩) (by first | (simp; done) | (simp; omega) | omega)]; assumption))))
    (first
      | (go_at_call_of 52 (Value.agg #[.int .i64 o1, .int .i64 n1, .string t1, .slice a1 l1 c1]); refine (HK.out _ (by first | exact HW.out | exact HW.out.drew)).mono ?_; rintro e1 wX ⟨aX, cX, fX, rfl, hcX, hsX, hfX, hbX⟩)
      | (go_at_call_of 52 (Value.agg #[.int .i64 o2, .int .i64 n2, .string t2, .slice a2 l2 c2]); refine (HK2.out _ (HW.out.trans (((Below.refl _ W1).drew.trans hbX).mono HW.out.size))).mono ?_; rintro e1 wY ⟨aY, cY, fY, rfl, hcY, hsY, hfY, hbY⟩)
      | (go_at_call 85; refine (HN.out _ aX cX fX (hsX.below hsX.lt hbY) hcX aY cY fY hsY hcY).mono ?_; rintro e2 w3 ⟨a3, c3, f3, rfl, hc3, hs3, hf3, hb3⟩))
  all_goals
    clear qt rt qe re
    go_wp2_with fail
    go_ret
    have q2 : Below w.heap.size w wX := HW.out.trans (((Below.refl _ W1).drew.trans hbX).mono HW.out.size)
    have q3 : Below w.heap.size w wY := q2.trans (hbY.mono q2.size)
    exact lift_rows q3 rfl hc3 hs3 hf3 hb3

set_option maxRecDepth 100000 in
set_option maxHeartbeats 3200000 in
theorem pick_hard (n : Int) (t : ByteArray) (w : World) (b off cap : Nat) (o1 n1 : Int) (t1 : ByteArray) (l1 c1 : Nat) (a1 : Option Addr) (X : List (Int × ByteArray)) (i N : Int) (hN : 0 < N) (hN2 : N ≤ 100000) (hb : b < w.heap.size) (hcap : 1 ≤ cap)
    (h0 : w.cell? ⟨b, off, none⟩ = some (.int .i64 o1)) (h1 : w.cell? ⟨b, off + 1, none⟩ = some (.int .i64 n1)) (h2 : w.cell? ⟨b, off + 2, none⟩ = some (.string t1)) (h3 : w.cell? ⟨b, off + 3, none⟩ = some (.slice a1 l1 c1))
    (hO : ∀ W, Below w.heap.size w W → Calls Try.prog 86 #[.agg #[.int .i64 8, .int .i64 n, .string t, .slice (some ⟨b, off, none⟩) 1 cap], .int .i64 5] W (NumR W N))
    (hK : ∀ W, Below w.heap.size w W → Calls Try.prog 52 #[.agg #[.int .i64 o1, .int .i64 n1, .string t1, .slice a1 l1 c1], .int .i64 i] W (RowsNew W X)) :
    Calls Try.prog 52 #[.agg #[.int .i64 8, .int .i64 n, .string t, .slice (some ⟨b, off, none⟩) 1 cap], .int .i64 i] w (RowsNew w X) := by
  have B1 := Lib.hid (show ∀ ob, Below w.heap.size w (w.alloc ob) from fun ob => (Below.refl _ _).alloc (Nat.le_refl _) _)
  have HO := Lib.hid hO
  have HK := Lib.hid hK
  clear hO hK
  go_enter Try.func52, Try.ntmps52
  go_wp2_with fail
  obtain ⟨W, hW, hbW, lW, lb, x1, xs, x4, x5, x6, x7⟩ := boxed_one (T := 25) 8 n t b off 1 cap hb h0 h1 h2 h3
  have x0 : W.cell? ⟨w.heap.size, 0, none⟩ = some (.int .i64 8) := by rw [← hW, World.cell?_alloc_new]; rfl
  have x2 : W.cell? ⟨w.heap.size, 2, none⟩ = some (.string t) := by rw [← hW, World.cell?_alloc_new]; rfl
  rw [hW]
  have HW := Lib.hid hbW
  clear hW hbW h0 h1 h2 h3
  go_wp2_with fail
  refine (HO.out _ HW.out).mono ?_
  rintro e0 W1 ⟨rfl, hbc⟩
  have hbW := HW.out.trans (hbc.mono HW.out.size)
  have H1 := Lib.hid hbW
  have y0 := (hbc.cell (p := ⟨w.heap.size, 0, none⟩) lW).trans x0
  have y1 := (hbc.cell (p := ⟨w.heap.size, 1, none⟩) lW).trans x1
  have y2 := (hbc.cell (p := ⟨w.heap.size, 2, none⟩) lW).trans x2
  have y3 := (hbc.cell (p := ⟨w.heap.size, 3, none⟩) lW).trans xs
  have z0 := (hbc.cell (p := ⟨_, _, _⟩) lb).trans x4
  have z1 := (hbc.cell (p := ⟨_, _, _⟩) lb).trans x5
  have z2 := (hbc.cell (p := ⟨_, _, _⟩) lb).trans x6
  have z3 := (hbc.cell (p := ⟨_, _, _⟩) lb).trans x7
  have l1' := Nat.lt_of_lt_of_le lW hbc.size
  have l2' := Nat.lt_of_lt_of_le lb hbc.size
  clear hbW hbc x0 x1 x2 xs x4 x5 x6 x7 lW lb
  go_wp2_with fail
  refine (HK.out _ H1.out).mono ?_
  rintro e1 w2 ⟨a2, c2, f2, rfl, hc2, hs2, hf2, hb2⟩
  have H2 := Lib.hid (lift_rows H1.out rfl hc2 hs2 hf2 hb2)
  clear hc2 hs2 hf2 hb2 y0 y1 y2 y3 z0 z1 z2 z3
  go_wp2_with fail
  go_ret
  exact H2.out

set_option maxRecDepth 100000 in
set_option maxHeartbeats 3200000 in
theorem pick_deep (n : Int) (t : ByteArray) (w : World) (b off cap : Nat) (o1 n1 : Int) (t1 : ByteArray) (l1 c1 : Nat) (a1 : Option Addr) (X : List (Int × ByteArray)) (i N : Int) (hN : ¬ (0 < N)) (hi1 : 1 ≤ i) (hi2 : i ≤ 200000) (hib : (i == 0) = false) (j : Int) (hj : i - 1 = j) (hb : b < w.heap.size) (hcap : 1 ≤ cap)
    (h0 : w.cell? ⟨b, off, none⟩ = some (.int .i64 o1)) (h1 : w.cell? ⟨b, off + 1, none⟩ = some (.int .i64 n1)) (h2 : w.cell? ⟨b, off + 2, none⟩ = some (.string t1)) (h3 : w.cell? ⟨b, off + 3, none⟩ = some (.slice a1 l1 c1))
    (hO : ∀ W, Below w.heap.size w W → Calls Try.prog 86 #[.agg #[.int .i64 8, .int .i64 n, .string t, .slice (some ⟨b, off, none⟩) 1 cap], .int .i64 5] W (NumR W N))
    (hK : ∀ W, Below w.heap.size w W → Calls Try.prog 52 #[.agg #[.int .i64 o1, .int .i64 n1, .string t1, .slice a1 l1 c1], .int .i64 j] W (RowsNew W X)) :
    Calls Try.prog 52 #[.agg #[.int .i64 8, .int .i64 n, .string t, .slice (some ⟨b, off, none⟩) 1 cap], .int .i64 i] w (RowsNew w X) := by
  have B1 := Lib.hid (show ∀ ob, Below w.heap.size w (w.alloc ob) from fun ob => (Below.refl _ _).alloc (Nat.le_refl _) _)
  subst hj
  have HO := Lib.hid hO
  have HK := Lib.hid hK
  clear hO hK
  go_enter Try.func52, Try.ntmps52
  go_wp2_with fail
  obtain ⟨W, hW, hbW, lW, lb, x1, xs, x4, x5, x6, x7⟩ := boxed_one (T := 25) 8 n t b off 1 cap hb h0 h1 h2 h3
  have x0 : W.cell? ⟨w.heap.size, 0, none⟩ = some (.int .i64 8) := by rw [← hW, World.cell?_alloc_new]; rfl
  have x2 : W.cell? ⟨w.heap.size, 2, none⟩ = some (.string t) := by rw [← hW, World.cell?_alloc_new]; rfl
  rw [hW]
  have HW := Lib.hid hbW
  clear hW hbW h0 h1 h2 h3
  go_wp2_with fail
  refine (HO.out _ HW.out).mono ?_
  rintro e0 W1 ⟨rfl, hbc⟩
  have hbW := HW.out.trans (hbc.mono HW.out.size)
  have H1 := Lib.hid hbW
  have y0 := (hbc.cell (p := ⟨w.heap.size, 0, none⟩) lW).trans x0
  have y1 := (hbc.cell (p := ⟨w.heap.size, 1, none⟩) lW).trans x1
  have y2 := (hbc.cell (p := ⟨w.heap.size, 2, none⟩) lW).trans x2
  have y3 := (hbc.cell (p := ⟨w.heap.size, 3, none⟩) lW).trans xs
  have z0 := (hbc.cell (p := ⟨_, _, _⟩) lb).trans x4
  have z1 := (hbc.cell (p := ⟨_, _, _⟩) lb).trans x5
  have z2 := (hbc.cell (p := ⟨_, _, _⟩) lb).trans x6
  have z3 := (hbc.cell (p := ⟨_, _, _⟩) lb).trans x7
  have l1' := Nat.lt_of_lt_of_le lW hbc.size
  have l2' := Nat.lt_of_lt_of_le lb hbc.size
  clear hbW hbc x0 x1 x2 xs x4 x5 x6 x7 lW lb
  go_wp2_with fail
  refine (HK.out _ H1.out).mono ?_
  rintro e1 w2 ⟨a2, c2, f2, rfl, hc2, hs2, hf2, hb2⟩
  have H2 := Lib.hid (lift_rows H1.out rfl hc2 hs2 hf2 hb2)
  clear hc2 hs2 hf2 hb2 y0 y1 y2 y3 z0 z1 z2 z3
  go_wp2_with fail
  go_ret
  exact H2.out

set_option maxRecDepth 100000 in
set_option maxHeartbeats 3200000 in
theorem pick_flat (n : Int) (t : ByteArray) (w : World) (b off cap : Nat) (o1 n1 : Int) (t1 : ByteArray) (l1 c1 : Nat) (a1 : Option Addr) (S : ByteArray) (N : Int) (hN : ¬ (0 < N)) (hb : b < w.heap.size) (hcap : 1 ≤ cap)
    (h0 : w.cell? ⟨b, off, none⟩ = some (.int .i64 o1)) (h1 : w.cell? ⟨b, off + 1, none⟩ = some (.int .i64 n1)) (h2 : w.cell? ⟨b, off + 2, none⟩ = some (.string t1)) (h3 : w.cell? ⟨b, off + 3, none⟩ = some (.slice a1 l1 c1))
    (hO : ∀ W, Below w.heap.size w W → Calls Try.prog 86 #[.agg #[.int .i64 8, .int .i64 n, .string t, .slice (some ⟨b, off, none⟩) 1 cap], .int .i64 5] W (NumR W N))
    (hF : ∀ W, Below w.heap.size w W → Calls Try.prog 87 #[.agg #[.int .i64 8, .int .i64 n, .string t, .slice (some ⟨b, off, none⟩) 1 cap]] W fun e w' => e = .returned (.string S) ∧ Below W.heap.size W w') :
    Calls Try.prog 52 #[.agg #[.int .i64 8, .int .i64 n, .string t, .slice (some ⟨b, off, none⟩) 1 cap], .int .i64 0] w (RowsNew w [(0, S)]) := by
  have B1 := Lib.hid (show ∀ ob, Below w.heap.size w (w.alloc ob) from fun ob => (Below.refl _ _).alloc (Nat.le_refl _) _)
  have HO := Lib.hid hO
  have HF := Lib.hid hF
  clear hO hF
  go_enter Try.func52, Try.ntmps52
  go_wp2_with fail
  obtain ⟨W, hW, hbW, lW, lb, x1, xs, x4, x5, x6, x7⟩ := boxed_one (T := 25) 8 n t b off 1 cap hb h0 h1 h2 h3
  have x0 : W.cell? ⟨w.heap.size, 0, none⟩ = some (.int .i64 8) := by rw [← hW, World.cell?_alloc_new]; rfl
  have x2 : W.cell? ⟨w.heap.size, 2, none⟩ = some (.string t) := by rw [← hW, World.cell?_alloc_new]; rfl
  rw [hW]
  have HW := Lib.hid hbW
  clear hW hbW h0 h1 h2 h3
  go_wp2_with fail
  refine (HO.out _ HW.out).mono ?_
  rintro e0 W1 ⟨rfl, hbc⟩
  have hbW := HW.out.trans (hbc.mono HW.out.size)
  have H1 := Lib.hid hbW
  have y0 := (hbc.cell (p := ⟨w.heap.size, 0, none⟩) lW).trans x0
  have y1 := (hbc.cell (p := ⟨w.heap.size, 1, none⟩) lW).trans x1
  have y2 := (hbc.cell (p := ⟨w.heap.size, 2, none⟩) lW).trans x2
  have y3 := (hbc.cell (p := ⟨w.heap.size, 3, none⟩) lW).trans xs
  have z0 := (hbc.cell (p := ⟨_, _, _⟩) lb).trans x4
  have z1 := (hbc.cell (p := ⟨_, _, _⟩) lb).trans x5
  have z2 := (hbc.cell (p := ⟨_, _, _⟩) lb).trans x6
  have z3 := (hbc.cell (p := ⟨_, _, _⟩) lb).trans x7
  have l1' := Nat.lt_of_lt_of_le lW hbc.size
  have l2' := Nat.lt_of_lt_of_le lb hbc.size
  clear hbW hbc x0 x1 x2 xs x4 x5 x6 x7 lW lb
  go_wp2_with fail
  refine (HF.out _ H1.out).mono ?_
  rintro e1 w2 ⟨rfl, hb2⟩
  have H2 := Lib.hid (H1.out.trans (hb2.mono H1.out.size))
  clear hb2 y0 y1 y2 y3 z0 z1 z2 z3
  go_wp2_with fail
  go_ret
  exact rows_made H2.out _ _ _ (text_row S) (by simp) rfl

/-- the contract of l3Pick, down to a depth -/
def pickS (d : Nat) : Prop := ∀ (o n : Int) (t : ByteArray) (k : F), okD d o n t k = true → 1 + k.cnt ≤ 80 → k.size ≤ 4000000 → ctD o k ≤ 100000 → ∀ (i : Nat), i < ctD o k → ∀ (w : World) (a : Option Addr) (cap : Nat) (fs : List Nat), SubAt w a k fs → (∀ c ∈ fs, c < w.heap.size) → k.len ≤ cap →
  Calls Try.prog 52 #[.agg #[.int .i64 o, .int .i64 n, .string t, .slice a k.len cap], .int .i64 (i : Int)] w (RowsNew w (pkD o n t k i))

theorem mn_small {x : Nat} (h : x ≤ 100000) : mn x = (x : Int) := by unfold mn; omega

theorem pickS_all : ∀ d : Nat, d ≤ 40 → pickS d := by
  intro d
  induction d with
  | zero => intro _ o n t k h; rw [okD_zero] at h; cases h
  | succ d ih =>
    intro hd o n t k h hcnt hsz hct i hi w a cap fs hs hfs hc
    have IH := ih (by omega)
    have hg := fun o n t k (h : okD d o n t k = true) (hc : 1 + k.cnt ≤ 80) (i : Nat) => (pick_good d o n t k h i).lv hc (by omega)
    have hop := fun (W : World) (hW : Below w.heap.size w W) => specS_all (d + 1) hd o n t k h hcnt W a cap fs (hs.below hfs hW) (fun c hc => Nat.lt_of_lt_of_le (hfs c hc) hW.size) hc
    obtain ⟨hn, hk⟩ := okD_parts h
    rcases node_kinds hn with ⟨rfl, ht, hl⟩ | ⟨ho, rfl, hl⟩ | ⟨rfl, rfl, h0, h9, hl⟩ | ⟨rfl, rfl, hl⟩ | ⟨rfl, rfl, hl⟩
    · rw [pkD_leaf (by omega) (by omega) (by omega)]
      exact pick_leaf 2 n t w a _ cap _ _ (by decide) (by decide) (by decide) rfl rfl rfl hop
    · obtain ⟨h6, h7, h8⟩ := leaf_ne ho
      rw [pkD_leaf h6 h7 h8]
      exact pick_leaf o n _ w a _ cap _ _ h6 h7 h8 (beq_eq_false_iff_ne.2 h6) (beq_eq_false_iff_ne.2 h7) (beq_eq_false_iff_ne.2 h8) hop
    · obtain ⟨o1, n1, t1, k1, rfl⟩ := one_kid hl
      rw [ok_cons, Bool.and_eq_true] at hk
      simp only [F.cnt] at hcnt
      simp only [F.size] at hsz
      rw [ctD_other (by omega), ctF_one] at hi hct
      rcases hs with ⟨e, _⟩ | ⟨b, off, f', rfl, _, rfl, hr⟩
      · cases e
      · obtain ⟨a1, c1, f1, f2, q0, q1, q2, q3, q4, q5, _, rfl⟩ := RowAt.cons_iff.1 hr
        rw [pkD_nest]
        exact pick_nest n h0 h9 _ w b off cap o1 n1 t1 k1.len c1 a1 _ (hg _ _ _ _ hk.1 (by omega) i) i (hfs b (by simp)) hc q0 q1 q2 q3 (fun W hW => IH _ _ _ _ hk.1 (by omega) (by omega) hct i hi W a1 c1 f1 (q5.below (fun c hc => hfs c (by simp [hc])) hW) (fun c hc => Nat.lt_of_lt_of_le (hfs c (by simp [hc])) hW.size) q4)
    · obtain ⟨o1, n1, t1, k1, o2, n2, t2, k2, rfl⟩ := two_kids hl
      rw [ok_cons, ok_cons, Bool.and_eq_true, Bool.and_eq_true] at hk
      simp only [F.cnt] at hcnt
      simp only [F.size] at hsz
      rw [ctD_other (by omega), ctF_cons, ctF_one] at hi hct
      have p1 := ctD_pos o1 k1
      have p2 := ctD_pos o2 k2
      have l1 : ctD o1 k1 ≤ 100000 := Nat.le_trans (Nat.le_mul_of_pos_right _ p2) hct
      have l2 : ctD o2 k2 ≤ 100000 := Nat.le_trans (Nat.le_mul_of_pos_left _ p1) hct
      have hq1 : i / ctD o2 k2 < ctD o1 k1 := Nat.div_lt_of_lt_mul (by rw [Nat.mul_comm]; exact hi)
      have hq2 : i % ctD o2 k2 < ctD o2 k2 := Nat.mod_lt _ p2
      rcases hs with ⟨e, _⟩ | ⟨b, off, f', rfl, _, rfl, hr⟩
      · cases e
      · obtain ⟨a1, c1, f1, f2, q0, q1, q2, q3, q4, q5, q6, rfl⟩ := RowAt.cons_iff.1 hr
        obtain ⟨a2, c2, g1, g2, p0, p1', p2', p3, p4, p5, _, rfl⟩ := RowAt.cons_iff.1 q6
        rw [pkD_cat]
        exact pick_cat n _ w b off cap o1 n1 t1 k1.len c1 a1 o2 n2 t2 k2.len c2 a2 _ _ (hg _ _ _ _ hk.1 (by omega) _) (hg _ _ _ _ hk.2.1 (by omega) _) i (ctD o2 k2 : Int) ((i / ctD o2 k2 : Nat) : Int) ((i % ctD o2 k2 : Nat) : Int) (by omega) (by omega) (by omega) (by omega) rfl rfl (hfs b (by simp)) hc ⟨⟨q0, q1, q2, q3⟩, p0, p1', p2', p3⟩
          (fun W hW => by
            have h := cntS_all d o2 n2 t2 k2 hk.2.1 (by omega) W a2 c2 g1 (p5.below (fun c hc => hfs c (by simp [hc])) hW) (fun c hc => Nat.lt_of_lt_of_le (hfs c (by simp [hc])) hW.size) p4
            rw [mn_small l2] at h
            exact h)
          (fun W hW => IH _ _ _ _ hk.1 (by omega) (by omega) l1 _ hq1 W a1 c1 f1 (q5.below (fun c hc => hfs c (by simp [hc])) hW) (fun c hc => Nat.lt_of_lt_of_le (hfs c (by simp [hc])) hW.size) q4)
          (fun W hW => IH _ _ _ _ hk.2.1 (by omega) (by omega) l2 _ hq2 W a2 c2 g1 (p5.below (fun c hc => hfs c (by simp [hc])) hW) (fun c hc => Nat.lt_of_lt_of_le (hfs c (by simp [hc])) hW.size) p4)
    · obtain ⟨o1, n1, t1, k1, rfl⟩ := one_kid hl
      have hk' := hk
      rw [ok_cons, Bool.and_eq_true] at hk
      have hcnt' := hcnt
      have hsz' := hsz
      simp only [F.cnt] at hcnt'
      simp only [F.size] at hsz'
      have hsub := hs
      have e := noD_ops 8 (.cons o1 n1 t1 k1 .nil)
      have e8 : noD 8 (.cons o1 n1 t1 k1 .nil) = noF (.cons o1 n1 t1 k1 .nil) := by simp [noD]
      rw [e8] at e
      have hO := fun (W : World) (hW : Below w.heap.size w W) => specCountOps 5 W 8 n ⟨#[]⟩ (.cons o1 n1 t1 k1 .nil) a cap fs (hsub.below hfs hW) (fun c hc => Nat.lt_of_lt_of_le (hfs c hc) hW.size) hc (by omega)
      have hF := fun (W : World) (hW : Below w.heap.size w W) => flat_step W 8 n ⟨#[]⟩ (.cons o1 n1 t1 k1 .nil) (flatS _ _ (Nat.le_refl _)) a cap fs (hsub.below hfs hW) (fun c hc => Nat.lt_of_lt_of_le (hfs c hc) hW.size) hc (by have e0 : (⟨#[]⟩ : ByteArray).size = 0 := rfl; omega)
      have hN1 : opsD 5 8 (.cons o1 n1 t1 k1 .nil) ≤ 100000 := by
        rw [opsD_eq]
        have h1 := cntF_nodes (fun x => x == 5) (.cons o1 n1 t1 k1 .nil)
        rw [nodes_cnt] at h1
        have : (if ((8 : Int) == 5) = true then 1 else 0) = 0 := rfl
        omega
      rw [ctD_group, ctF_one] at hi hct
      rcases hs with ⟨e', _⟩ | ⟨b, off, f', rfl, _, rfl, hr⟩
      · cases e'
      · obtain ⟨a1, c1, f1, f2, q0, q1, q2, q3, q4, q5, _, rfl⟩ := RowAt.cons_iff.1 hr
        have hK := fun (i : Nat) (hi : i < ctD o1 k1) (hct : ctD o1 k1 ≤ 100000) (W : World) (hW : Below w.heap.size w W) => IH _ _ _ _ hk.1 (by omega) (by omega) hct i hi W a1 c1 f1 (q5.below (fun c hc => hfs c (by simp [hc])) hW) (fun c hc => Nat.lt_of_lt_of_le (hfs c (by simp [hc])) hW.size) q4
        rw [pkD_group]
        cases hno : noF (.cons o1 n1 t1 k1 .nil) with
        | false =>
          rw [hno] at hi hct e
          simp only [Bool.false_eq_true, if_false] at hi hct ⊢
          have hN : 0 < opsD 5 8 (.cons o1 n1 t1 k1 .nil) := by have := of_decide_eq_false e.symm; omega
          exact pick_hard n _ w b off cap o1 n1 t1 k1.len c1 a1 _ i _ (by omega) (by omega) (hfs b (by simp)) hc q0 q1 q2 q3 hO (hK i hi hct)
        | true =>
          rw [hno] at hi hct e
          simp only [if_true] at hi hct ⊢
          have hN : opsD 5 8 (.cons o1 n1 t1 k1 .nil) = 0 := of_decide_eq_true e.symm
          rw [hN] at hO
          by_cases hi0 : i = 0
          · subst hi0
            rw [if_pos rfl]
            exact pick_flat n _ w b off cap o1 n1 t1 k1.len c1 a1 _ _ (by omega) (hfs b (by simp)) hc q0 q1 q2 q3 hO hF
          · rw [if_neg hi0]
            exact pick_deep n _ w b off cap o1 n1 t1 k1.len c1 a1 _ i _ (by omega) (by omega) (by omega) (by rw [beq_eq_false_iff_ne]; omega) ((i - 1 : Nat) : Int) (by omega) (hfs b (by simp)) hc q0 q1 q2 q3 hO (hK (i - 1) (by omega) (by omega))

end Go.Proofs.Ytpiaiandjnpdfaa.ChK

