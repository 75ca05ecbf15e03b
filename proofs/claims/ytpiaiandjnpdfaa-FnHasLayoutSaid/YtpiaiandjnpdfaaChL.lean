import Derived.Test.YtpiaiandjnpdfaaChT
import Derived.Test.YtpiaiandjnpdfaaChK
import Derived.Test.YtpiaiandjnpdfaaDcK
/-
  What the program's layout and groupLayout of a choice come to.
-/
set_option linter.unusedVariables false
set_option linter.unusedSimpArgs false
namespace Go.Proofs.Ytpiaiandjnpdfaa.ChL
open Go.RowKit P1 LayL LayV LayM LayN LayC Cnt CntC Flat Wid ChP Tr ChT OpenR

set_option maxRecDepth 100000 in
set_option maxHeartbeats 3200000 in
theorem lay_leaf (o : Int) (h6 : o ≠ 6) (h7 : o ≠ 7) (h8 : o ≠ 8) (b6 : (o == 6) = false) (b7 : (o == 7) = false) (b8 : (o == 8) = false) (n : Int) (t : ByteArray) (l cap cap' : Nat) (a : Option Addr) (hd : Bool) (w : World) (b off : Nat) (X : List (Int × ByteArray)) (i : Int) (a' : Option Addr)
    (c0 : w.cell? ⟨b, off, none⟩ = some (.int .i64 o)) (c1 : w.cell? ⟨b, off + 1, none⟩ = some (.int .i64 n)) (c2 : w.cell? ⟨b, off + 2, none⟩ = some (.string t)) (c3 : w.cell? ⟨b, off + 3, none⟩ = some (.slice a l cap)) (c5 : w.cell? ⟨b, off + 5, none⟩ = some (.bool hd)) (c6 : w.cell? ⟨b, off + 6, none⟩ = some (.slice a' l cap'))
    (hO : Calls Try.prog 94 #[.agg #[.int .i64 o, .int .i64 n, .string t, .slice a l cap]] w (RowsNew w X)) :
    Calls Try.prog 54 #[.pointer (some ⟨b, off, none⟩), .int .i64 i] w (RowsNew w X) := by
  have HO := Lib.hid hO
  clear hO
  go_enter Try.func54, Try.ntmps54
  go_wp2_with fail
  refine HO.out.mono ?_
  rintro e1 w2 ⟨a2, c2', f2, rfl, hc2, hs2, hf2, hb2⟩
  have H2 := Lib.hid (lift_rows (Below.refl w.heap.size w) rfl hc2 hs2 hf2 hb2)
  clear hc2 hs2 hf2 hb2 c0 c1 c2 c3 c5 c6
  go_wp2_with fail
  go_ret
  exact H2.out

set_option maxRecDepth 100000 in
set_option maxHeartbeats 3200000 in
theorem lay_nest (n : Int) (hn0 : 0 ≤ n) (hn9 : n ≤ 9) (t : ByteArray) (l cap cap' : Nat) (a : Option Addr) (hd : Bool) (w : World) (b off b1 : Nat) (X : List (Int × ByteArray)) (hX : lv X = true) (i : Int) (hl : l = 1) (a' : Option Addr) (ha' : a' = some ⟨b1, 0, none⟩) (hb : b < w.heap.size)
    (c0 : w.cell? ⟨b, off, none⟩ = some (.int .i64 6)) (c1 : w.cell? ⟨b, off + 1, none⟩ = some (.int .i64 n)) (c2 : w.cell? ⟨b, off + 2, none⟩ = some (.string t)) (c3 : w.cell? ⟨b, off + 3, none⟩ = some (.slice a l cap)) (c5 : w.cell? ⟨b, off + 5, none⟩ = some (.bool hd)) (c6 : w.cell? ⟨b, off + 6, none⟩ = some (.slice a' l cap'))
    (hK : ∀ W, Below w.heap.size w W → Calls Try.prog 54 #[.pointer (some ⟨b1, 0, none⟩), .int .i64 i] W (RowsNew W X)) :
    Calls Try.prog 54 #[.pointer (some ⟨b, off, none⟩), .int .i64 i] w (RowsNew w (nestL n X)) := by
  subst ha' hl
  have HK := Lib.hid hK
  have HN := Lib.hid (fun (W : World) (a : Option Addr) (c : Nat) (fs : List Nat) (hs : LaySub W a X fs) (hc : X.length ≤ c) => nestRows n hn0 (by omega) X hX W a c fs hs hc)
  have HW := Lib.hid (Below.refl w.heap.size w)
  clear hK hX c2 c3 c5
  go_enter Try.func54, Try.ntmps54
  go_wp2_with fail
  go_region_held3 (fun w' => w'.cell? ⟨b, off + 1, none⟩ = some (.int .i64 n) ∧ w'.cell? ⟨b, off + 6, none⟩ = some (.slice (some ⟨b1, 0, none⟩) 1 cap'))
    (first | go_keep | (refine ⟨?_, ?_⟩ <;> (first | assumption | (rw [hb2.cell (p := ⟨_, _, _⟩) (by first | (simp; done) | (simp; omega) | omega)]; assumption) | (rw [hb3.cell (p := ⟨_, _, _⟩) (by have := hb2.size; first | (simp at this ⊢; done) | (simp at this ⊢; omega) | omega), hb2.cell (p := ⟨_, _, _⟩) (by first | (simp; done) | (simp; omega) | omega)]; assumption))))
    (first
      | (go_at_call 54; refine (HK.out _ (by first | exact HW.out | exact HW.out.drew)).mono ?_; rintro e1 w2 ⟨a2, c2, f2, rfl, hc2, hs2, hf2, hb2⟩)
      | (go_at_call 91; refine (HN.out _ a2 c2 f2 hs2 hc2).mono ?_; rintro e2 w3 ⟨a3, c3, f3, rfl, hc3, hs3, hf3, hb3⟩))
  all_goals
    go_wp2_with fail
    go_ret
    have q2 : Below w.heap.size w w2 := (Below.refl _ w).drew.trans hb2
    exact lift_rows q2 rfl hc3 hs3 hf3 hb3

set_option maxRecDepth 100000 in
set_option maxHeartbeats 3200000 in
theorem lay_cat (n : Int) (t : ByteArray) (l cap cap' : Nat) (a : Option Addr) (hd : Bool) (w : World) (b off b1 : Nat) (X Y : List (Int × ByteArray)) (hX : lv X = true) (hY : lv Y = true) (i c q r : Int) (hi0 : 0 ≤ i) (hi1 : i ≤ 200000) (hc1 : 1 ≤ c) (hc2 : c ≤ 200000) (hq : i / c = q) (hr : i % c = r) (hl : l = 2) (a' : Option Addr) (ha' : a' = some ⟨b1, 0, none⟩) (hb : b < w.heap.size) (hb1 : b1 < w.heap.size)
    (c0 : w.cell? ⟨b, off, none⟩ = some (.int .i64 7)) (c1 : w.cell? ⟨b, off + 1, none⟩ = some (.int .i64 n)) (c2 : w.cell? ⟨b, off + 2, none⟩ = some (.string t)) (c3 : w.cell? ⟨b, off + 3, none⟩ = some (.slice a l cap)) (c5 : w.cell? ⟨b, off + 5, none⟩ = some (.bool hd)) (c6 : w.cell? ⟨b, off + 6, none⟩ = some (.slice a' l cap'))
    (d4 : w.cell? ⟨b1, 11, none⟩ = some (.int .i64 c))
    (hK : ∀ W, Below w.heap.size w W → Calls Try.prog 54 #[.pointer (some ⟨b1, 0, none⟩), .int .i64 q] W (RowsNew W X))
    (hK2 : ∀ W, Below w.heap.size w W → Calls Try.prog 54 #[.pointer (some ⟨b1, 7, none⟩), .int .i64 r] W (RowsNew W Y)) :
    Calls Try.prog 54 #[.pointer (some ⟨b, off, none⟩), .int .i64 i] w (RowsNew w (catL X Y)) := by
  subst ha' hl
  have HK := Lib.hid hK
  have HK2 := Lib.hid hK2
  have HN := Lib.hid (fun (W : World) (a : Option Addr) (c : Nat) (fs : List Nat) (hs : LaySub W a X fs) (hc : X.length ≤ c) (a' : Option Addr) (c' : Nat) (fs' : List Nat) (hs' : LaySub W a' Y fs') (hc' : Y.length ≤ c') => catRows X Y hX hY W a c fs hs hc a' c' fs' hs' hc')
  have qt : IntKind.i64.wrap (i.tdiv c) = q := by
    rw [← hq, Int.tdiv_eq_ediv_of_nonneg hi0]
    exact IntWalk.i64_in _ ⟨by have := Int.ediv_nonneg hi0 (show 0 ≤ c by omega); omega, by have := Int.ediv_le_self c hi0; omega⟩
  have rt : i.tmod c = r := by rw [← hr, Int.tmod_eq_emod_of_nonneg hi0]
  have HQ := Lib.hid (And.intro qt (And.intro rt (And.intro hq hr)))
  clear hK hK2 hX hY c1 c2 c3 c5 qt rt hq hr
  go_enter Try.func54, Try.ntmps54
  go_wp2_with fail
  go_quiet (fail)
  obtain ⟨w0, hw0⟩ : ∃ w0, w.drewN nq = w0 := ⟨_, rfl⟩
  have hbw : Below w.heap.size w w0 := by rw [← hw0]; exact ext_drewN _ _
  rw [hw0]
  have HW := Lib.hid hbw
  replace d4 := (hbw.cell (p := ⟨b1, 11, none⟩) hb1).trans d4
  replace hb1 := Nat.lt_of_lt_of_le hb1 hbw.size
  clear hw0 hbw c0 c6 hb
  go_wp2_with fail
  obtain ⟨qt, rt, qe, re⟩ := HQ.out
  have hc0 : ¬ (c = 0) := by omega
  have hc0b : (c == 0) = false := beq_eq_false_iff_ne.2 hc0
  go_region_held3 (fun w' => w'.cell? ⟨b1, 11, none⟩ = some (.int .i64 c))
    (first | go_keep | (first | assumption | (rw [hbX.cell (p := ⟨_, _, _⟩) (by first | (simp; done) | (simp; omega) | omega)]; assumption) | (rw [hbY.cell (p := ⟨_, _, _⟩) (by have := hbX.size; first | (simp at this ⊢; done) | (simp at this ⊢; omega) | omega), hbX.cell (p := ⟨_, _, _⟩) (by first | (simp; done) | (simp; omega) | omega)]; assumption) | (rw [hb3.cell (p := ⟨_, _, _⟩) (by have := hbX.size; have := hbY.size; first | (simp at *; omega) | omega), hbY.cell (p := ⟨_, _, _⟩) (by have := hbX.size; first | (simp at this ⊢; done) | (simp at this ⊢; omega) | omega), hbX.cell (p := ⟨_, _, _⟩) (by first | (simp; done) | (simp; omega) | omega)]; assumption)))
    (first
      | (go_at_call_of 54 (Value.pointer (some ⟨b1, 0, none⟩)); refine (HK.out _ (by first | exact HW.out | exact HW.out.drew)).mono ?_; rintro e1 wX ⟨aX, cX, fX, rfl, hcX, hsX, hfX, hbX⟩)
      | (go_at_call_of 54 (Value.pointer (some ⟨b1, 7, none⟩)); refine (HK2.out _ (HW.out.trans (((Below.refl _ w0).drew.trans hbX).mono HW.out.size))).mono ?_; rintro e1 wY ⟨aY, cY, fY, rfl, hcY, hsY, hfY, hbY⟩)
      | (go_at_call 92; refine (HN.out _ aX cX fX (hsX.below hsX.lt hbY) hcX aY cY fY hsY hcY).mono ?_; rintro e2 w3 ⟨a3, c3, f3, rfl, hc3, hs3, hf3, hb3⟩))
  all_goals
    clear qt rt qe re
    go_wp2_with fail
    go_ret
    have q2 : Below w.heap.size w wX := HW.out.trans (((Below.refl _ w0).drew.trans hbX).mono HW.out.size)
    have q3 : Below w.heap.size w wY := q2.trans (hbY.mono q2.size)
    exact lift_rows q3 rfl hc3 hs3 hf3 hb3

set_option maxRecDepth 100000 in
set_option maxHeartbeats 3200000 in
theorem grp_hard (n : Int) (t : ByteArray) (l cap cap' : Nat) (a : Option Addr) (hd : Bool) (w : World) (b off b1 : Nat) (i : Int) (hl : l = 1) (a' : Option Addr) (ha' : a' = some ⟨b1, 0, none⟩) (hb : b < w.heap.size) (X : List (Int × ByteArray)) (hh : hd = true) (hK : ∀ W, Below w.heap.size w W → Calls Try.prog 54 #[.pointer (some ⟨b1, 0, none⟩), .int .i64 i] W (RowsNew W X))
    (c0 : w.cell? ⟨b, off, none⟩ = some (.int .i64 8)) (c1 : w.cell? ⟨b, off + 1, none⟩ = some (.int .i64 n)) (c2 : w.cell? ⟨b, off + 2, none⟩ = some (.string t)) (c3 : w.cell? ⟨b, off + 3, none⟩ = some (.slice a l cap)) (c5 : w.cell? ⟨b, off + 5, none⟩ = some (.bool hd)) (c6 : w.cell? ⟨b, off + 6, none⟩ = some (.slice a' l cap')) :
    Calls Try.prog 93 #[.pointer (some ⟨b, off, none⟩), .int .i64 i] w (RowsNew w X) := by
  subst ha' hl
  have HFT := Lib.hid (ChT.flattens w b off 8 hd c0 c5)
  subst hh
  have HK := Lib.hid (hK w (Below.refl _ _))
  clear hK
  go_enter Try.func93, Try.ntmps93
  go_wp2_with fail
  refine HFT.out.mono ?_
  rintro e0 w0 ⟨rfl, rfl⟩
  go_wp2_with fail
  refine HK.out.mono ?_
  rintro e1 w2 ⟨a2, c2', f2, rfl, hc2, hs2, hf2, hb2⟩
  have H2 := Lib.hid (lift_rows (Below.refl w.heap.size w) rfl hc2 hs2 hf2 hb2)
  clear hc2 hs2 hf2 hb2 c0 c1 c2 c3 c5 c6
  go_wp2_with fail
  go_ret
  exact H2.out

set_option maxRecDepth 100000 in
set_option maxHeartbeats 3200000 in
theorem grp_deep (n : Int) (t : ByteArray) (l cap cap' : Nat) (a : Option Addr) (hd : Bool) (w : World) (b off b1 : Nat) (i : Int) (hl : l = 1) (a' : Option Addr) (ha' : a' = some ⟨b1, 0, none⟩) (hb : b < w.heap.size) (X : List (Int × ByteArray)) (hh : hd = false) (hi1 : 1 ≤ i) (hi2 : i ≤ 200000) (j : Int) (hj : i - 1 = j) (hK : ∀ W, Below w.heap.size w W → Calls Try.prog 54 #[.pointer (some ⟨b1, 0, none⟩), .int .i64 j] W (RowsNew W X))
    (c0 : w.cell? ⟨b, off, none⟩ = some (.int .i64 8)) (c1 : w.cell? ⟨b, off + 1, none⟩ = some (.int .i64 n)) (c2 : w.cell? ⟨b, off + 2, none⟩ = some (.string t)) (c3 : w.cell? ⟨b, off + 3, none⟩ = some (.slice a l cap)) (c5 : w.cell? ⟨b, off + 5, none⟩ = some (.bool hd)) (c6 : w.cell? ⟨b, off + 6, none⟩ = some (.slice a' l cap')) :
    Calls Try.prog 93 #[.pointer (some ⟨b, off, none⟩), .int .i64 i] w (RowsNew w X) := by
  subst ha' hl
  have HFT := Lib.hid (ChT.flattens w b off 8 hd c0 c5)
  subst hh hj
  have HK := Lib.hid (hK w (Below.refl _ _))
  clear hK
  go_enter Try.func93, Try.ntmps93
  go_wp2_with fail
  refine HFT.out.mono ?_
  rintro e0 w0 ⟨rfl, rfl⟩
  go_wp2_with fail
  refine HK.out.mono ?_
  rintro e1 w2 ⟨a2, c2', f2, rfl, hc2, hs2, hf2, hb2⟩
  have H2 := Lib.hid (lift_rows (Below.refl w.heap.size w) rfl hc2 hs2 hf2 hb2)
  clear hc2 hs2 hf2 hb2 c0 c1 c2 c3 c5 c6
  go_wp2_with fail
  go_ret
  exact H2.out

set_option maxRecDepth 100000 in
set_option maxHeartbeats 3200000 in
theorem grp_flat (n : Int) (t : ByteArray) (l cap cap' : Nat) (a : Option Addr) (hd : Bool) (w : World) (b off b1 : Nat) (i : Int) (hl : l = 1) (a' : Option Addr) (ha' : a' = some ⟨b1, 0, none⟩) (hb : b < w.heap.size) (S : ByteArray) (hh : hd = false) (hF : Calls Try.prog 35 #[.agg #[.int .i64 8, .int .i64 n, .string t, .slice a l cap]] w fun e w' => e = .returned (.tuple #[.string S, .bool true]) ∧ Below w.heap.size w w')
    (c0 : w.cell? ⟨b, off, none⟩ = some (.int .i64 8)) (c1 : w.cell? ⟨b, off + 1, none⟩ = some (.int .i64 n)) (c2 : w.cell? ⟨b, off + 2, none⟩ = some (.string t)) (c3 : w.cell? ⟨b, off + 3, none⟩ = some (.slice a l cap)) (c5 : w.cell? ⟨b, off + 5, none⟩ = some (.bool hd)) (c6 : w.cell? ⟨b, off + 6, none⟩ = some (.slice a' l cap')) :
    Calls Try.prog 93 #[.pointer (some ⟨b, off, none⟩), .int .i64 0] w (RowsNew w [(0, S)]) := by
  subst ha' hl
  have HFT := Lib.hid (ChT.flattens w b off 8 hd c0 c5)
  subst hh
  have HF := Lib.hid hF
  clear hF
  go_enter Try.func93, Try.ntmps93
  go_wp2_with fail
  refine HFT.out.mono ?_
  rintro e0 w0 ⟨rfl, rfl⟩
  go_wp2_with fail
  refine HF.out.mono ?_
  rintro e1 w2 ⟨rfl, hb2⟩
  have H2 := Lib.hid hb2
  clear hb2 c0 c1 c2 c3 c5 c6
  go_wp2_with fail
  go_ret
  exact rows_made H2.out _ _ _ (text_row S) (by simp) rfl

set_option maxRecDepth 100000 in
set_option maxHeartbeats 3200000 in
theorem lay_group (n : Int) (t : ByteArray) (l cap cap' : Nat) (a : Option Addr) (hd : Bool) (w : World) (b off : Nat) (X : List (Int × ByteArray)) (i : Int) (a' : Option Addr) (hb : b < w.heap.size)
    (c0 : w.cell? ⟨b, off, none⟩ = some (.int .i64 8)) (c1 : w.cell? ⟨b, off + 1, none⟩ = some (.int .i64 n)) (c2 : w.cell? ⟨b, off + 2, none⟩ = some (.string t)) (c3 : w.cell? ⟨b, off + 3, none⟩ = some (.slice a l cap)) (c5 : w.cell? ⟨b, off + 5, none⟩ = some (.bool hd)) (c6 : w.cell? ⟨b, off + 6, none⟩ = some (.slice a' l cap'))
    (hG : Calls Try.prog 93 #[.pointer (some ⟨b, off, none⟩), .int .i64 i] w (RowsNew w X)) :
    Calls Try.prog 54 #[.pointer (some ⟨b, off, none⟩), .int .i64 i] w (RowsNew w X) := by
  have HK := Lib.hid hG
  clear hG
  go_enter Try.func54, Try.ntmps54
  go_wp2_with fail
  refine HK.out.mono ?_
  rintro e1 w2 ⟨a2, c2', f2, rfl, hc2, hs2, hf2, hb2⟩
  have H2 := Lib.hid (lift_rows (Below.refl w.heap.size w) rfl hc2 hs2 hf2 hb2)
  clear hc2 hs2 hf2 hb2 c0 c1 c2 c3 c5 c6
  go_wp2_with fail
  go_ret
  exact H2.out

theorem ok_mono : ∀ (f : F) (d d' : Nat), f.ok d = true → d ≤ d' → f.ok d' = true := by
  intro f
  induction f with
  | nil => intro d d' _ _; rfl
  | cons o n t k r ihk ihr =>
    intro d d' h hd
    simp only [F.ok, Bool.and_eq_true, decide_eq_true_eq] at h ⊢
    exact ⟨⟨⟨by omega, h.1.1.2⟩, ihk _ _ h.1.2 (by omega)⟩, ihr _ _ h.2 hd⟩
theorem valid_of {d : Nat} {o n : Int} {t : ByteArray} {k : F} (h : okD d o n t k = true) (hd : d ≤ 40) (hc : 1 + k.cnt ≤ 80) : validD o n t k = true := by
  simp only [validD, okD, Bool.and_eq_true, decide_eq_true_eq] at h ⊢
  exact ⟨⟨⟨by omega, h.1.2⟩, ok_mono k _ _ h.2 (by omega)⟩, hc⟩

/-- a tree in memory at a place -/
def At (w : World) (b off : Nat) (o n : Int) (t : ByteArray) (k : F) : Prop := b < w.heap.size ∧ ∃ (a : Option Addr) (cap : Nat) (a' : Option Addr) (cap' : Nat),
  (w.cell? ⟨b, off, none⟩ = some (.int .i64 o) ∧ w.cell? ⟨b, off + 1, none⟩ = some (.int .i64 n) ∧ w.cell? ⟨b, off + 2, none⟩ = some (.string t) ∧ w.cell? ⟨b, off + 3, none⟩ = some (.slice a k.len cap) ∧ w.cell? ⟨b, off + 4, none⟩ = some (.int .i64 (ctD o k : Int)) ∧ w.cell? ⟨b, off + 5, none⟩ = some (.bool (!noD o k)) ∧ w.cell? ⟨b, off + 6, none⟩ = some (.slice a' k.len cap')) ∧ DocIn (fun _ => True) w k a cap ∧ TreeSub (fun _ => True) w a' k
theorem At.below {w W : World} {b off : Nat} {o n : Int} {t : ByteArray} {k : F} (h : At w b off o n t k) (e : Below w.heap.size w W) : At W b off o n t k := by
  obtain ⟨hb, a, cap, a', cap', ⟨h0, h1, h2, h3, h4, h5, h6⟩, g1, g2⟩ := h
  have q : ∀ i, W.cell? ⟨b, i, none⟩ = w.cell? ⟨b, i, none⟩ := fun i => e.cell (p := ⟨b, i, none⟩) hb
  exact ⟨Nat.lt_of_lt_of_le hb e.size, a, cap, a', cap', ⟨(q _).trans h0, (q _).trans h1, (q _).trans h2, (q _).trans h3, (q _).trans h4, (q _).trans h5, (q _).trans h6⟩, g1.stay (Stay.below e), g2.stay (Stay.below e)⟩
theorem At.kid {w : World} {D : Nat → Prop} {A : Option Addr} {o n : Int} {t : ByteArray} {k r p : F} (h : TreeSub (fun _ => True) w A (p.app (.cons o n t k r))) : ∃ b, A = some ⟨b, 0, none⟩ ∧ At w b (p.len * 7) o n t k := by
  obtain ⟨b, a, cap, a', cap', e, hb, hc, h1, h2⟩ := h.at
  exact ⟨b, e, hb, a, cap, a', cap', hc, h1, h2⟩

/-- the contract of layout, down to a depth -/
def layS (d : Nat) : Prop := ∀ (o n : Int) (t : ByteArray) (k : F), okD d o n t k = true → 1 + k.cnt ≤ 80 → t.size + k.size ≤ 2000000 → ctD o k ≤ 100000 → ∀ (i : Nat), i < ctD o k → ∀ (w : World) (b off : Nat), At w b off o n t k →
  Calls Try.prog 54 #[.pointer (some ⟨b, off, none⟩), .int .i64 (i : Int)] w (RowsNew w (pkD o n t k i))

theorem layS_all : ∀ d : Nat, d ≤ 40 → layS d := by
  intro d
  induction d with
  | zero => intro _ o n t k h; rw [okD_zero] at h; cases h
  | succ d ih =>
    intro hd o n t k h hcnt hsz hct i hi w b off hat
    have IH := ih (by omega)
    have hg := fun o n t k (h : okD d o n t k = true) (hc : 1 + k.cnt ≤ 80) (i : Nat) => (pick_good d o n t k h i).lv hc (by omega)
    obtain ⟨hn, hk⟩ := okD_parts h
    obtain ⟨hb, a, cap, a', cap', ⟨c0, c1, c2, c3, c4, c5, c6⟩, ⟨hcap, fs, hsub, hfs⟩, htr⟩ := hat
    have hop := implS_all (d + 1) hd o n t k h hcnt w a cap fs hsub (fun c hc => (hfs c hc).2.1) hcap
    rcases node_kinds hn with ⟨rfl, ht, hl⟩ | ⟨ho, rfl, hl⟩ | ⟨rfl, rfl, h0, h9, hl⟩ | ⟨rfl, rfl, hl⟩ | ⟨rfl, rfl, hl⟩
    · rw [pkD_leaf (by omega) (by omega) (by omega)]
      exact lay_leaf 2 (by decide) (by decide) (by decide) rfl rfl rfl n t _ cap cap' a _ w b off _ _ a' c0 c1 c2 c3 c5 c6 hop
    · obtain ⟨h6, h7, h8⟩ := leaf_ne ho
      rw [pkD_leaf h6 h7 h8]
      exact lay_leaf o h6 h7 h8 (beq_eq_false_iff_ne.2 h6) (beq_eq_false_iff_ne.2 h7) (beq_eq_false_iff_ne.2 h8) n _ _ cap cap' a _ w b off _ _ a' c0 c1 c2 c3 c5 c6 hop
    · obtain ⟨o1, n1, t1, k1, rfl⟩ := one_kid hl
      rw [ok_cons, Bool.and_eq_true] at hk
      simp only [F.cnt] at hcnt
      simp only [F.size] at hsz
      rw [ctD_other (by omega), ctF_one] at hi hct
      obtain ⟨b1, rfl, hat1⟩ := At.kid (D := fun _ => True) (p := .nil) htr
      rw [pkD_nest]
      exact lay_nest n h0 h9 _ _ cap cap' a _ w b off b1 _ (hg _ _ _ _ hk.1 (by omega) i) i rfl _ rfl hb c0 c1 c2 c3 c5 c6 (fun W hW => IH _ _ _ _ hk.1 (by omega) (by omega) hct i hi W b1 0 (hat1.below hW))
    · obtain ⟨o1, n1, t1, k1, o2, n2, t2, k2, rfl⟩ := two_kids hl
      rw [ok_cons, ok_cons, Bool.and_eq_true, Bool.and_eq_true] at hk
      simp only [F.cnt] at hcnt
      simp only [F.size] at hsz
      rw [ctD_other (by omega), ctF_cons, ctF_one] at hi hct
      have p1 := ctD_pos o1 k1
      have p2 := ctD_pos o2 k2
      have l1 : ctD o1 k1 ≤ 100000 := Nat.le_trans (Nat.le_mul_of_pos_right _ p2) hct
      have l2 : ctD o2 k2 ≤ 100000 := Nat.le_trans (Nat.le_mul_of_pos_left _ p1) hct
      have hq1 : i / ctD o2 k2 < ctD o1 k1 := Nat.div_lt_of_lt_mul (by rw [Nat.mul_comm]; exact hi)
      have hq2 : i % ctD o2 k2 < ctD o2 k2 := Nat.mod_lt _ p2
      obtain ⟨b1, rfl, hat1⟩ := At.kid (D := fun _ => True) (p := .nil) htr
      obtain ⟨b2, hab, hat2⟩ := At.kid (D := fun _ => True) (p := .cons o1 n1 t1 k1 .nil) htr
      cases hab
      have d4 := hat2.2
      obtain ⟨_, _, _, _, ⟨_, _, _, _, d4, _, _⟩, _, _⟩ := d4
      rw [pkD_cat]
      exact lay_cat n _ _ cap cap' a _ w b off b1 _ _ (hg _ _ _ _ hk.1 (by omega) _) (hg _ _ _ _ hk.2.1 (by omega) _) i (ctD o2 k2 : Int) ((i / ctD o2 k2 : Nat) : Int) ((i % ctD o2 k2 : Nat) : Int) (by omega) (by omega) (by omega) (by omega) rfl rfl rfl _ rfl hb hat1.1 c0 c1 c2 c3 c5 c6 d4
        (fun W hW => IH _ _ _ _ hk.1 (by omega) (by omega) l1 _ hq1 W b1 0 (hat1.below hW))
        (fun W hW => IH _ _ _ _ hk.2.1 (by omega) (by omega) l2 _ hq2 W b1 7 (hat2.below hW))
    · obtain ⟨o1, n1, t1, k1, rfl⟩ := one_kid hl
      have hval := valid_of h hd hcnt
      rw [ok_cons, Bool.and_eq_true] at hk
      have hcnt' := hcnt
      have hsz' := hsz
      simp only [F.cnt] at hcnt'
      simp only [F.size] at hsz'
      have e8 : noD 8 (.cons o1 n1 t1 k1 .nil) = noF (.cons o1 n1 t1 k1 .nil) := by simp [noD]
      have eo := noD_ops 8 (.cons o1 n1 t1 k1 .nil)
      rw [e8] at c5 eo
      rw [ctD_group, ctF_one] at hi hct
      obtain ⟨b1, rfl, hat1⟩ := At.kid (D := fun _ => True) (p := .nil) htr
      have hF := FlatI.implFlatText w 8 n ⟨#[]⟩ (.cons o1 n1 t1 k1 .nil) a cap fs hsub (fun c hc => ⟨(hfs c hc).2.1, (hfs c hc).2.2⟩) hcap (by omega) (DocK.fits_of (m := 2000000) (by unfold maxLen; omega) _ (by omega)) (Nat.zero_le _)
      refine lay_group n _ _ cap cap' a _ w b off _ i _ hb c0 c1 c2 c3 c5 c6 ?_
      rw [pkD_group]
      cases hno : noF (.cons o1 n1 t1 k1 .nil) with
      | false =>
        rw [hno] at hi hct c5
        simp only [Bool.false_eq_true, if_false] at hi hct ⊢
        exact grp_hard n _ _ cap cap' a _ w b off b1 i rfl _ rfl hb _ rfl (fun W hW => IH _ _ _ _ hk.1 (by omega) (by omega) hct i hi W b1 0 (hat1.below hW)) c0 c1 c2 c3 c5 c6
      | true =>
        rw [hno] at hi hct c5 eo
        simp only [if_true] at hi hct ⊢
        by_cases hi0 : i = 0
        · subst hi0
          rw [if_pos rfl]
          have hcan : canD 8 n ⟨#[]⟩ (.cons o1 n1 t1 k1 .nil) = true := by rw [canD, hval, ← eo]; rfl
          have hft : ftD 8 n ⟨#[]⟩ (.cons o1 n1 t1 k1 .nil) = flD 8 ⟨#[]⟩ (.cons o1 n1 t1 k1 .nil) := by simp [ftD, hcan]
          rw [hcan, hft] at hF
          exact grp_flat n _ _ cap cap' a _ w b off b1 0 rfl _ rfl hb _ rfl hF c0 c1 c2 c3 c5 c6
        · rw [if_neg hi0]
          exact grp_deep n _ _ cap cap' a _ w b off b1 i rfl _ rfl hb _ rfl (by omega) (by omega) ((i - 1 : Nat) : Int) (by omega) (fun W hW => IH _ _ _ _ hk.1 (by omega) (by omega) (by omega) (i - 1) (by omega) W b1 0 (hat1.below hW)) c0 c1 c2 c3 c5 c6

end Go.Proofs.Ytpiaiandjnpdfaa.ChL

