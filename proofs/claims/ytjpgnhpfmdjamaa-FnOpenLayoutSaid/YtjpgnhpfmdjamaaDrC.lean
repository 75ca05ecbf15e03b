/-
  What the model's l1Some comes to at a depth above 0.
-/
import Derived.Test.YtjpgnhpfmdjamaaDrB
namespace Go.Proofs.Ytjpgnhpfmdjamaa.DrC
open Go.RowKit P1 Draw Draw2 DrA DrB
set_option linter.unusedVariables false
set_option linter.unusedSimpArgs false

theorem nest_node {r : Int} (h : r ∈ [(2 : Int), 1, 4, 0, 9]) : nodeB 6 r ⟨#[]⟩ 1 = true := by
  simp only [List.mem_cons, List.not_mem_nil, or_false] at h
  rcases h with rfl | rfl | rfl | rfl | rfl <;> decide

set_option maxRecDepth 100000 in
set_option maxHeartbeats 6400000 in
theorem succS (d : Nat) (ih : SomeS d) (hd : d ≤ 10) (w : World) (x lo p : Nat) (hrd : Rd w x lo p) (hp : p + drawB (d + 1) ≤ 1073741824) (hx : x < w.heap.size) :
    Calls Try.prog 84 #[.pointer (some ⟨x, 0, none⟩), .int .i64 ((d : Int) + 1)] w (SomeOut w x lo p (sizeB (d + 1)) (2 * (d + 1)) (drawB (d + 1))) := by
  have hA : ∀ ob, Below w.heap.size w (w.alloc ob) := fun ob => (Below.refl _ _).alloc (Nat.le_refl _) _
  have hD := drawB_two d
  have hS := sizeB_8 d
  obtain ⟨D, hDD⟩ : ∃ D, drawB d = D := ⟨_, rfl⟩
  obtain ⟨S, hSS⟩ : ∃ S, sizeB d = S := ⟨_, rfl⟩
  have e1 : drawB (d + 1) = 2 * D + 4 := by rw [← hDD]; rfl
  have e2 : sizeB (d + 1) = 2 * S + 12 := by rw [← hSS]; rfl
  rw [e1] at hp ⊢
  rw [e2]
  have IH : Hid (∀ (w : World) (x lo p : Nat), Rd w x lo p → p + D ≤ 1073741824 → x < w.heap.size → Calls Try.prog 84 #[.pointer (some ⟨x, 0, none⟩), .int .i64 d] w (SomeOut w x lo p S (2 * d) D)) := by
    have := ih
    unfold SomeS at this
    rw [hDD, hSS] at this
    exact this
  rw [hDD] at hD
  rw [hSS] at hS
  have hpk := fun ob => pick (w.alloc ob) x lo p 12 (rdBelow hrd hx (hA ob)) (by omega)
  have HP := Lib.hid hpk
  have hd0 : ((d : Int) + 1 == 0) = false := by rw [beq_eq_false_iff_ne]; omega
  clear hpk hrd ih e1 e2 hDD hSS
  go_enter Try.func84, Try.ntmps84
  go_wp2_with fail
  refine (HP.out _).mono ?_
  rintro e1 w1 ⟨r, rfl, hr0, hr1, hrd1, hbut⟩
  have hxr : x < w1.heap.size := by have := hbut.size; simp at this; omega
  have hzr : w.heap.size < w1.heap.size := by have := hbut.size; simp at this; omega
  have hne : w.heap.size ≠ x := by omega
  have hcell : ∀ o, w1.cell? ⟨w.heap.size, o, none⟩ = _ := fun o => hbut.cell (c := w.heap.size) (o := o) (by simp) hne
  have hfz : ∀ o, w1.frozen? ⟨w.heap.size, o, none⟩ = _ := fun o => hbut.frozen (c := w.heap.size) (o := o) (by simp) hne
  have HB := Lib.hid (And.intro hrd1 (((But.refl w.heap.size x w).alloc (Nat.le_refl _) _).trans (hbut.mono (by simp))))
  clear hrd1 hbut HP hA
  have hc : r = 0 ∨ (r = 1 ∨ r = 2) ∨ (r = 3 ∨ r = 4 ∨ r = 5) ∨ r = 6 ∨ (7 ≤ r ∧ r < 12) := by omega
  clear hr0 hr1
  rcases hc with rfl | hr | hr | rfl | ⟨hr4, hr8⟩
  · -- a leaf
    go_wp2_with fail
    refine (zeroS w1 x lo (p + 1) HB.out.1 (by simp only [drawB]; omega) hxr).mono ?_
    rintro e2 w2 ⟨v, q, rfl, hmade, hrd2, hq, hbut2⟩
    have hm2 := madeMono hmade (show w.heap.size + 1 ≤ w1.heap.size by omega) (show sizeB 0 ≤ 2 * S + 12 by simp only [sizeB]; omega) (show 2 * 0 ≤ 2 * (d + 1) by omega)
    obtain ⟨o, n, t, k, a, cap, fs, rfl, hmm⟩ := hm2
    have hcell1 := hcell
    have hfz1 := hfz
    have hzr1 := hzr
    have hxr1 := hxr
    clear hcell hfz
    have hcell2 : ∀ o, w2.cell? ⟨w.heap.size, o, none⟩ = _ := fun o => (hbut2.cell (c := w.heap.size) (o := o) hzr1 hne).trans (hcell1 o)
    have hfz2 : ∀ o, w2.frozen? ⟨w.heap.size, o, none⟩ = _ := fun o => (hbut2.frozen (c := w.heap.size) (o := o) hzr1 hne).trans (hfz1 o)
    have hzr2 : w.heap.size < w2.heap.size := Nat.lt_of_lt_of_le hzr1 hbut2.size
    have hxr2 : x < w2.heap.size := Nat.lt_of_lt_of_le hxr1 hbut2.size
    have HB2 := Lib.hid (And.intro (show Made w2 (w.heap.size + 1) (2 * S + 12) (2 * (d + 1)) _ from ⟨o, n, t, k, a, cap, fs, rfl, hmm⟩) (And.intro hrd2 (And.intro (show q ≤ p + (2 * D + 4) by simp only [drawB] at hq; omega) (HB.out.2.trans (hbut2.mono (by omega))))))
    clear hmm hmade hrd2 hbut2 hcell1 hfz1 hq
    go_wp2_with fail
    refine bodyPost_ret (v := .agg #[.int .i64 o, .int .i64 n, .string t, .slice a k.len cap]) (by simp [results, Try.results84, go_sem, hcell2, hfz2, hzr2]) rfl ?_
    refine end_of (w1 := w2) (q := q) hx HB2.out.1 HB2.out.2.1 HB2.out.2.2.1 HB2.out.2.2.2 ?_
    repeat (first | exact Touch.refl _ _ _ | refine Touch.setCell ?_ (by simp) (by simp) _)
  · -- a nest
    have hcell1 := hcell
    have hfz1 := hfz
    have hzr1 := hzr
    have hxr1 := hxr
    clear hcell hfz
    have hA1 : ∀ ob, Below w1.heap.size w1 (w1.alloc ob) := fun ob => (Below.refl _ _).alloc (Nat.le_refl _) _
    have hnum := Draw.num (w1.alloc (.cells #[.int .i64 2, .int .i64 1, .int .i64 4, .int .i64 0, .int .i64 9] 3)) x lo (p + 1) w1.heap.size 0 5 [2, 1, 4, 0, 9] (rdBelow HB.out.1 hxr1 (hA1 _)) (by omega) (fun i hi => by
      rw [World.cell?_alloc_new]
      have hi' : i < 5 := hi
      match i, hi' with
      | 0, _ => rfl
      | 1, _ => rfl
      | 2, _ => rfl
      | 3, _ => rfl
      | 4, _ => rfl) (by decide) (by decide) (by decide) (by simp) (by omega)
    have HN := Lib.hid hnum
    clear hnum hA1
    rcases hr with rfl | rfl
    all_goals
      go_wp2_with fail
      refine HN.out.mono ?_
      rintro e2 w2 ⟨r2, hmem, rfl, hrd2, hbutn⟩
      have hbut2 : But w1.heap.size x w1 w2 := ((But.refl _ _ _).alloc (Nat.le_refl _) _).trans (hbutn.mono (by simp))
      have hcell2 : ∀ o, w2.cell? ⟨w.heap.size, o, none⟩ = _ := fun o => (hbut2.cell (c := w.heap.size) (o := o) hzr1 hne).trans (hcell1 o)
      have hfz2 : ∀ o, w2.frozen? ⟨w.heap.size, o, none⟩ = _ := fun o => (hbut2.frozen (c := w.heap.size) (o := o) hzr1 hne).trans (hfz1 o)
      have hzr2 : w.heap.size < w2.heap.size := Nat.lt_of_lt_of_le hzr1 hbut2.size
      have hxr2 : x < w2.heap.size := Nat.lt_of_lt_of_le hxr1 hbut2.size
      have HB2 := Lib.hid (And.intro hrd2 (HB.out.2.trans (hbut2.mono (by omega))))
      have HM2 := Lib.hid hmem
      clear hrd2 hbut2 hbutn hcell1 hfz1 hmem
      go_wp2_with fail
      refine (IH.out w2 x lo (p + 1 + 1) HB2.out.1 (by omega) hxr2).mono ?_
      rintro e3 w3 ⟨v, q, rfl, ⟨o, n, t, k, a, cap, fs, rfl, hc, hsz, hs, hf⟩, hrd3, hq, hbut3⟩
      have hcell3 : ∀ o, w3.cell? ⟨w.heap.size, o, none⟩ = _ := fun o => (hbut3.cell (c := w.heap.size) (o := o) hzr2 hne).trans (hcell2 o)
      have hfz3 : ∀ o, w3.frozen? ⟨w.heap.size, o, none⟩ = _ := fun o => (hbut3.frozen (c := w.heap.size) (o := o) hzr2 hne).trans (hfz2 o)
      have hzr3 : w.heap.size < w3.heap.size := Nat.lt_of_lt_of_le hzr2 hbut3.size
      have hxr3 : x < w3.heap.size := Nat.lt_of_lt_of_le hxr2 hbut3.size
      have HB3 := Lib.hid (And.intro hc (And.intro hsz (And.intro hs (And.intro hf (And.intro hrd3 (And.intro hq (HB2.out.2.trans (hbut3.mono (by omega)))))))))
      clear hc hsz hs hf hrd3 hbut3 hcell2 hfz2 hq
      go_wp2_with fail
      refine bodyPost_ret (v := .agg #[.int .i64 6, .int .i64 r2, .string ⟨#[]⟩, .slice (some ⟨w3.heap.size, 0, none⟩) 1 1]) (by simp [results, Try.results84, go_sem, hcell3, hfz3, hzr3]) rfl ?_
      obtain ⟨hc, hsz, hs, hf, hrd3, hq, hb3⟩ := HB3.out
      refine end_row (w2 := w3) (q := q) hx hs (hf.mono (by omega)) hc hsz (by omega) (by omega) (nest_node HM2.out) hrd3 (by omega) hb3 hzr3 ?_ (by simp) _
      repeat (first | exact Touch.refl _ _ _ | refine Touch.setCell ?_ (by simp) (by simp) _)
  · -- a group
    have b0 : (r == 0) = false := beq_eq_false_iff_ne.2 (by omega)
    have b1 : (r == 1) = false := beq_eq_false_iff_ne.2 (by omega)
    have b2 : (r == 2) = false := beq_eq_false_iff_ne.2 (by omega)
    have hcell1 := hcell
    have hfz1 := hfz
    have hzr1 := hzr
    have hxr1 := hxr
    clear hcell hfz
    rcases hr with rfl | rfl | rfl
    all_goals
      go_wp2_with fail
      refine (IH.out w1 x lo (p + 1) HB.out.1 (by omega) hxr1).mono ?_
      rintro e2 w2 ⟨v, q, rfl, ⟨o, n, t, k, a, cap, fs, rfl, hc, hsz, hs, hf⟩, hrd2, hq, hbut2⟩
      have hcell2 : ∀ o, w2.cell? ⟨w.heap.size, o, none⟩ = _ := fun o => (hbut2.cell (c := w.heap.size) (o := o) hzr1 hne).trans (hcell1 o)
      have hfz2 : ∀ o, w2.frozen? ⟨w.heap.size, o, none⟩ = _ := fun o => (hbut2.frozen (c := w.heap.size) (o := o) hzr1 hne).trans (hfz1 o)
      have hzr2 : w.heap.size < w2.heap.size := Nat.lt_of_lt_of_le hzr1 hbut2.size
      have hxr2 : x < w2.heap.size := Nat.lt_of_lt_of_le hxr1 hbut2.size
      have HB2 := Lib.hid (And.intro hc (And.intro hsz (And.intro hs (And.intro hf (And.intro hrd2 (And.intro hq (HB.out.2.trans (hbut2.mono (by omega)))))))))
      clear hc hsz hs hf hrd2 hbut2 hcell1 hfz1 hq
      go_wp2_with fail
      refine bodyPost_ret (v := .agg #[.int .i64 8, .int .i64 0, .string ⟨#[]⟩, .slice (some ⟨w2.heap.size, 0, none⟩) 1 1]) (by simp [results, Try.results84, go_sem, hcell2, hfz2, hzr2]) rfl ?_
      obtain ⟨hc, hsz, hs, hf, hrd2, hq, hb2⟩ := HB2.out
      refine end_row (w2 := w2) (q := q) hx hs (hf.mono (by omega)) hc hsz (by omega) (by omega) (by decide) hrd2 (by omega) hb2 hzr2 ?_ (by simp) _
      repeat (first | exact Touch.refl _ _ _ | refine Touch.setCell ?_ (by simp) (by simp) _)
  · -- three documents
    have hcell1 := hcell
    have hfz1 := hfz
    have hzr1 := hzr
    have hxr1 := hxr
    clear hcell hfz
    have hpk := pick w1 x lo (p + 1) 3 HB.out.1 (by omega)
    have HP := Lib.hid hpk
    clear hpk
    go_wp2_with fail
    refine HP.out.mono ?_
    rintro e2 w2 ⟨r3, rfl, hr0, hr1, hrd2, hbut2⟩
    have hcell2 : ∀ o, w2.cell? ⟨w.heap.size, o, none⟩ = _ := fun o => (hbut2.cell (c := w.heap.size) (o := o) hzr1 hne).trans (hcell1 o)
    have hfz2 : ∀ o, w2.frozen? ⟨w.heap.size, o, none⟩ = _ := fun o => (hbut2.frozen (c := w.heap.size) (o := o) hzr1 hne).trans (hfz1 o)
    have hzr2 : w.heap.size < w2.heap.size := Nat.lt_of_lt_of_le hzr1 hbut2.size
    have hxr2 : x < w2.heap.size := Nat.lt_of_lt_of_le hxr1 hbut2.size
    have HB2 := Lib.hid (And.intro hrd2 (HB.out.2.trans (hbut2.mono (by omega))))
    clear hrd2 hbut2 hcell1 hfz1
    have hc3 : r3 = 0 ∨ (r3 = 1 ∨ r3 = 2) := by omega
    clear hr0 hr1
    have hl01 : w.heap.size + 1 ≤ w2.heap.size := by omega
    rcases hc3 with rfl | hr3
    · go_wp2_with fail
      refine (IH.out w2 x lo (p + 1 + 1) HB2.out.1 (by omega) hxr2).mono ?_
      rintro e3 w3 ⟨v1, q, rfl, hmade, hrd3, hq, hbut3⟩
      have hcell3 : ∀ o, w3.cell? ⟨w.heap.size, o, none⟩ = _ := fun o => (hbut3.cell (c := w.heap.size) (o := o) hzr2 hne).trans (hcell2 o)
      have hfz3 : ∀ o, w3.frozen? ⟨w.heap.size, o, none⟩ = _ := fun o => (hbut3.frozen (c := w.heap.size) (o := o) hzr2 hne).trans (hfz2 o)
      have hzr3 : w.heap.size < w3.heap.size := Nat.lt_of_lt_of_le hzr2 hbut3.size
      have hxr3 : x < w3.heap.size := Nat.lt_of_lt_of_le hxr2 hbut3.size
      have HB3 := Lib.hid (And.intro (MadeIn.of hmade) (And.intro hrd3 (And.intro hq (And.intro (HB2.out.2.trans (hbut3.mono (by omega))) hbut3))))
      have hq3 : q + 2 ≤ 1073741824 := by omega
      clear hmade hrd3 hbut3 hcell2 hfz2 hq
      go_wp2_with fail
      refine (some0 w3 x lo q HB3.out.2.1 hq3 hxr3).mono ?_
      rintro e4 w4 ⟨v2, q', rfl, hmade, hrd4, hq', hbut4⟩
      have hcell4 : ∀ o, w4.cell? ⟨w.heap.size, o, none⟩ = _ := fun o => (hbut4.cell (c := w.heap.size) (o := o) hzr3 hne).trans (hcell3 o)
      have hfz4 : ∀ o, w4.frozen? ⟨w.heap.size, o, none⟩ = _ := fun o => (hbut4.frozen (c := w.heap.size) (o := o) hzr3 hne).trans (hfz3 o)
      have hzr4 : w.heap.size < w4.heap.size := Nat.lt_of_lt_of_le hzr3 hbut4.size
      have hxr4 : x < w4.heap.size := Nat.lt_of_lt_of_le hxr3 hbut4.size
      have hl23 : w2.heap.size ≤ w3.heap.size := HB3.out.2.2.2.2.size
      have hl34 : w3.heap.size ≤ w4.heap.size := hbut4.size
      have HB4 := Lib.hid (And.intro (HB3.out.1.but (B := w3.heap.size) (by omega) (Nat.le_refl _) hbut4) (And.intro (MadeIn.of hmade) (And.intro hrd4 (And.intro (show q' ≤ p + (2 * D + 4) by have := HB3.out.2.2.1; omega) (HB3.out.2.2.2.1.trans (hbut4.mono (by omega)))))))
      clear hmade hrd4 hbut4 hcell3 hfz3 hq'
      go_wp2_with fail
      refine (cat_made w4 (lo := w3.heap.size) (m := w3.heap.size) (s1 := 0) (MadeIn.leaf w4 _ _ 5 0 ⟨#[]⟩ 0 (by decide) 0 (by decide)) HB4.out.2.1 (Nat.le_refl _) hl34 (Nat.le_refl _)).mono ?_
      rintro e5 w5 ⟨v3, rfl, hm5, hbel5⟩
      have hbut5 : But w4.heap.size x w4 w5 := But.of_below hbel5
      have hcell5 : ∀ o, w5.cell? ⟨w.heap.size, o, none⟩ = _ := fun o => (hbut5.cell (c := w.heap.size) (o := o) hzr4 hne).trans (hcell4 o)
      have hfz5 : ∀ o, w5.frozen? ⟨w.heap.size, o, none⟩ = _ := fun o => (hbut5.frozen (c := w.heap.size) (o := o) hzr4 hne).trans (hfz4 o)
      have hzr5 : w.heap.size < w5.heap.size := Nat.lt_of_lt_of_le hzr4 hbut5.size
      have hxr5 : x < w5.heap.size := Nat.lt_of_lt_of_le hxr4 hbut5.size
      have hl45 : w4.heap.size ≤ w5.heap.size := hbut5.size
      have HB5 := Lib.hid (And.intro (HB4.out.1.but (B := w4.heap.size) (by omega) hl34 hbut5) (And.intro hm5 (And.intro (rdBelow HB4.out.2.2.1 hxr4 hbel5) (HB4.out.2.2.2.2.trans (hbut5.mono (by omega))))))
      clear hm5 hbel5 hbut5 hcell4 hfz4
      go_wp2_with fail
      refine (cat_made w5 HB5.out.1 HB5.out.2.1 hl23 (by omega) (Nat.le_refl _)).mono ?_
      rintro e6 w6 ⟨v4, rfl, hm6, hbel⟩
      have hbut6 : But w5.heap.size x w5 w6 := But.of_below hbel
      have hcell6 : ∀ o, w6.cell? ⟨w.heap.size, o, none⟩ = _ := fun o => (hbut6.cell (c := w.heap.size) (o := o) hzr5 hne).trans (hcell5 o)
      have hfz6 : ∀ o, w6.frozen? ⟨w.heap.size, o, none⟩ = _ := fun o => (hbut6.frozen (c := w.heap.size) (o := o) hzr5 hne).trans (hfz5 o)
      have hzr6 : w.heap.size < w6.heap.size := Nat.lt_of_lt_of_le hzr5 hbut6.size
      have hxr6 : x < w6.heap.size := Nat.lt_of_lt_of_le hxr5 hbut6.size
      have HB6 := Lib.hid (And.intro (madeMono hm6.made hl01 (show S + (0 + 8 + 2) + 2 ≤ 2 * S + 12 by omega) (show max (2 * d) (max 0 0 + 1) + 1 ≤ 2 * (d + 1) by omega)) (And.intro (rdBelow HB5.out.2.2.1 hxr5 hbel) (HB5.out.2.2.2.trans (hbut6.mono (by omega)))))
      obtain ⟨o, n, t, k, a, cap, fs, rfl, _⟩ := hm6
      clear hbel hbut6 hcell5 hfz5
      go_wp2_with fail
      refine bodyPost_ret (v := .agg #[.int .i64 o, .int .i64 n, .string t, .slice a k.len cap]) (by simp [results, Try.results84, go_sem, hcell6, hfz6, hzr6]) rfl ?_
      refine end_of (w1 := w6) (q := q') hx HB6.out.1 HB6.out.2.1 HB4.out.2.2.2.1 HB6.out.2.2 ?_
      repeat (first | exact Touch.refl _ _ _ | refine Touch.setCell ?_ (by simp) (by simp) _)
    · have b0 : (r3 == 0) = false := beq_eq_false_iff_ne.2 (by omega)
      clear hr3
      go_wp2_with fail
      refine (IH.out w2 x lo (p + 1 + 1) HB2.out.1 (by omega) hxr2).mono ?_
      rintro e3 w3 ⟨v1, q, rfl, hmade, hrd3, hq, hbut3⟩
      have hcell3 : ∀ o, w3.cell? ⟨w.heap.size, o, none⟩ = _ := fun o => (hbut3.cell (c := w.heap.size) (o := o) hzr2 hne).trans (hcell2 o)
      have hfz3 : ∀ o, w3.frozen? ⟨w.heap.size, o, none⟩ = _ := fun o => (hbut3.frozen (c := w.heap.size) (o := o) hzr2 hne).trans (hfz2 o)
      have hzr3 : w.heap.size < w3.heap.size := Nat.lt_of_lt_of_le hzr2 hbut3.size
      have hxr3 : x < w3.heap.size := Nat.lt_of_lt_of_le hxr2 hbut3.size
      have HB3 := Lib.hid (And.intro (MadeIn.of hmade) (And.intro hrd3 (And.intro hq (And.intro (HB2.out.2.trans (hbut3.mono (by omega))) hbut3))))
      have hq3 : q + 2 ≤ 1073741824 := by omega
      clear hmade hrd3 hbut3 hcell2 hfz2 hq
      go_wp2_with fail
      refine (some0 w3 x lo q HB3.out.2.1 hq3 hxr3).mono ?_
      rintro e4 w4 ⟨v2, q', rfl, hmade, hrd4, hq', hbut4⟩
      have hcell4 : ∀ o, w4.cell? ⟨w.heap.size, o, none⟩ = _ := fun o => (hbut4.cell (c := w.heap.size) (o := o) hzr3 hne).trans (hcell3 o)
      have hfz4 : ∀ o, w4.frozen? ⟨w.heap.size, o, none⟩ = _ := fun o => (hbut4.frozen (c := w.heap.size) (o := o) hzr3 hne).trans (hfz3 o)
      have hzr4 : w.heap.size < w4.heap.size := Nat.lt_of_lt_of_le hzr3 hbut4.size
      have hxr4 : x < w4.heap.size := Nat.lt_of_lt_of_le hxr3 hbut4.size
      have hl23 : w2.heap.size ≤ w3.heap.size := HB3.out.2.2.2.2.size
      have hl34 : w3.heap.size ≤ w4.heap.size := hbut4.size
      have HB4 := Lib.hid (And.intro (HB3.out.1.but (B := w3.heap.size) (by omega) (Nat.le_refl _) hbut4) (And.intro (MadeIn.of hmade) (And.intro hrd4 (And.intro (show q' ≤ p + (2 * D + 4) by have := HB3.out.2.2.1; omega) (HB3.out.2.2.2.1.trans (hbut4.mono (by omega)))))))
      clear hmade hrd4 hbut4 hcell3 hfz3 hq'
      go_wp2_with fail
      refine (cat_made w4 (lo := w3.heap.size) (m := w3.heap.size) (s1 := 0) (MadeIn.leaf w4 _ _ 3 0 ⟨#[]⟩ 0 (by decide) 0 (by decide)) HB4.out.2.1 (Nat.le_refl _) hl34 (Nat.le_refl _)).mono ?_
      rintro e5 w5 ⟨v3, rfl, hm5, hbel5⟩
      have hbut5 : But w4.heap.size x w4 w5 := But.of_below hbel5
      have hcell5 : ∀ o, w5.cell? ⟨w.heap.size, o, none⟩ = _ := fun o => (hbut5.cell (c := w.heap.size) (o := o) hzr4 hne).trans (hcell4 o)
      have hfz5 : ∀ o, w5.frozen? ⟨w.heap.size, o, none⟩ = _ := fun o => (hbut5.frozen (c := w.heap.size) (o := o) hzr4 hne).trans (hfz4 o)
      have hzr5 : w.heap.size < w5.heap.size := Nat.lt_of_lt_of_le hzr4 hbut5.size
      have hxr5 : x < w5.heap.size := Nat.lt_of_lt_of_le hxr4 hbut5.size
      have hl45 : w4.heap.size ≤ w5.heap.size := hbut5.size
      have HB5 := Lib.hid (And.intro (HB4.out.1.but (B := w4.heap.size) (by omega) hl34 hbut5) (And.intro hm5 (And.intro (rdBelow HB4.out.2.2.1 hxr4 hbel5) (HB4.out.2.2.2.2.trans (hbut5.mono (by omega))))))
      clear hm5 hbel5 hbut5 hcell4 hfz4
      go_wp2_with fail
      refine (cat_made w5 HB5.out.1 HB5.out.2.1 hl23 (by omega) (Nat.le_refl _)).mono ?_
      rintro e6 w6 ⟨v4, rfl, hm6, hbel⟩
      have hbut6 : But w5.heap.size x w5 w6 := But.of_below hbel
      have hcell6 : ∀ o, w6.cell? ⟨w.heap.size, o, none⟩ = _ := fun o => (hbut6.cell (c := w.heap.size) (o := o) hzr5 hne).trans (hcell5 o)
      have hfz6 : ∀ o, w6.frozen? ⟨w.heap.size, o, none⟩ = _ := fun o => (hbut6.frozen (c := w.heap.size) (o := o) hzr5 hne).trans (hfz5 o)
      have hzr6 : w.heap.size < w6.heap.size := Nat.lt_of_lt_of_le hzr5 hbut6.size
      have hxr6 : x < w6.heap.size := Nat.lt_of_lt_of_le hxr5 hbut6.size
      have HB6 := Lib.hid (And.intro (madeMono hm6.made hl01 (show S + (0 + 8 + 2) + 2 ≤ 2 * S + 12 by omega) (show max (2 * d) (max 0 0 + 1) + 1 ≤ 2 * (d + 1) by omega)) (And.intro (rdBelow HB5.out.2.2.1 hxr5 hbel) (HB5.out.2.2.2.trans (hbut6.mono (by omega)))))
      obtain ⟨o, n, t, k, a, cap, fs, rfl, _⟩ := hm6
      clear hbel hbut6 hcell5 hfz5
      go_wp2_with fail
      refine bodyPost_ret (v := .agg #[.int .i64 o, .int .i64 n, .string t, .slice a k.len cap]) (by simp [results, Try.results84, go_sem, hcell6, hfz6, hzr6]) rfl ?_
      refine end_of (w1 := w6) (q := q') hx HB6.out.1 HB6.out.2.1 HB4.out.2.2.2.1 HB6.out.2.2 ?_
      repeat (first | exact Touch.refl _ _ _ | refine Touch.setCell ?_ (by simp) (by simp) _)

  · -- two documents
    have b0 : (r == 0) = false := beq_eq_false_iff_ne.2 (by omega)
    have b1 : (r == 1) = false := beq_eq_false_iff_ne.2 (by omega)
    have b2 : (r == 2) = false := beq_eq_false_iff_ne.2 (by omega)
    have b3 : (r == 3) = false := beq_eq_false_iff_ne.2 (by omega)
    have b4 : (r == 4) = false := beq_eq_false_iff_ne.2 (by omega)
    have b5 : (r == 5) = false := beq_eq_false_iff_ne.2 (by omega)
    have b6 : (r == 6) = false := beq_eq_false_iff_ne.2 (by omega)
    clear hr4 hr8
    have hcell1 := hcell
    have hfz1 := hfz
    have hzr1 := hzr
    have hxr1 := hxr
    clear hcell hfz
    go_wp2_with fail
    clear b0 b1 b2 b3 b4 b5 b6
    refine (IH.out w1 x lo (p + 1) HB.out.1 (by omega) hxr1).mono ?_
    rintro e2 w2 ⟨v1, q, rfl, hmade, hrd2, hq, hbut2⟩
    have hcell2 : ∀ o, w2.cell? ⟨w.heap.size, o, none⟩ = _ := fun o => (hbut2.cell (c := w.heap.size) (o := o) hzr1 hne).trans (hcell1 o)
    have hfz2 : ∀ o, w2.frozen? ⟨w.heap.size, o, none⟩ = _ := fun o => (hbut2.frozen (c := w.heap.size) (o := o) hzr1 hne).trans (hfz1 o)
    have hzr2 : w.heap.size < w2.heap.size := Nat.lt_of_lt_of_le hzr1 hbut2.size
    have hxr2 : x < w2.heap.size := Nat.lt_of_lt_of_le hxr1 hbut2.size
    have HB2 := Lib.hid (And.intro (MadeIn.of hmade) (And.intro hrd2 (And.intro hq (And.intro (HB.out.2.trans (hbut2.mono (by omega))) hbut2))))
    have hq2 : q + D ≤ 1073741824 := by omega
    clear hmade hrd2 hbut2 hcell1 hfz1 hq
    go_wp2_with fail
    refine (IH.out w2 x lo q HB2.out.2.1 hq2 hxr2).mono ?_
    rintro e3 w3 ⟨v2, q', rfl, hmade, hrd3, hq', hbut3⟩
    have hcell3 : ∀ o, w3.cell? ⟨w.heap.size, o, none⟩ = _ := fun o => (hbut3.cell (c := w.heap.size) (o := o) hzr2 hne).trans (hcell2 o)
    have hfz3 : ∀ o, w3.frozen? ⟨w.heap.size, o, none⟩ = _ := fun o => (hbut3.frozen (c := w.heap.size) (o := o) hzr2 hne).trans (hfz2 o)
    have hzr3 : w.heap.size < w3.heap.size := Nat.lt_of_lt_of_le hzr2 hbut3.size
    have hxr3 : x < w3.heap.size := Nat.lt_of_lt_of_le hxr2 hbut3.size
    have hl12 : w1.heap.size ≤ w2.heap.size := HB2.out.2.2.2.2.size
    have hl23 : w2.heap.size ≤ w3.heap.size := hbut3.size
    have HB3 := Lib.hid (And.intro (HB2.out.1.but (B := w2.heap.size) (by omega) (Nat.le_refl _) hbut3) (And.intro (MadeIn.of hmade) (And.intro hrd3 (And.intro (show q' ≤ p + (2 * D + 4) by have := HB2.out.2.2.1; omega) (HB2.out.2.2.2.1.trans (hbut3.mono (by omega)))))))
    clear hmade hrd3 hbut3 hcell2 hfz2 hq'
    go_wp2_with fail
    refine (cat_made w3 HB3.out.1 HB3.out.2.1 hl12 hl23 (Nat.le_refl _)).mono ?_
    rintro e4 w4 ⟨v4, rfl, hm4, hbel⟩
    have hbut4 : But w3.heap.size x w3 w4 := But.of_below hbel
    have hcell4 : ∀ o, w4.cell? ⟨w.heap.size, o, none⟩ = _ := fun o => (hbut4.cell (c := w.heap.size) (o := o) hzr3 hne).trans (hcell3 o)
    have hfz4 : ∀ o, w4.frozen? ⟨w.heap.size, o, none⟩ = _ := fun o => (hbut4.frozen (c := w.heap.size) (o := o) hzr3 hne).trans (hfz3 o)
    have hzr4 : w.heap.size < w4.heap.size := Nat.lt_of_lt_of_le hzr3 hbut4.size
    have hxr4 : x < w4.heap.size := Nat.lt_of_lt_of_le hxr3 hbut4.size
    have HB4 := Lib.hid (And.intro (madeMono hm4.made (show w.heap.size + 1 ≤ w1.heap.size by omega) (show S + S + 2 ≤ 2 * S + 12 by omega) (show max (2 * d) (2 * d) + 1 ≤ 2 * (d + 1) by omega)) (And.intro (rdBelow HB3.out.2.2.1 hxr3 hbel) (HB3.out.2.2.2.2.trans (hbut4.mono (by omega)))))
    obtain ⟨o, n, t, k, a, cap, fs, rfl, _⟩ := hm4
    clear hbel hbut4 hcell3 hfz3 hl12 hl23
    go_wp2_with fail
    refine bodyPost_ret (v := .agg #[.int .i64 o, .int .i64 n, .string t, .slice a k.len cap]) (by simp [results, Try.results84, go_sem, hcell4, hfz4, hzr4]) rfl ?_
    refine end_of (w1 := w4) (q := q') hx HB4.out.1 HB4.out.2.1 HB3.out.2.2.2.1 HB4.out.2.2 ?_
    repeat (first | exact Touch.refl _ _ _ | refine Touch.setCell ?_ (by simp) (by simp) _)

/-- The contract of l1Some, at every depth up to ten. -/
theorem someS : ∀ d : Nat, d ≤ 10 → SomeS d
  | 0, _ => zeroS
  | d + 1, h => fun w x lo p h1 h2 h3 => by
    have := succS d (someS d (by omega)) (by omega) w x lo p h1 h2 h3
    rwa [show ((d : Int) + 1) = ((d + 1 : Nat) : Int) by omega] at this

end Go.Proofs.Ytjpgnhpfmdjamaa.DrC
