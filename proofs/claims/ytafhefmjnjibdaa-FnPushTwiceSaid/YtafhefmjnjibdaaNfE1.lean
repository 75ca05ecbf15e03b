import Derived.Test.YtafhefmjnjibdaaNfW
/-
  DropEmpty of the program: the rule, the pass, the function.
-/
set_option linter.unusedVariables false
set_option linter.unusedSimpArgs false
namespace Go.Proofs.Ytafhefmjnjibdaa.Nf
open Go.RowKit P1 Copy CatD

theorem Fresh.left {lo : Nat} {w : World} {f1 f2 : List Nat} (h : Fresh lo w (f1 ++ f2)) : Fresh lo w f1 := ⟨(List.nodup_append.1 h.1).1, fun c hc => h.2 c (List.mem_append_left _ hc)⟩
theorem Fresh.right {lo : Nat} {w : World} {f1 f2 : List Nat} (h : Fresh lo w (f1 ++ f2)) : Fresh lo w f2 := ⟨(List.nodup_append.1 h.1).2.1, fun c hc => h.2 c (List.mem_append_right _ hc)⟩
theorem Fresh.tail {lo b : Nat} {w : World} {fs : List Nat} (h : Fresh lo w (b :: fs)) : Fresh lo w fs := ⟨(List.nodup_cons.1 h.1).2, fun c hc => h.2 c (List.mem_cons_of_mem _ hc)⟩

/-- the first document of a list, and what is behind it -/
theorem row_first {w : World} {b off : Nat} {o n : Int} {t : ByteArray} {k r : F} {fs : List Nat} {lo : Nat} (h : RowAt w (.cons o n t k r) b off fs) (hF : Fresh lo w fs) :
    ∃ (a : Option Addr) (cap : Nat) (f1 f2 : List Nat), w.cell? ⟨b, off, none⟩ = some (.int .i64 o) ∧ w.cell? ⟨b, off + 1, none⟩ = some (.int .i64 n) ∧ w.cell? ⟨b, off + 2, none⟩ = some (.string t) ∧ w.cell? ⟨b, off + 3, none⟩ = some (.slice a k.len cap) ∧ k.len ≤ cap ∧
      SubAt w a k f1 ∧ Fresh lo w f1 ∧ RowAt w r b (off + 4) f2 ∧ Fresh lo w f2 := by
  obtain ⟨a, cap, f1, f2, h0, h1, h2, h3, h4, h5, h6, rfl⟩ := RowAt.cons_iff.1 h
  exact ⟨a, cap, f1, f2, h0, h1, h2, h3, h4, h5, Fresh.left hF, h6, Fresh.right hF⟩
theorem sub_row {w : World} {a : Option Addr} {o n : Int} {t : ByteArray} {k r : F} {fs : List Nat} {lo : Nat} (h : SubAt w a (.cons o n t k r) fs) (hF : Fresh lo w fs) :
    ∃ (b off : Nat) (f' : List Nat), a = some ⟨b, off, none⟩ ∧ b < w.heap.size ∧ RowAt w (.cons o n t k r) b off f' ∧ Fresh lo w f' := by
  rcases h with ⟨h, _⟩ | ⟨b, off, f', rfl, _, rfl, h⟩
  · cases h
  · exact ⟨b, off, f', rfl, hF.lt b (by simp), h, Fresh.tail hF⟩

theorem rule_end {lo : Nat} {W w4 : World} {d : D} {a : Option Addr} {cap : Nat} {fs : List Nat} (hb : Below W.heap.size W w4) (hs : SubAt W a d.2.2.2 fs) (hF : Fresh lo W fs) (hc : d.2.2.2.len ≤ cap) :
    RuleOut lo W d (.returned (aggD d a cap)) w4 :=
  ⟨a, cap, fs, rfl, hc, hs.below hF.lt hb, hF.below hF.lt hb, hb⟩

theorem em_keep (o n : Int) (t : ByteArray) (k : F) (h : niceD (o, n, t, k) = true) : niceD (emR o n t k) = true ∧ (emR o n t k).2.2.2.cnt ≤ k.cnt := by
  have hn := (nice_kids h).2
  by_cases h7 : o = 7
  · obtain ⟨a, b, rfl⟩ := kids_two h h7
    rw [nice_consD, nice_consD] at hn
    simp only [Bool.and_eq_true] at hn
    unfold emR
    split
    · exact ⟨hn.2.1, by show b.2.2.2.cnt ≤ 1 + a.2.2.2.cnt + (1 + b.2.2.2.cnt + 0); omega⟩
    · split
      · exact ⟨hn.1, by show a.2.2.2.cnt ≤ 1 + a.2.2.2.cnt + (1 + b.2.2.2.cnt + 0); omega⟩
      · split
        · exact ⟨hn.1, by show a.2.2.2.cnt ≤ 1 + a.2.2.2.cnt + (1 + b.2.2.2.cnt + 0); omega⟩
        · exact ⟨h, Nat.le_refl _⟩
  · unfold emR
    rw [if_neg (by simp [h7]), if_neg (by simp [h7])]
    split
    · rename_i hq
      obtain ⟨a, rfl⟩ := kids_one h hq.1
      rw [nice_consD] at hn
      simp only [Bool.and_eq_true] at hn
      exact ⟨hn.1, by show a.2.2.2.cnt ≤ 1 + a.2.2.2.cnt + 0; omega⟩
    · exact ⟨h, Nat.le_refl _⟩

set_option maxRecDepth 100000 in
set_option maxHeartbeats 1600000 in
theorem wo_c1 (lo : Nat) (W : World) (d1 d2 : D) (n : Int) (t : ByteArray) (a : Option Addr) (cap : Nat) (fs : List Nat) (H1 : d1.1 = 1) (hs : SubAt W a (consD d1 (consD d2 .nil)) fs) (hF : Fresh lo W fs) (hc : ((consD d1 (consD d2 .nil))).len ≤ cap) :
    Calls Try.prog 92 #[.agg #[.int .i64 7, .int .i64 n, .string t, .slice a ((consD d1 (consD d2 .nil))).len cap]] W (RuleOut lo W (d2)) := by
  obtain ⟨o1, n1, t1, k1⟩ := d1
  obtain ⟨o2, n2, t2, k2⟩ := d2
  simp only [consD] at hs hc H1 ⊢
  have hl2 : (F.cons o1 n1 t1 k1 (.cons o2 n2 t2 k2 .nil)).len = 2 := rfl
  rw [hl2] at hc ⊢
  have HS0 := Lib.hid (And.intro hs hF)
  obtain ⟨b, off, f', rfl, hb, hrow, hF'⟩ := sub_row hs hF
  obtain ⟨a1, c1, f1, f2, x0, x1, x2, x3, x4, hs1, hF1, hr2, hF2⟩ := row_first hrow hF'
  obtain ⟨a2, c2, f3, f4, y0, y1, y2, y3, y4, hs2, hF3, hr4, hF4⟩ := row_first hr2 hF2
  obtain ⟨L1, hL1⟩ : ∃ L, k1.len = L := ⟨_, rfl⟩
  obtain ⟨L2, hL2⟩ : ∃ L, k2.len = L := ⟨_, rfl⟩
  rw [hL1] at x3
  rw [hL2] at y3
  have HQ := Lib.hid (And.intro hs1 (And.intro hF1 (And.intro x4 (And.intro hs2 (And.intro hF3 (And.intro y4 (And.intro hL1 hL2)))))))
  clear hs hF hrow hF' hs1 hF1 hr2 hF2 hs2 hF3 hr4 hF4 x4 y4 hL1 hL2
  have q1 : (o1 == 1) = true := by rw [beq_iff_eq]; exact H1
  go_enter Try.func92, Try.ntmps92
  go_wp2_with fail
  refine bodyPost_ret (v := .agg #[.int .i64 o2, .int .i64 n2, .string t2, .slice a2 L2 c2]) (by simp [results, Try.results92, go_sem]) rfl ?_
  obtain ⟨_, _, _, hs2, hF3, y4, _, hL2⟩ := HQ.out
  rw [← hL2]
  exact rule_end (d := (o2, n2, t2, k2)) (by repeat (first | exact Below.refl _ _ | refine Below.alloc ?_ (by simp) _ | refine Below.setCell ?_ (by simp) _)) hs2 hF3 y4

set_option maxRecDepth 100000 in
set_option maxHeartbeats 1600000 in
theorem wo_c2 (lo : Nat) (W : World) (d1 d2 : D) (n : Int) (t : ByteArray) (a : Option Addr) (cap : Nat) (fs : List Nat) (H1 : d1.1 ≠ 1) (H2 : d2.1 = 1) (hs : SubAt W a (consD d1 (consD d2 .nil)) fs) (hF : Fresh lo W fs) (hc : ((consD d1 (consD d2 .nil))).len ≤ cap) :
    Calls Try.prog 92 #[.agg #[.int .i64 7, .int .i64 n, .string t, .slice a ((consD d1 (consD d2 .nil))).len cap]] W (RuleOut lo W (d1)) := by
  obtain ⟨o1, n1, t1, k1⟩ := d1
  obtain ⟨o2, n2, t2, k2⟩ := d2
  simp only [consD] at hs hc H1 H2 ⊢
  have hl2 : (F.cons o1 n1 t1 k1 (.cons o2 n2 t2 k2 .nil)).len = 2 := rfl
  rw [hl2] at hc ⊢
  have HS0 := Lib.hid (And.intro hs hF)
  obtain ⟨b, off, f', rfl, hb, hrow, hF'⟩ := sub_row hs hF
  obtain ⟨a1, c1, f1, f2, x0, x1, x2, x3, x4, hs1, hF1, hr2, hF2⟩ := row_first hrow hF'
  obtain ⟨a2, c2, f3, f4, y0, y1, y2, y3, y4, hs2, hF3, hr4, hF4⟩ := row_first hr2 hF2
  obtain ⟨L1, hL1⟩ : ∃ L, k1.len = L := ⟨_, rfl⟩
  obtain ⟨L2, hL2⟩ : ∃ L, k2.len = L := ⟨_, rfl⟩
  rw [hL1] at x3
  rw [hL2] at y3
  have HQ := Lib.hid (And.intro hs1 (And.intro hF1 (And.intro x4 (And.intro hs2 (And.intro hF3 (And.intro y4 (And.intro hL1 hL2)))))))
  clear hs hF hrow hF' hs1 hF1 hr2 hF2 hs2 hF3 hr4 hF4 x4 y4 hL1 hL2
  have q1 : (o1 == 1) = false := by rw [beq_eq_false_iff_ne]; exact H1
  have q2 : (o2 == 1) = true := by rw [beq_iff_eq]; exact H2
  go_enter Try.func92, Try.ntmps92
  go_wp2_with fail
  refine bodyPost_ret (v := .agg #[.int .i64 o1, .int .i64 n1, .string t1, .slice a1 L1 c1]) (by simp [results, Try.results92, go_sem]) rfl ?_
  obtain ⟨hs1, hF1, x4, _, _, _, hL1, _⟩ := HQ.out
  rw [← hL1]
  exact rule_end (d := (o1, n1, t1, k1)) (by repeat (first | exact Below.refl _ _ | refine Below.alloc ?_ (by simp) _ | refine Below.setCell ?_ (by simp) _)) hs1 hF1 x4

set_option maxRecDepth 100000 in
set_option maxHeartbeats 1600000 in
theorem wo_c3 (lo : Nat) (W : World) (d1 d2 : D) (n : Int) (t : ByteArray) (a : Option Addr) (cap : Nat) (fs : List Nat) (H1 : d1.1 ≠ 1) (H2 : d2.1 ≠ 1) (hs : SubAt W a (consD d1 (consD d2 .nil)) fs) (hF : Fresh lo W fs) (hc : ((consD d1 (consD d2 .nil))).len ≤ cap) :
    Calls Try.prog 92 #[.agg #[.int .i64 7, .int .i64 n, .string t, .slice a ((consD d1 (consD d2 .nil))).len cap]] W (RuleOut lo W (7, n, t, (consD d1 (consD d2 .nil)))) := by
  obtain ⟨o1, n1, t1, k1⟩ := d1
  obtain ⟨o2, n2, t2, k2⟩ := d2
  simp only [consD] at hs hc H1 H2 ⊢
  have hl2 : (F.cons o1 n1 t1 k1 (.cons o2 n2 t2 k2 .nil)).len = 2 := rfl
  rw [hl2] at hc ⊢
  have HS0 := Lib.hid (And.intro hs hF)
  obtain ⟨b, off, f', rfl, hb, hrow, hF'⟩ := sub_row hs hF
  obtain ⟨a1, c1, f1, f2, x0, x1, x2, x3, x4, hs1, hF1, hr2, hF2⟩ := row_first hrow hF'
  obtain ⟨a2, c2, f3, f4, y0, y1, y2, y3, y4, hs2, hF3, hr4, hF4⟩ := row_first hr2 hF2
  obtain ⟨L1, hL1⟩ : ∃ L, k1.len = L := ⟨_, rfl⟩
  obtain ⟨L2, hL2⟩ : ∃ L, k2.len = L := ⟨_, rfl⟩
  rw [hL1] at x3
  rw [hL2] at y3
  have HQ := Lib.hid (And.intro hs1 (And.intro hF1 (And.intro x4 (And.intro hs2 (And.intro hF3 (And.intro y4 (And.intro hL1 hL2)))))))
  clear hs hF hrow hF' hs1 hF1 hr2 hF2 hs2 hF3 hr4 hF4 x4 y4 hL1 hL2
  have q1 : (o1 == 1) = false := by rw [beq_eq_false_iff_ne]; exact H1
  have q2 : (o2 == 1) = false := by rw [beq_eq_false_iff_ne]; exact H2
  go_enter Try.func92, Try.ntmps92
  go_wp2_with fail
  refine bodyPost_ret (v := .agg #[.int .i64 7, .int .i64 n, .string t, .slice (some ⟨b, off, none⟩) 2 cap]) (by simp [results, Try.results92, go_sem]) rfl ?_
  exact rule_end (d := (7, n, t, .cons o1 n1 t1 k1 (.cons o2 n2 t2 k2 .nil))) (by repeat (first | exact Below.refl _ _ | refine Below.alloc ?_ (by simp) _ | refine Below.setCell ?_ (by simp) _)) HS0.out.1 HS0.out.2 hc

set_option maxRecDepth 100000 in
set_option maxHeartbeats 1600000 in
theorem wo_d6 (lo : Nat) (W : World) (d1 : D) (n : Int) (t : ByteArray) (a : Option Addr) (cap : Nat) (fs : List Nat) (H1 : d1.1 = 1) (hs : SubAt W a (consD d1 .nil) fs) (hF : Fresh lo W fs) (hc : ((consD d1 .nil)).len ≤ cap) :
    Calls Try.prog 92 #[.agg #[.int .i64 6, .int .i64 n, .string t, .slice a ((consD d1 .nil)).len cap]] W (RuleOut lo W (d1)) := by
  obtain ⟨o1, n1, t1, k1⟩ := d1
  simp only [consD] at hs hc H1 ⊢
  have hl2 : (F.cons o1 n1 t1 k1 .nil).len = 1 := rfl
  rw [hl2] at hc ⊢
  have HS0 := Lib.hid (And.intro hs hF)
  obtain ⟨b, off, f', rfl, hb, hrow, hF'⟩ := sub_row hs hF
  obtain ⟨a1, c1, f1, f2, x0, x1, x2, x3, x4, hs1, hF1, hr2, hF2⟩ := row_first hrow hF'
  obtain ⟨L1, hL1⟩ : ∃ L, k1.len = L := ⟨_, rfl⟩
  rw [hL1] at x3
  have HQ := Lib.hid (And.intro hs1 (And.intro hF1 (And.intro x4 hL1)))
  clear hs hF hrow hF' hs1 hF1 hr2 hF2 x4 hL1
  have q1 : (o1 == 1) = true := by rw [beq_iff_eq]; exact H1
  go_enter Try.func92, Try.ntmps92
  go_wp2_with fail
  refine bodyPost_ret (v := .agg #[.int .i64 o1, .int .i64 n1, .string t1, .slice a1 L1 c1]) (by simp [results, Try.results92, go_sem, show o1 = 1 from H1]) rfl ?_
  obtain ⟨hs1, hF1, x4, hL1⟩ := HQ.out
  rw [← hL1]
  exact rule_end (d := (o1, n1, t1, k1)) (by repeat (first | exact Below.refl _ _ | refine Below.alloc ?_ (by simp) _ | refine Below.setCell ?_ (by simp) _)) hs1 hF1 x4

set_option maxRecDepth 100000 in
set_option maxHeartbeats 1600000 in
theorem wo_e6 (lo : Nat) (W : World) (d1 : D) (n : Int) (t : ByteArray) (a : Option Addr) (cap : Nat) (fs : List Nat) (H1 : d1.1 ≠ 1) (hs : SubAt W a (consD d1 .nil) fs) (hF : Fresh lo W fs) (hc : ((consD d1 .nil)).len ≤ cap) :
    Calls Try.prog 92 #[.agg #[.int .i64 6, .int .i64 n, .string t, .slice a ((consD d1 .nil)).len cap]] W (RuleOut lo W (6, n, t, (consD d1 .nil))) := by
  obtain ⟨o1, n1, t1, k1⟩ := d1
  simp only [consD] at hs hc H1 ⊢
  have hl2 : (F.cons o1 n1 t1 k1 .nil).len = 1 := rfl
  rw [hl2] at hc ⊢
  have HS0 := Lib.hid (And.intro hs hF)
  obtain ⟨b, off, f', rfl, hb, hrow, hF'⟩ := sub_row hs hF
  obtain ⟨a1, c1, f1, f2, x0, x1, x2, x3, x4, hs1, hF1, hr2, hF2⟩ := row_first hrow hF'
  obtain ⟨L1, hL1⟩ : ∃ L, k1.len = L := ⟨_, rfl⟩
  rw [hL1] at x3
  have HQ := Lib.hid (And.intro hs1 (And.intro hF1 (And.intro x4 hL1)))
  clear hs hF hrow hF' hs1 hF1 hr2 hF2 x4 hL1
  have q1 : (o1 == 1) = false := by rw [beq_eq_false_iff_ne]; exact H1
  go_enter Try.func92, Try.ntmps92
  go_wp2_with fail
  refine bodyPost_ret (v := .agg #[.int .i64 6, .int .i64 n, .string t, .slice (some ⟨b, off, none⟩) 1 cap]) (by simp [results, Try.results92, go_sem]) rfl ?_
  exact rule_end (d := (6, n, t, .cons o1 n1 t1 k1 .nil)) (by repeat (first | exact Below.refl _ _ | refine Below.alloc ?_ (by simp) _ | refine Below.setCell ?_ (by simp) _)) HS0.out.1 HS0.out.2 hc

set_option maxRecDepth 100000 in
set_option maxHeartbeats 1600000 in
theorem wo_d8 (lo : Nat) (W : World) (d1 : D) (n : Int) (t : ByteArray) (a : Option Addr) (cap : Nat) (fs : List Nat) (H1 : d1.1 = 1) (hs : SubAt W a (consD d1 .nil) fs) (hF : Fresh lo W fs) (hc : ((consD d1 .nil)).len ≤ cap) :
    Calls Try.prog 92 #[.agg #[.int .i64 8, .int .i64 n, .string t, .slice a ((consD d1 .nil)).len cap]] W (RuleOut lo W (d1)) := by
  obtain ⟨o1, n1, t1, k1⟩ := d1
  simp only [consD] at hs hc H1 ⊢
  have hl2 : (F.cons o1 n1 t1 k1 .nil).len = 1 := rfl
  rw [hl2] at hc ⊢
  have HS0 := Lib.hid (And.intro hs hF)
  obtain ⟨b, off, f', rfl, hb, hrow, hF'⟩ := sub_row hs hF
  obtain ⟨a1, c1, f1, f2, x0, x1, x2, x3, x4, hs1, hF1, hr2, hF2⟩ := row_first hrow hF'
  obtain ⟨L1, hL1⟩ : ∃ L, k1.len = L := ⟨_, rfl⟩
  rw [hL1] at x3
  have HQ := Lib.hid (And.intro hs1 (And.intro hF1 (And.intro x4 hL1)))
  clear hs hF hrow hF' hs1 hF1 hr2 hF2 x4 hL1
  have q1 : (o1 == 1) = true := by rw [beq_iff_eq]; exact H1
  go_enter Try.func92, Try.ntmps92
  go_wp2_with fail
  refine bodyPost_ret (v := .agg #[.int .i64 o1, .int .i64 n1, .string t1, .slice a1 L1 c1]) (by simp [results, Try.results92, go_sem, show o1 = 1 from H1]) rfl ?_
  obtain ⟨hs1, hF1, x4, hL1⟩ := HQ.out
  rw [← hL1]
  exact rule_end (d := (o1, n1, t1, k1)) (by repeat (first | exact Below.refl _ _ | refine Below.alloc ?_ (by simp) _ | refine Below.setCell ?_ (by simp) _)) hs1 hF1 x4

set_option maxRecDepth 100000 in
set_option maxHeartbeats 1600000 in
theorem wo_e8 (lo : Nat) (W : World) (d1 : D) (n : Int) (t : ByteArray) (a : Option Addr) (cap : Nat) (fs : List Nat) (H1 : d1.1 ≠ 1) (hs : SubAt W a (consD d1 .nil) fs) (hF : Fresh lo W fs) (hc : ((consD d1 .nil)).len ≤ cap) :
    Calls Try.prog 92 #[.agg #[.int .i64 8, .int .i64 n, .string t, .slice a ((consD d1 .nil)).len cap]] W (RuleOut lo W (8, n, t, (consD d1 .nil))) := by
  obtain ⟨o1, n1, t1, k1⟩ := d1
  simp only [consD] at hs hc H1 ⊢
  have hl2 : (F.cons o1 n1 t1 k1 .nil).len = 1 := rfl
  rw [hl2] at hc ⊢
  have HS0 := Lib.hid (And.intro hs hF)
  obtain ⟨b, off, f', rfl, hb, hrow, hF'⟩ := sub_row hs hF
  obtain ⟨a1, c1, f1, f2, x0, x1, x2, x3, x4, hs1, hF1, hr2, hF2⟩ := row_first hrow hF'
  obtain ⟨L1, hL1⟩ : ∃ L, k1.len = L := ⟨_, rfl⟩
  rw [hL1] at x3
  have HQ := Lib.hid (And.intro hs1 (And.intro hF1 (And.intro x4 hL1)))
  clear hs hF hrow hF' hs1 hF1 hr2 hF2 x4 hL1
  have q1 : (o1 == 1) = false := by rw [beq_eq_false_iff_ne]; exact H1
  go_enter Try.func92, Try.ntmps92
  go_wp2_with fail
  refine bodyPost_ret (v := .agg #[.int .i64 8, .int .i64 n, .string t, .slice (some ⟨b, off, none⟩) 1 cap]) (by simp [results, Try.results92, go_sem]) rfl ?_
  exact rule_end (d := (8, n, t, .cons o1 n1 t1 k1 .nil)) (by repeat (first | exact Below.refl _ _ | refine Below.alloc ?_ (by simp) _ | refine Below.setCell ?_ (by simp) _)) HS0.out.1 HS0.out.2 hc

set_option maxRecDepth 100000 in
set_option maxHeartbeats 1600000 in
theorem wo_f (lo : Nat) (W : World) (o : Int) (k : F) (n : Int) (t : ByteArray) (a : Option Addr) (cap : Nat) (fs : List Nat) (h6 : o ≠ 6) (h7 : o ≠ 7) (h8 : o ≠ 8) (hs : SubAt W a k fs) (hF : Fresh lo W fs) (hc : (k).len ≤ cap) :
    Calls Try.prog 92 #[.agg #[.int .i64 o, .int .i64 n, .string t, .slice a (k).len cap]] W (RuleOut lo W (o, n, t, k)) := by
  obtain ⟨L, hL⟩ : ∃ L, k.len = L := ⟨_, rfl⟩
  have HQ := Lib.hid (And.intro hs (And.intro hF (And.intro hc hL)))
  rw [hL]
  clear hs hF hc hL
  have q6 : (o == 6) = false := by rw [beq_eq_false_iff_ne]; exact h6
  have q7 : (o == 7) = false := by rw [beq_eq_false_iff_ne]; exact h7
  have q8 : (o == 8) = false := by rw [beq_eq_false_iff_ne]; exact h8
  go_enter Try.func92, Try.ntmps92
  go_wp2_with fail
  refine bodyPost_ret (v := .agg #[.int .i64 o, .int .i64 n, .string t, .slice a L cap]) (by simp [results, Try.results92, go_sem]) rfl ?_
  obtain ⟨hs, hF, hc, hL⟩ := HQ.out
  rw [← hL]
  exact rule_end (d := (o, n, t, k)) (by repeat (first | exact Below.refl _ _ | refine Below.alloc ?_ (by simp) _ | refine Below.setCell ?_ (by simp) _)) hs hF hc

theorem em_fn : RuleFn 92 #[] emR := by
  refine ⟨enters_of Try.func92 (by kernel_rfl) rfl, em_keep, fun lo W o n t k a cap fs hn hcnt hs hF hc hlo => ?_⟩
  show Calls Try.prog 92 #[.agg #[.int .i64 o, .int .i64 n, .string t, .slice a k.len cap]] W _
  by_cases h7 : o = 7
  · obtain ⟨d1, d2, rfl⟩ := kids_two hn h7
    subst h7
    by_cases h1 : d1.1 = 1
    · rw [show emR 7 n t (consD d1 (consD d2 .nil)) = d2 by unfold emR; rw [if_pos ⟨rfl, h1⟩]; rfl]
      exact wo_c1 lo W d1 d2 n t a cap fs h1 hs hF hc
    · by_cases h2 : d2.1 = 1
      · rw [show emR 7 n t (consD d1 (consD d2 .nil)) = d1 by unfold emR; rw [if_neg (fun h => h1 h.2), if_pos ⟨rfl, h2⟩]; rfl]
        exact wo_c2 lo W d1 d2 n t a cap fs h1 h2 hs hF hc
      · rw [show emR 7 n t (consD d1 (consD d2 .nil)) = (7, n, t, consD d1 (consD d2 .nil)) by unfold emR; rw [if_neg (fun h => h1 h.2), if_neg (fun h => h2 h.2), if_neg (by omega)]]
        exact wo_c3 lo W d1 d2 n t a cap fs h1 h2 hs hF hc
  · by_cases h6 : o = 6
    · obtain ⟨d1, rfl⟩ := kids_one hn (Or.inl h6)
      subst h6
      by_cases h1 : d1.1 = 1
      · rw [show emR 6 n t (consD d1 .nil) = d1 by unfold emR; rw [if_neg (by omega), if_neg (by omega), if_pos ⟨Or.inl rfl, h1⟩]; rfl]
        exact wo_d6 lo W d1 n t a cap fs h1 hs hF hc
      · rw [show emR 6 n t (consD d1 .nil) = (6, n, t, consD d1 .nil) by unfold emR; rw [if_neg (by omega), if_neg (by omega), if_neg (fun h => h1 h.2)]]
        exact wo_e6 lo W d1 n t a cap fs h1 hs hF hc
    · by_cases h8 : o = 8
      · obtain ⟨d1, rfl⟩ := kids_one hn (Or.inr h8)
        subst h8
        by_cases h1 : d1.1 = 1
        · rw [show emR 8 n t (consD d1 .nil) = d1 by unfold emR; rw [if_neg (by omega), if_neg (by omega), if_pos ⟨Or.inr rfl, h1⟩]; rfl]
          exact wo_d8 lo W d1 n t a cap fs h1 hs hF hc
        · rw [show emR 8 n t (consD d1 .nil) = (8, n, t, consD d1 .nil) by unfold emR; rw [if_neg (by omega), if_neg (by omega), if_neg (fun h => h1 h.2)]]
          exact wo_e8 lo W d1 n t a cap fs h1 hs hF hc
      · rw [show emR o n t k = (o, n, t, k) by unfold emR; rw [if_neg (fun h => h7 h.1), if_neg (fun h => h7 h.1), if_neg (fun h => h.1.elim h6 h8)]]
        exact wo_f lo W o k n t a cap fs h6 h7 h8 hs hF hc

set_option maxRecDepth 100000 in
set_option maxHeartbeats 1600000 in
theorem em_pass (o n : Int) (t : ByteArray) (k : F) (hn : niceD (o, n, t, k) = true) (hcnt : k.cnt ≤ 10000) : PassAt 56 (o, n, t, k) (chD emR o n t k) := by
  refine ⟨enters_of Try.func56 (by kernel_rfl) rfl, fun W a cap fs hs hfs hc => ?_⟩
  show Calls Try.prog 56 #[.agg #[.int .i64 o, .int .i64 n, .string t, .slice a k.len cap]] W _
  have hd := fun (W1 : World) (h1 : Ext W W1) => changeNodes em_fn W1 o n t k hn hcnt a cap fs (h1.sub hs (fun c hc => (hfs c hc).1)) (fun c hc => Nat.lt_of_lt_of_le (hfs c hc).1 h1.size) hc
  obtain ⟨⟨o2, n2, t2, k2⟩, hφ⟩ : ∃ d : D, chD emR o n t k = d := ⟨_, rfl⟩
  rw [hφ] at hd ⊢
  have HD := Lib.hid hd
  have HE := Lib.hid (show ∀ x y, Ext W ((W.alloc x).alloc y) from fun x y => ((Ext.refl W).alloc x).alloc y)
  have HZ := Lib.hid (fun x => zbox_second W x 25)
  obtain ⟨L, hL⟩ : ∃ L, k.len = L := ⟨_, rfl⟩
  rw [hL] at HD ⊢
  clear hd hs hfs hc hn hcnt hφ hL
  go_enter Try.func56, Try.ntmps56
  go_wp2_with fail
  refine (HD.out _ (HE.out _ _)).mono ?_
  rintro e1 w1 ⟨a2, cap2, f2, rfl, hc2, hs2, hfr2, hb2⟩
  simp only at hc2 hs2 ⊢
  obtain ⟨⟨z0, z1, z2, z3⟩, ⟨z4, z5, z6, z7⟩, z8⟩ := (HZ.out _).ext hb2
  have H2 := Lib.hid (And.intro hc2 (And.intro hs2 (And.intro hfr2 hb2)))
  clear hc2 hs2 hfr2 hb2
  go_wp2_with fail
  refine bodyPost_ret (v := .agg #[.int .i64 o2, .int .i64 n2, .string t2, .slice a2 k2.len cap2]) (by simp [results, Try.results56, go_sem, z0, z1, z2, z3, z4, z5, z6, z7, z8]) rfl ?_
  obtain ⟨hc2, hs2, hfr2, hb2⟩ := H2.out
  refine end_new2 (lo := W.heap.size + 1) (hi := W.heap.size + 2) hs2 (hfr2.mono (lo' := W.heap.size + 2) (by simp)) hc2 (Nat.le_refl _) (by omega) (by omega) (Below.trans (HE.out _ _) (hb2.mono (by simp; omega))) ?_
  repeat (first | exact Touch.refl _ _ _ | refine Touch.setCell ?_ (by simp) (by simp) _)

theorem end_pair {w w3 w4 : World} {d : D} {ok : Bool} {lo hi B : Nat} {a : Option Addr} {cap : Nat} {fs : List Nat} (hs : SubAt w3 a d.2.2.2 fs) (hF : Fresh B w3 fs) (hc : d.2.2.2.len ≤ cap) (hB : hi ≤ B) (hlo : w.heap.size ≤ lo) (hlh : lo ≤ hi) (hb : Below w.heap.size w w3) (ht : Touch lo hi w3 w4) :
    DocRes w (ok, d) (.returned (.tuple #[aggD d a cap, .bool ok])) w4 :=
  ⟨a, cap, fs, rfl, hc, ht.sub hs (fun c hc => Or.inr (by have := (hF.2 c hc).1; omega)), (ht.fresh hF (fun c hc => Or.inr (by have := (hF.2 c hc).1; omega))).mono (by omega), ht.below hb hlo⟩
theorem nice_fit {d : D} (h : niceD d = true) (hc : d.2.2.2.cnt ≤ 10000) : d.2.2.2.size ≤ 1048576 ∧ d.2.2.1.size ≤ 1048576 := by
  unfold niceD at h
  rw [Bool.and_eq_true] at h
  have h1 := nice_size _ h.2
  have h2 := nice_text h.1
  omega
theorem em_nice {o n : Int} {t : ByteArray} {k : F} (h : niceD (o, n, t, k) = true) : niceD (chD emR o n t k) = true ∧ (chD emR o n t k).2.2.2.cnt ≤ k.cnt := by
  obtain ⟨h1, h2⟩ := em_fn.doc h
  obtain ⟨h3, h4⟩ := em_keep o n t (chL emR k) h1
  exact ⟨h3, Nat.le_trans h4 h2⟩

def emRes (o n : Int) (t : ByteArray) (k : F) : Bool × D := chR (o, n, t, k) (chD emR o n t k)

set_option maxRecDepth 100000 in
set_option maxHeartbeats 1600000 in
theorem implDropEmpty (w : World) (o n : Int) (t : ByteArray) (k : F) (a : Option Addr) (cap : Nat) (fs : List Nat) (hs : SubAt w a k fs) (hfs : ∀ c ∈ fs, c < w.heap.size ∧ ∀ o, w.frozen? ⟨c, o, none⟩ = false) (hc : k.len ≤ cap) (hle : t.size + k.size ≤ 1048576) :
    Calls Try.prog 41 #[.agg #[.int .i64 o, .int .i64 n, .string t, .slice a k.len cap]] w (DocRes w (emRes o n t k)) := by
  have hpass : validD o n t k = true → PassAt 56 (o, n, t, k) (chD emR o n t k) := fun hv => em_pass o n t k (valid_nice hv).1 (by have := (valid_nice hv).2.2; omega)
  have hfit : validD o n t k = true → (chD emR o n t k).2.2.2.size ≤ 1048576 ∧ (chD emR o n t k).2.2.1.size ≤ 1048576 := fun hv => nice_fit (em_nice (valid_nice hv).1).1 (by have := (em_nice (valid_nice hv).1).2; have := (valid_nice hv).2.2; omega)
  have hd := fun (W : World) (e : Ext w W) (bp : Nat) (hb : bp < W.heap.size) (hcell : W.cell? ⟨bp, 0, none⟩ = some (.func (.func 56) #[] #[])) => changed W o n t k a cap fs (e.sub hs (fun c hc => (hfs c hc).1)) (fun c hc => Nat.lt_of_lt_of_le (hfs c hc).1 e.size) hc hle [(56, chD emR o n t k)] bp 1 hb (fun j hj => by have e : j = 0 := (by simpa using hj); subst e; exact hcell) (Nat.le_refl _) (by simp) (fun hv => ⟨hpass hv, trivial⟩) hfit
  obtain ⟨⟨ok, o2, n2, t2, k2⟩, hR⟩ : ∃ R, emRes o n t k = R := ⟨_, rfl⟩
  rw [hR]
  rw [show chR (o, n, t, k) (lastD [(56, chD emR o n t k)] (o, n, t, k)) = (ok, o2, n2, t2, k2) from hR] at hd
  have HD := Lib.hid hd
  have HE := Lib.hid (show ∀ x y z, Ext w (((w.alloc x).alloc y).alloc z) from fun x y z => (((Ext.refl w).alloc x).alloc y).alloc z)
  have HZ := Lib.hid (fun x => zbox_second w x 25)
  obtain ⟨L, hL⟩ : ∃ L, k.len = L := ⟨_, rfl⟩
  rw [hL] at HD ⊢
  clear hd hs hfs hc hR hL hle hpass hfit
  go_enter Try.func41, Try.ntmps41
  go_wp2_with fail
  refine (HD.out _ (HE.out _ _ _) (w.heap.size + 1 + 1) (by simp) (by
    have e : ((w.alloc (.cells #[.int .i64 o, .int .i64 n, .string t, .slice a L cap] 25)).alloc (.cells #[.int .i64 0, .int .i64 0, .string ⟨#[]⟩, .slice none 0 0] 25)).heap.size = w.heap.size + 1 + 1 := by simp
    rw [← e]; exact cell_new _ _ _ 0 _ rfl)).mono ?_
  rintro e1 w1 ⟨a3, cap3, f3, rfl, hc3, hs3, hfr3, hb3⟩
  obtain ⟨⟨z0, z1, z2, z3⟩, ⟨z4, z5, z6, z7⟩, z8⟩ := ((HZ.out _).ext ((Ext.refl _).alloc _)).ext hb3
  have H2 := Lib.hid (And.intro hc3 (And.intro hs3 (And.intro hfr3 hb3)))
  clear hc3 hs3 hfr3 hb3
  go_wp2_with fail
  refine bodyPost_ret (v := .tuple #[.agg #[.int .i64 o2, .int .i64 n2, .string t2, .slice a3 k2.len cap3], .bool ok]) (by simp [results, Try.results41, go_sem, z0, z1, z2, z3, z4, z5, z6, z7, z8]) rfl ?_
  obtain ⟨hc3, hs3, hfr3, hb3⟩ := H2.out
  refine end_pair (d := (o2, n2, t2, k2)) (lo := w.heap.size + 1) (hi := w.heap.size + 2) hs3 (hfr3.mono (lo' := w.heap.size + 2) (by simp)) hc3 (Nat.le_refl _) (by omega) (by omega) (Below.trans (HE.out _ _ _) (hb3.mono (by simp; omega))) ?_
  repeat (first | exact Touch.refl _ _ _ | refine Touch.setCell ?_ (by simp) (by simp) _)

end Go.Proofs.Ytafhefmjnjibdaa.Nf

