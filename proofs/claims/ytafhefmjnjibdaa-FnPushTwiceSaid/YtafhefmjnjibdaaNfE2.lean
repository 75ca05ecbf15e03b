import Derived.Test.YtafhefmjnjibdaaNfS
/-
  DropEmpty of the model: l7Drop, DropEmpty.
-/
set_option linter.unusedVariables false
set_option linter.unusedSimpArgs false
namespace Go.Proofs.Ytafhefmjnjibdaa.Nf
open Go.RowKit P1 Copy CatD

/-- the contract of l7Drop at the documents of a list -/
def DrS (f : F) : Prop := ∀ (w : World) (o n : Int) (t : ByteArray) (k : F) (p r : F) (a : Option Addr) (cap : Nat) (fs : List Nat), f = p.app (.cons o n t k r) → nice f = true → f.cnt ≤ 10000 → SubAt w a k fs → (∀ c ∈ fs, c < w.heap.size) → k.len ≤ cap →
  Calls Try.prog 78 #[.agg #[.int .i64 o, .int .i64 n, .string t, .slice a k.len cap]] w (NewD w (chD emR o n t k))


set_option maxRecDepth 100000 in
set_option maxHeartbeats 3200000 in
theorem dr_step_c1 (w : World) (o n : Int) (t : ByteArray) (k : F) (ih : DrS k) (hn : niceD (o, n, t, k) = true) (hcnt : k.cnt ≤ 10000) (a : Option Addr) (cap : Nat) (fs : List Nat) (hs : SubAt w a k fs) (hfs : ∀ c ∈ fs, c < w.heap.size) (hc : k.len ≤ cap) (h7 : o = 7) (d1 d2 : D) (hK : mapL (chD emR) k = consD d1 (consD d2 .nil)) (h1 : d1.1 = 1) :
    Calls Try.prog 78 #[.agg #[.int .i64 o, .int .i64 n, .string t, .slice a k.len cap]] w (NewD w d2) := by
  have hnk : nice k = true := (nice_kids hn).2
  obtain ⟨φ, hφφ⟩ : ∃ φ, chD emR = φ := ⟨_, rfl⟩
  have ih := fun (w : World) (o n : Int) (t : ByteArray) (k1 : F) (p r : F) (a : Option Addr) (cap : Nat) (fs : List Nat) (h : k = p.app (.cons o n t k1 r)) => ih w o n t k1 p r a cap fs h hnk hcnt
  rw [hφφ] at ih
  subst h7
  rw [hφφ] at hK
  have HK0 := Lib.hid hK
  clear hK
  obtain ⟨i0, hi, hz0, hz1, hz2⟩ := info_parts To.info
  obtain ⟨L, hL⟩ : ∃ L, k.len = L := ⟨_, rfl⟩
  rw [hL] at hc ⊢
  have HL := Lib.hid hL
  have HML := Lib.hid (show (mapL φ k).len = L by rw [len_mapL, hL])
  have hL4 : L ≤ 4194304 := by have := F.len_le_cnt k; omega
  clear hL
  have hsub : 0 < L → ∃ b off f', a = some ⟨b, off, none⟩ ∧ RowAt w k b off f' ∧ b < w.heap.size ∧ ∀ c ∈ f', c < w.heap.size := by
    intro h0
    rcases hs with ⟨rfl, rfl⟩ | ⟨b, off, f', rfl, hnil, rfl, hrow⟩
    · have := HL.out; simp only [F.len] at this; omega
    · exact ⟨b, off, f', rfl, hrow, hfs b (by simp), fun c hc => hfs c (by simp [hc])⟩
  have HSUB := Lib.hid hsub
  have IH := Lib.hid ih
  have HI := Lib.hid (And.intro hi (And.intro hz0 (And.intro hz1 hz2)))
  have HST := Lib.hid (kd_start w 7 n t (.slice a L cap) φ k 25)
  clear hsub hs hfs ih hi hz0 hz1 hz2 hnk hn hcnt
  go_enter Try.func78, Try.ntmps78
  go_wp2_with fail
  go_loopw [3, 4] (fun v i wr => KdAt w 7 n t (.slice a L cap) φ k v i wr) (fun _ i _ => L - (intOf i).toNat)
  case atStart => exact HST.out
  case round =>
    obtain ⟨j, p, g, fs1, rfl, h3, h5, hG, hbw, hfv, hzb⟩ := hrel
    have h7 : g.len = L - j := by have := HL.out; rw [h3, F.len_app, h5] at this; omega
    have hjL0 : j ≤ L := by have := HL.out; rw [h3, F.len_app, h5] at this; omega
    obtain ⟨x0, x1, x2, x3⟩ := hfv
    have hsz0 : w.heap.size + 1 < wr.heap.size := hzb.2.2
    cases g with
    | nil =>
      have hjL : L = j := by simp only [F.len] at h7; omega
      subst hjL
      rw [F.app_nil] at h3
      subst h3
      obtain ⟨a', cap', rfl, hcap', hsub', hcm⟩ := hG.slice
      obtain ⟨⟨z0, z1, z2, z3⟩, ⟨z4, z5, z6, z7⟩, z8⟩ := hzb
      have HQ := Lib.hid (And.intro hsub' (And.intro hG.fresh (And.intro hbw hcap')))
      clear hG hbw hsub' h7 hcm hcap' h5 hjL0
      rw [HML.out]
      have hsubK := HQ.out.1
      have hl0 : w.heap.size < wr.heap.size := by omega
      have HZB := Lib.hid (show ZBox wr (w.heap.size + 1) from ⟨⟨z0, z1, z2, z3⟩, ⟨z4, z5, z6, z7⟩, z8⟩)
      have hlk : (2 : Nat) = L := by have := HML.out; rw [HK0.out] at this; exact this
      subst hlk
      obtain ⟨o1, n1, t1, k1⟩ := d1
      obtain ⟨o2, n2, t2, k2⟩ := d2
      have HK := Lib.hid (show mapL φ k = .cons o1 n1 t1 k1 (.cons o2 n2 t2 k2 .nil) from HK0.out)
      rw [HK.out] at hsubK
      have hFK := HQ.out.2.1
      obtain ⟨b, off, f', rfl, hb, hrow, hF'⟩ := sub_row hsubK hFK
      obtain ⟨a1, c1, f1, f2, u0, u1, u2, u3, u4, hs1, hF1, hr2, hF2⟩ := row_first hrow hF'
      obtain ⟨L1, hL1⟩ : ∃ L, k1.len = L := ⟨_, rfl⟩
      rw [hL1] at u3
      have HQ1 := Lib.hid (And.intro hs1 (And.intro hF1 (And.intro u4 hL1)))
      obtain ⟨a2, c2, f3, f4, v0, v1, v2, v3, v4, hs2, hF3, hr4, hF4⟩ := row_first hr2 hF2
      obtain ⟨L2, hL2⟩ : ∃ L, k2.len = L := ⟨_, rfl⟩
      rw [hL2] at v3
      have HQ2 := Lib.hid (And.intro hs2 (And.intro hF3 (And.intro v4 hL2)))
      clear hs2 hF3 hr4 hF4 v4 hL2
      clear hsubK hFK hrow hF' hs1 hF1 hr2 hF2 u4 hL1
      have q1 : (o1 == 1) = true := by rw [beq_iff_eq]; exact h1
      go_wp2_with (first
        | (go_at_call 117; refine (specEmpty _ _ _ _ _ _ _).mono ?_; rintro e1 w3 ⟨rfl, rfl⟩)
        | (go_at_call 103; refine (specMap _ _ _ _ _ _ _ _ _ _).mono ?_; rintro e1 w3 ⟨rfl, hb3⟩; have q3 : Ext wr w3 := (by first | exact hb3 | exact ((Ext.refl wr).alloc _).trans hb3 | exact (((Ext.refl wr).alloc _).alloc _).trans hb3); obtain ⟨⟨z0, z1, z2, z3⟩, ⟨z4, z5, z6, z7⟩, z8⟩ := HZB.out.ext q3))
      refine bodyPost_ret (v := .agg #[.int .i64 o2, .int .i64 n2, .string t2, .slice a2 L2 c2]) (by simp [results, Try.results78, go_sem, z0, z1, z2, z3, z4, z5, z6, z7, z8, hl0]) rfl ?_
      obtain ⟨hs2, hF3, v4, hL2⟩ := HQ2.out
      refine end_but (x := w.heap.size + 1) (lo := w.heap.size + 2) (w3 := wr) hL2 hs2 hF3 v4 (by omega) (by omega) HQ.out.2.2.1 (by repeat (first | exact But.of_below q3 | exact But.refl _ _ _ | refine But.setCell ?_ (Or.inl (by rfl)) _ | refine But.alloc ?_ (by simp) _))
    | cons o1 n1 t1 k1 r1 =>
      have hjL : j < L := by simp only [F.len] at h7; omega
      obtain ⟨b, off, f', rfl, hrow, hbB, hfB⟩ := HSUB.out (by omega)
      rw [h3] at hrow
      obtain ⟨a1, cap1, f1, c0, c1, c2, c3, hc1', hsub1, hin⟩ := row_at hrow
      rw [h5] at c0 c1 c2 c3
      rw [← hbw.cell (p := ⟨_, _, _⟩) hbB] at c0 c1 c2 c3
      have hd := fun (W1 : World) (hw1 : Ext wr W1) => IH.out W1 o1 n1 t1 k1 p r1 a1 cap1 f1 h3 (hsub1.below (fun c hc => hfB c (hin c hc)) (hbw.trans (hw1.mono hbw.size))) (fun c hc => Nat.lt_of_lt_of_le (hfB c (hin c hc)) (Nat.le_trans hbw.size hw1.size)) hc1'
      obtain ⟨⟨o2, n2, t2, k2⟩, hφ⟩ : ∃ d : D, φ o1 n1 t1 k1 = d := ⟨_, rfl⟩
      rw [hφ] at hd
      have HD := Lib.hid hd
      have H := Lib.hid (And.intro h3 (And.intro h5 (And.intro hG (And.intro hbw hzb))))
      have HF := Lib.hid hφ
      have i0' : (0 : Int) ≤ (j : Int) := Int.natCast_nonneg _
      have i1 : (j : Int) < (L : Int) := by omega
      have HX := Lib.hid (show Four w.heap.size (.int .i64 7) (.int .i64 n) (.string t) (.slice (some ⟨b, off, none⟩) L cap) wr from ⟨x0, x1, x2, x3⟩)
      clear hd h3 h5 h7 hbw hrow hG hφ hzb
      go_wp2_with (first
        | (go_at_call 78; refine (HD.out _ (by exact Ext.refl _)).mono ?_; rintro e1 w1 ⟨a2, cap2, f2, rfl, hc2, hs2, hfr2, hb2⟩; have HST2 := Lib.hid (fun ob => mid_d (ob := ob) H.out.2.2.1 hb2); have H2 := Lib.hid (And.intro hs2 (And.intro hfr2 (And.intro hb2 hc2))); clear hs2 hfr2 hb2 hc2 c0 c1 c2 c3)
        | (at_builtin; refine append_doc rfl (.tmp 13) (.tmp 20) 23 rfl Try.underlying23 HI.out.1 HI.out.2.1 HI.out.2.2.1 HI.out.2.2.2 rfl rfl (HST2.out _).1 (d := w1.heap.size) (c := 1) rfl (cell_new w1 _ _ 0 _ rfl) (cell_new w1 _ _ 1 _ rfl) (cell_new w1 _ _ 2 _ rfl) (cell_new w1 _ _ 3 _ rfl) H2.out.2.2.2 (H2.out.1.below H2.out.2.1.lt ((Below.refl _ _).alloc (Nat.le_refl _) _)) (H2.out.2.1.below H2.out.2.1.lt ((Below.refl _ _).alloc (Nat.le_refl _) _)) (HST2.out (.cells #[] 0)).2.1 (HST2.out (.cells #[] 0)).2.2.1 (HST2.out (.cells #[] 0)).2.2.2.1 (by rw [len_mapL]; have := H.out.2.1; omega) ?_; intro v' w2 fs' hG' hb' hg'))
      go_roundw
      case rel =>
        obtain ⟨h3, h5, hG, hbw, hzb⟩ := H.out
        have hch := mid_end H2.out.2.2.1 hb' hG.2.2.2
        refine ⟨j + 1, p.app (.cons o1 n1 t1 k1 .nil), r1, fs', by go_num, by rw [h3, F.app_assoc]; rfl, by rw [F.len_app, h5]; rfl, ?_, hbw.trans (hch.mono (by omega)), HX.out.below hch (by omega), zbox_below hzb hch (by omega)⟩
        rw [mapL_app, show mapL φ (.cons o1 n1 t1 k1 .nil) = .cons o2 n2 t2 k2 .nil by rw [mapL, HF.out]; rfl]
        exact hG'
      case measure => simp [intOf]; omega

set_option maxRecDepth 100000 in
set_option maxHeartbeats 3200000 in
theorem dr_step_c2 (w : World) (o n : Int) (t : ByteArray) (k : F) (ih : DrS k) (hn : niceD (o, n, t, k) = true) (hcnt : k.cnt ≤ 10000) (a : Option Addr) (cap : Nat) (fs : List Nat) (hs : SubAt w a k fs) (hfs : ∀ c ∈ fs, c < w.heap.size) (hc : k.len ≤ cap) (h7 : o = 7) (d1 d2 : D) (hK : mapL (chD emR) k = consD d1 (consD d2 .nil)) (h1 : d1.1 ≠ 1) (h2 : d2.1 = 1) :
    Calls Try.prog 78 #[.agg #[.int .i64 o, .int .i64 n, .string t, .slice a k.len cap]] w (NewD w d1) := by
  have hnk : nice k = true := (nice_kids hn).2
  obtain ⟨φ, hφφ⟩ : ∃ φ, chD emR = φ := ⟨_, rfl⟩
  have ih := fun (w : World) (o n : Int) (t : ByteArray) (k1 : F) (p r : F) (a : Option Addr) (cap : Nat) (fs : List Nat) (h : k = p.app (.cons o n t k1 r)) => ih w o n t k1 p r a cap fs h hnk hcnt
  rw [hφφ] at ih
  subst h7
  rw [hφφ] at hK
  have HK0 := Lib.hid hK
  clear hK
  obtain ⟨i0, hi, hz0, hz1, hz2⟩ := info_parts To.info
  obtain ⟨L, hL⟩ : ∃ L, k.len = L := ⟨_, rfl⟩
  rw [hL] at hc ⊢
  have HL := Lib.hid hL
  have HML := Lib.hid (show (mapL φ k).len = L by rw [len_mapL, hL])
  have hL4 : L ≤ 4194304 := by have := F.len_le_cnt k; omega
  clear hL
  have hsub : 0 < L → ∃ b off f', a = some ⟨b, off, none⟩ ∧ RowAt w k b off f' ∧ b < w.heap.size ∧ ∀ c ∈ f', c < w.heap.size := by
    intro h0
    rcases hs with ⟨rfl, rfl⟩ | ⟨b, off, f', rfl, hnil, rfl, hrow⟩
    · have := HL.out; simp only [F.len] at this; omega
    · exact ⟨b, off, f', rfl, hrow, hfs b (by simp), fun c hc => hfs c (by simp [hc])⟩
  have HSUB := Lib.hid hsub
  have IH := Lib.hid ih
  have HI := Lib.hid (And.intro hi (And.intro hz0 (And.intro hz1 hz2)))
  have HST := Lib.hid (kd_start w 7 n t (.slice a L cap) φ k 25)
  clear hsub hs hfs ih hi hz0 hz1 hz2 hnk hn hcnt
  go_enter Try.func78, Try.ntmps78
  go_wp2_with fail
  go_loopw [3, 4] (fun v i wr => KdAt w 7 n t (.slice a L cap) φ k v i wr) (fun _ i _ => L - (intOf i).toNat)
  case atStart => exact HST.out
  case round =>
    obtain ⟨j, p, g, fs1, rfl, h3, h5, hG, hbw, hfv, hzb⟩ := hrel
    have h7 : g.len = L - j := by have := HL.out; rw [h3, F.len_app, h5] at this; omega
    have hjL0 : j ≤ L := by have := HL.out; rw [h3, F.len_app, h5] at this; omega
    obtain ⟨x0, x1, x2, x3⟩ := hfv
    have hsz0 : w.heap.size + 1 < wr.heap.size := hzb.2.2
    cases g with
    | nil =>
      have hjL : L = j := by simp only [F.len] at h7; omega
      subst hjL
      rw [F.app_nil] at h3
      subst h3
      obtain ⟨a', cap', rfl, hcap', hsub', hcm⟩ := hG.slice
      obtain ⟨⟨z0, z1, z2, z3⟩, ⟨z4, z5, z6, z7⟩, z8⟩ := hzb
      have HQ := Lib.hid (And.intro hsub' (And.intro hG.fresh (And.intro hbw hcap')))
      clear hG hbw hsub' h7 hcm hcap' h5 hjL0
      rw [HML.out]
      have hsubK := HQ.out.1
      have hl0 : w.heap.size < wr.heap.size := by omega
      have HZB := Lib.hid (show ZBox wr (w.heap.size + 1) from ⟨⟨z0, z1, z2, z3⟩, ⟨z4, z5, z6, z7⟩, z8⟩)
      have hlk : (2 : Nat) = L := by have := HML.out; rw [HK0.out] at this; exact this
      subst hlk
      obtain ⟨o1, n1, t1, k1⟩ := d1
      obtain ⟨o2, n2, t2, k2⟩ := d2
      have HK := Lib.hid (show mapL φ k = .cons o1 n1 t1 k1 (.cons o2 n2 t2 k2 .nil) from HK0.out)
      rw [HK.out] at hsubK
      have hFK := HQ.out.2.1
      obtain ⟨b, off, f', rfl, hb, hrow, hF'⟩ := sub_row hsubK hFK
      obtain ⟨a1, c1, f1, f2, u0, u1, u2, u3, u4, hs1, hF1, hr2, hF2⟩ := row_first hrow hF'
      obtain ⟨L1, hL1⟩ : ∃ L, k1.len = L := ⟨_, rfl⟩
      rw [hL1] at u3
      have HQ1 := Lib.hid (And.intro hs1 (And.intro hF1 (And.intro u4 hL1)))
      obtain ⟨a2, c2, f3, f4, v0, v1, v2, v3, v4, hs2, hF3, hr4, hF4⟩ := row_first hr2 hF2
      obtain ⟨L2, hL2⟩ : ∃ L, k2.len = L := ⟨_, rfl⟩
      rw [hL2] at v3
      have HQ2 := Lib.hid (And.intro hs2 (And.intro hF3 (And.intro v4 hL2)))
      clear hs2 hF3 hr4 hF4 v4 hL2
      clear hsubK hFK hrow hF' hs1 hF1 hr2 hF2 u4 hL1
      have q1 : (o1 == 1) = false := by rw [beq_eq_false_iff_ne]; exact h1
      have q2 : (o2 == 1) = true := by rw [beq_iff_eq]; exact h2
      go_wp2_with (first
        | (go_at_call 117; refine (specEmpty _ _ _ _ _ _ _).mono ?_; rintro e1 w3 ⟨rfl, rfl⟩)
        | (go_at_call 103; refine (specMap _ _ _ _ _ _ _ _ _ _).mono ?_; rintro e1 w3 ⟨rfl, hb3⟩; have q3 : Ext wr w3 := (by first | exact hb3 | exact ((Ext.refl wr).alloc _).trans hb3 | exact (((Ext.refl wr).alloc _).alloc _).trans hb3); obtain ⟨⟨z0, z1, z2, z3⟩, ⟨z4, z5, z6, z7⟩, z8⟩ := HZB.out.ext q3))
      refine bodyPost_ret (v := .agg #[.int .i64 o1, .int .i64 n1, .string t1, .slice a1 L1 c1]) (by simp [results, Try.results78, go_sem, z0, z1, z2, z3, z4, z5, z6, z7, z8, hl0]) rfl ?_
      obtain ⟨hs1, hF1, u4, hL1⟩ := HQ1.out
      refine end_but (x := w.heap.size + 1) (lo := w.heap.size + 2) (w3 := wr) hL1 hs1 hF1 u4 (by omega) (by omega) HQ.out.2.2.1 (by repeat (first | exact But.of_below q3 | exact But.refl _ _ _ | refine But.setCell ?_ (Or.inl (by rfl)) _ | refine But.alloc ?_ (by simp) _))
    | cons o1 n1 t1 k1 r1 =>
      have hjL : j < L := by simp only [F.len] at h7; omega
      obtain ⟨b, off, f', rfl, hrow, hbB, hfB⟩ := HSUB.out (by omega)
      rw [h3] at hrow
      obtain ⟨a1, cap1, f1, c0, c1, c2, c3, hc1', hsub1, hin⟩ := row_at hrow
      rw [h5] at c0 c1 c2 c3
      rw [← hbw.cell (p := ⟨_, _, _⟩) hbB] at c0 c1 c2 c3
      have hd := fun (W1 : World) (hw1 : Ext wr W1) => IH.out W1 o1 n1 t1 k1 p r1 a1 cap1 f1 h3 (hsub1.below (fun c hc => hfB c (hin c hc)) (hbw.trans (hw1.mono hbw.size))) (fun c hc => Nat.lt_of_lt_of_le (hfB c (hin c hc)) (Nat.le_trans hbw.size hw1.size)) hc1'
      obtain ⟨⟨o2, n2, t2, k2⟩, hφ⟩ : ∃ d : D, φ o1 n1 t1 k1 = d := ⟨_, rfl⟩
      rw [hφ] at hd
      have HD := Lib.hid hd
      have H := Lib.hid (And.intro h3 (And.intro h5 (And.intro hG (And.intro hbw hzb))))
      have HF := Lib.hid hφ
      have i0' : (0 : Int) ≤ (j : Int) := Int.natCast_nonneg _
      have i1 : (j : Int) < (L : Int) := by omega
      have HX := Lib.hid (show Four w.heap.size (.int .i64 7) (.int .i64 n) (.string t) (.slice (some ⟨b, off, none⟩) L cap) wr from ⟨x0, x1, x2, x3⟩)
      clear hd h3 h5 h7 hbw hrow hG hφ hzb
      go_wp2_with (first
        | (go_at_call 78; refine (HD.out _ (by exact Ext.refl _)).mono ?_; rintro e1 w1 ⟨a2, cap2, f2, rfl, hc2, hs2, hfr2, hb2⟩; have HST2 := Lib.hid (fun ob => mid_d (ob := ob) H.out.2.2.1 hb2); have H2 := Lib.hid (And.intro hs2 (And.intro hfr2 (And.intro hb2 hc2))); clear hs2 hfr2 hb2 hc2 c0 c1 c2 c3)
        | (at_builtin; refine append_doc rfl (.tmp 13) (.tmp 20) 23 rfl Try.underlying23 HI.out.1 HI.out.2.1 HI.out.2.2.1 HI.out.2.2.2 rfl rfl (HST2.out _).1 (d := w1.heap.size) (c := 1) rfl (cell_new w1 _ _ 0 _ rfl) (cell_new w1 _ _ 1 _ rfl) (cell_new w1 _ _ 2 _ rfl) (cell_new w1 _ _ 3 _ rfl) H2.out.2.2.2 (H2.out.1.below H2.out.2.1.lt ((Below.refl _ _).alloc (Nat.le_refl _) _)) (H2.out.2.1.below H2.out.2.1.lt ((Below.refl _ _).alloc (Nat.le_refl _) _)) (HST2.out (.cells #[] 0)).2.1 (HST2.out (.cells #[] 0)).2.2.1 (HST2.out (.cells #[] 0)).2.2.2.1 (by rw [len_mapL]; have := H.out.2.1; omega) ?_; intro v' w2 fs' hG' hb' hg'))
      go_roundw
      case rel =>
        obtain ⟨h3, h5, hG, hbw, hzb⟩ := H.out
        have hch := mid_end H2.out.2.2.1 hb' hG.2.2.2
        refine ⟨j + 1, p.app (.cons o1 n1 t1 k1 .nil), r1, fs', by go_num, by rw [h3, F.app_assoc]; rfl, by rw [F.len_app, h5]; rfl, ?_, hbw.trans (hch.mono (by omega)), HX.out.below hch (by omega), zbox_below hzb hch (by omega)⟩
        rw [mapL_app, show mapL φ (.cons o1 n1 t1 k1 .nil) = .cons o2 n2 t2 k2 .nil by rw [mapL, HF.out]; rfl]
        exact hG'
      case measure => simp [intOf]; omega

set_option maxRecDepth 100000 in
set_option maxHeartbeats 3200000 in
theorem dr_step_c3 (w : World) (o n : Int) (t : ByteArray) (k : F) (ih : DrS k) (hn : niceD (o, n, t, k) = true) (hcnt : k.cnt ≤ 10000) (a : Option Addr) (cap : Nat) (fs : List Nat) (hs : SubAt w a k fs) (hfs : ∀ c ∈ fs, c < w.heap.size) (hc : k.len ≤ cap) (h7 : o = 7) (d1 d2 : D) (hK : mapL (chD emR) k = consD d1 (consD d2 .nil)) (h1 : d1.1 ≠ 1) (h2 : d2.1 ≠ 1) :
    Calls Try.prog 78 #[.agg #[.int .i64 o, .int .i64 n, .string t, .slice a k.len cap]] w (NewD w (7, n, t, mapL (chD emR) k)) := by
  have hnk : nice k = true := (nice_kids hn).2
  obtain ⟨φ, hφφ⟩ : ∃ φ, chD emR = φ := ⟨_, rfl⟩
  have ih := fun (w : World) (o n : Int) (t : ByteArray) (k1 : F) (p r : F) (a : Option Addr) (cap : Nat) (fs : List Nat) (h : k = p.app (.cons o n t k1 r)) => ih w o n t k1 p r a cap fs h hnk hcnt
  rw [hφφ] at ih
  subst h7
  rw [hφφ] at hK
  have HK0 := Lib.hid hK
  clear hK
  rw [hφφ]
  obtain ⟨i0, hi, hz0, hz1, hz2⟩ := info_parts To.info
  obtain ⟨L, hL⟩ : ∃ L, k.len = L := ⟨_, rfl⟩
  rw [hL] at hc ⊢
  have HL := Lib.hid hL
  have HML := Lib.hid (show (mapL φ k).len = L by rw [len_mapL, hL])
  have hL4 : L ≤ 4194304 := by have := F.len_le_cnt k; omega
  clear hL
  have hsub : 0 < L → ∃ b off f', a = some ⟨b, off, none⟩ ∧ RowAt w k b off f' ∧ b < w.heap.size ∧ ∀ c ∈ f', c < w.heap.size := by
    intro h0
    rcases hs with ⟨rfl, rfl⟩ | ⟨b, off, f', rfl, hnil, rfl, hrow⟩
    · have := HL.out; simp only [F.len] at this; omega
    · exact ⟨b, off, f', rfl, hrow, hfs b (by simp), fun c hc => hfs c (by simp [hc])⟩
  have HSUB := Lib.hid hsub
  have IH := Lib.hid ih
  have HI := Lib.hid (And.intro hi (And.intro hz0 (And.intro hz1 hz2)))
  have HST := Lib.hid (kd_start w 7 n t (.slice a L cap) φ k 25)
  clear hsub hs hfs ih hi hz0 hz1 hz2 hnk hn hcnt
  go_enter Try.func78, Try.ntmps78
  go_wp2_with fail
  go_loopw [3, 4] (fun v i wr => KdAt w 7 n t (.slice a L cap) φ k v i wr) (fun _ i _ => L - (intOf i).toNat)
  case atStart => exact HST.out
  case round =>
    obtain ⟨j, p, g, fs1, rfl, h3, h5, hG, hbw, hfv, hzb⟩ := hrel
    have h7 : g.len = L - j := by have := HL.out; rw [h3, F.len_app, h5] at this; omega
    have hjL0 : j ≤ L := by have := HL.out; rw [h3, F.len_app, h5] at this; omega
    obtain ⟨x0, x1, x2, x3⟩ := hfv
    have hsz0 : w.heap.size + 1 < wr.heap.size := hzb.2.2
    cases g with
    | nil =>
      have hjL : L = j := by simp only [F.len] at h7; omega
      subst hjL
      rw [F.app_nil] at h3
      subst h3
      obtain ⟨a', cap', rfl, hcap', hsub', hcm⟩ := hG.slice
      obtain ⟨⟨z0, z1, z2, z3⟩, ⟨z4, z5, z6, z7⟩, z8⟩ := hzb
      have HQ := Lib.hid (And.intro hsub' (And.intro hG.fresh (And.intro hbw hcap')))
      clear hG hbw hsub' h7 hcm hcap' h5 hjL0
      rw [HML.out]
      have hsubK := HQ.out.1
      have hl0 : w.heap.size < wr.heap.size := by omega
      have HZB := Lib.hid (show ZBox wr (w.heap.size + 1) from ⟨⟨z0, z1, z2, z3⟩, ⟨z4, z5, z6, z7⟩, z8⟩)
      have hlk : (2 : Nat) = L := by have := HML.out; rw [HK0.out] at this; exact this
      subst hlk
      obtain ⟨o1, n1, t1, k1⟩ := d1
      obtain ⟨o2, n2, t2, k2⟩ := d2
      have HK := Lib.hid (show mapL φ k = .cons o1 n1 t1 k1 (.cons o2 n2 t2 k2 .nil) from HK0.out)
      rw [HK.out] at hsubK
      have hFK := HQ.out.2.1
      obtain ⟨b, off, f', rfl, hb, hrow, hF'⟩ := sub_row hsubK hFK
      obtain ⟨a1, c1, f1, f2, u0, u1, u2, u3, u4, hs1, hF1, hr2, hF2⟩ := row_first hrow hF'
      obtain ⟨L1, hL1⟩ : ∃ L, k1.len = L := ⟨_, rfl⟩
      rw [hL1] at u3
      have HQ1 := Lib.hid (And.intro hs1 (And.intro hF1 (And.intro u4 hL1)))
      obtain ⟨a2, c2, f3, f4, v0, v1, v2, v3, v4, hs2, hF3, hr4, hF4⟩ := row_first hr2 hF2
      obtain ⟨L2, hL2⟩ : ∃ L, k2.len = L := ⟨_, rfl⟩
      rw [hL2] at v3
      have HQ2 := Lib.hid (And.intro hs2 (And.intro hF3 (And.intro v4 hL2)))
      clear hs2 hF3 hr4 hF4 v4 hL2
      clear hsubK hFK hrow hF' hs1 hF1 hr2 hF2 u4 hL1
      have q1 : (o1 == 1) = false := by rw [beq_eq_false_iff_ne]; exact h1
      have q2 : (o2 == 1) = false := by rw [beq_eq_false_iff_ne]; exact h2
      go_wp2_with (first
        | (go_at_call 117; refine (specEmpty _ _ _ _ _ _ _).mono ?_; rintro e1 w3 ⟨rfl, rfl⟩)
        | (go_at_call 103; refine (specMap _ _ _ _ _ _ _ _ _ _).mono ?_; rintro e1 w3 ⟨rfl, hb3⟩; have q3 : Ext wr w3 := (by first | exact hb3 | exact ((Ext.refl wr).alloc _).trans hb3 | exact (((Ext.refl wr).alloc _).alloc _).trans hb3); obtain ⟨⟨z0, z1, z2, z3⟩, ⟨z4, z5, z6, z7⟩, z8⟩ := HZB.out.ext q3))
      refine bodyPost_ret (v := .agg #[.int .i64 7, .int .i64 n, .string t, .slice (some ⟨b, off, none⟩) 2 cap']) (by simp [results, Try.results78, go_sem, z0, z1, z2, z3, z4, z5, z6, z7, z8, hl0]) rfl ?_
      obtain ⟨hs9, hF9, _, hc9⟩ := HQ.out
      refine end_but (x := w.heap.size + 1) (lo := w.heap.size + 2) (w3 := wr) HML.out hs9 hF9 hc9 (by omega) (by omega) HQ.out.2.2.1 (by repeat (first | exact But.of_below q3 | exact But.refl _ _ _ | refine But.setCell ?_ (Or.inl (by rfl)) _ | refine But.alloc ?_ (by simp) _))
    | cons o1 n1 t1 k1 r1 =>
      have hjL : j < L := by simp only [F.len] at h7; omega
      obtain ⟨b, off, f', rfl, hrow, hbB, hfB⟩ := HSUB.out (by omega)
      rw [h3] at hrow
      obtain ⟨a1, cap1, f1, c0, c1, c2, c3, hc1', hsub1, hin⟩ := row_at hrow
      rw [h5] at c0 c1 c2 c3
      rw [← hbw.cell (p := ⟨_, _, _⟩) hbB] at c0 c1 c2 c3
      have hd := fun (W1 : World) (hw1 : Ext wr W1) => IH.out W1 o1 n1 t1 k1 p r1 a1 cap1 f1 h3 (hsub1.below (fun c hc => hfB c (hin c hc)) (hbw.trans (hw1.mono hbw.size))) (fun c hc => Nat.lt_of_lt_of_le (hfB c (hin c hc)) (Nat.le_trans hbw.size hw1.size)) hc1'
      obtain ⟨⟨o2, n2, t2, k2⟩, hφ⟩ : ∃ d : D, φ o1 n1 t1 k1 = d := ⟨_, rfl⟩
      rw [hφ] at hd
      have HD := Lib.hid hd
      have H := Lib.hid (And.intro h3 (And.intro h5 (And.intro hG (And.intro hbw hzb))))
      have HF := Lib.hid hφ
      have i0' : (0 : Int) ≤ (j : Int) := Int.natCast_nonneg _
      have i1 : (j : Int) < (L : Int) := by omega
      have HX := Lib.hid (show Four w.heap.size (.int .i64 7) (.int .i64 n) (.string t) (.slice (some ⟨b, off, none⟩) L cap) wr from ⟨x0, x1, x2, x3⟩)
      clear hd h3 h5 h7 hbw hrow hG hφ hzb
      go_wp2_with (first
        | (go_at_call 78; refine (HD.out _ (by exact Ext.refl _)).mono ?_; rintro e1 w1 ⟨a2, cap2, f2, rfl, hc2, hs2, hfr2, hb2⟩; have HST2 := Lib.hid (fun ob => mid_d (ob := ob) H.out.2.2.1 hb2); have H2 := Lib.hid (And.intro hs2 (And.intro hfr2 (And.intro hb2 hc2))); clear hs2 hfr2 hb2 hc2 c0 c1 c2 c3)
        | (at_builtin; refine append_doc rfl (.tmp 13) (.tmp 20) 23 rfl Try.underlying23 HI.out.1 HI.out.2.1 HI.out.2.2.1 HI.out.2.2.2 rfl rfl (HST2.out _).1 (d := w1.heap.size) (c := 1) rfl (cell_new w1 _ _ 0 _ rfl) (cell_new w1 _ _ 1 _ rfl) (cell_new w1 _ _ 2 _ rfl) (cell_new w1 _ _ 3 _ rfl) H2.out.2.2.2 (H2.out.1.below H2.out.2.1.lt ((Below.refl _ _).alloc (Nat.le_refl _) _)) (H2.out.2.1.below H2.out.2.1.lt ((Below.refl _ _).alloc (Nat.le_refl _) _)) (HST2.out (.cells #[] 0)).2.1 (HST2.out (.cells #[] 0)).2.2.1 (HST2.out (.cells #[] 0)).2.2.2.1 (by rw [len_mapL]; have := H.out.2.1; omega) ?_; intro v' w2 fs' hG' hb' hg'))
      go_roundw
      case rel =>
        obtain ⟨h3, h5, hG, hbw, hzb⟩ := H.out
        have hch := mid_end H2.out.2.2.1 hb' hG.2.2.2
        refine ⟨j + 1, p.app (.cons o1 n1 t1 k1 .nil), r1, fs', by go_num, by rw [h3, F.app_assoc]; rfl, by rw [F.len_app, h5]; rfl, ?_, hbw.trans (hch.mono (by omega)), HX.out.below hch (by omega), zbox_below hzb hch (by omega)⟩
        rw [mapL_app, show mapL φ (.cons o1 n1 t1 k1 .nil) = .cons o2 n2 t2 k2 .nil by rw [mapL, HF.out]; rfl]
        exact hG'
      case measure => simp [intOf]; omega

set_option maxRecDepth 100000 in
set_option maxHeartbeats 3200000 in
theorem dr_step_d6 (w : World) (o n : Int) (t : ByteArray) (k : F) (ih : DrS k) (hn : niceD (o, n, t, k) = true) (hcnt : k.cnt ≤ 10000) (a : Option Addr) (cap : Nat) (fs : List Nat) (hs : SubAt w a k fs) (hfs : ∀ c ∈ fs, c < w.heap.size) (hc : k.len ≤ cap) (h7 : o = 6) (d1 : D) (hK : mapL (chD emR) k = consD d1 .nil) (h1 : d1.1 = 1) :
    Calls Try.prog 78 #[.agg #[.int .i64 o, .int .i64 n, .string t, .slice a k.len cap]] w (NewD w d1) := by
  have hnk : nice k = true := (nice_kids hn).2
  obtain ⟨φ, hφφ⟩ : ∃ φ, chD emR = φ := ⟨_, rfl⟩
  have ih := fun (w : World) (o n : Int) (t : ByteArray) (k1 : F) (p r : F) (a : Option Addr) (cap : Nat) (fs : List Nat) (h : k = p.app (.cons o n t k1 r)) => ih w o n t k1 p r a cap fs h hnk hcnt
  rw [hφφ] at ih
  subst h7
  rw [hφφ] at hK
  have HK0 := Lib.hid hK
  clear hK
  obtain ⟨i0, hi, hz0, hz1, hz2⟩ := info_parts To.info
  obtain ⟨L, hL⟩ : ∃ L, k.len = L := ⟨_, rfl⟩
  rw [hL] at hc ⊢
  have HL := Lib.hid hL
  have HML := Lib.hid (show (mapL φ k).len = L by rw [len_mapL, hL])
  have hL4 : L ≤ 4194304 := by have := F.len_le_cnt k; omega
  clear hL
  have hsub : 0 < L → ∃ b off f', a = some ⟨b, off, none⟩ ∧ RowAt w k b off f' ∧ b < w.heap.size ∧ ∀ c ∈ f', c < w.heap.size := by
    intro h0
    rcases hs with ⟨rfl, rfl⟩ | ⟨b, off, f', rfl, hnil, rfl, hrow⟩
    · have := HL.out; simp only [F.len] at this; omega
    · exact ⟨b, off, f', rfl, hrow, hfs b (by simp), fun c hc => hfs c (by simp [hc])⟩
  have HSUB := Lib.hid hsub
  have IH := Lib.hid ih
  have HI := Lib.hid (And.intro hi (And.intro hz0 (And.intro hz1 hz2)))
  have HST := Lib.hid (kd_start w 6 n t (.slice a L cap) φ k 25)
  clear hsub hs hfs ih hi hz0 hz1 hz2 hnk hn hcnt
  go_enter Try.func78, Try.ntmps78
  go_wp2_with fail
  go_loopw [3, 4] (fun v i wr => KdAt w 6 n t (.slice a L cap) φ k v i wr) (fun _ i _ => L - (intOf i).toNat)
  case atStart => exact HST.out
  case round =>
    obtain ⟨j, p, g, fs1, rfl, h3, h5, hG, hbw, hfv, hzb⟩ := hrel
    have h7 : g.len = L - j := by have := HL.out; rw [h3, F.len_app, h5] at this; omega
    have hjL0 : j ≤ L := by have := HL.out; rw [h3, F.len_app, h5] at this; omega
    obtain ⟨x0, x1, x2, x3⟩ := hfv
    have hsz0 : w.heap.size + 1 < wr.heap.size := hzb.2.2
    cases g with
    | nil =>
      have hjL : L = j := by simp only [F.len] at h7; omega
      subst hjL
      rw [F.app_nil] at h3
      subst h3
      obtain ⟨a', cap', rfl, hcap', hsub', hcm⟩ := hG.slice
      obtain ⟨⟨z0, z1, z2, z3⟩, ⟨z4, z5, z6, z7⟩, z8⟩ := hzb
      have HQ := Lib.hid (And.intro hsub' (And.intro hG.fresh (And.intro hbw hcap')))
      clear hG hbw hsub' h7 hcm hcap' h5 hjL0
      rw [HML.out]
      have hsubK := HQ.out.1
      have hl0 : w.heap.size < wr.heap.size := by omega
      have HZB := Lib.hid (show ZBox wr (w.heap.size + 1) from ⟨⟨z0, z1, z2, z3⟩, ⟨z4, z5, z6, z7⟩, z8⟩)
      have hlk : (1 : Nat) = L := by have := HML.out; rw [HK0.out] at this; exact this
      subst hlk
      obtain ⟨o1, n1, t1, k1⟩ := d1
      have HK := Lib.hid (show mapL φ k = .cons o1 n1 t1 k1 .nil from HK0.out)
      rw [HK.out] at hsubK
      have hFK := HQ.out.2.1
      obtain ⟨b, off, f', rfl, hb, hrow, hF'⟩ := sub_row hsubK hFK
      obtain ⟨a1, c1, f1, f2, u0, u1, u2, u3, u4, hs1, hF1, hr2, hF2⟩ := row_first hrow hF'
      obtain ⟨L1, hL1⟩ : ∃ L, k1.len = L := ⟨_, rfl⟩
      rw [hL1] at u3
      have HQ1 := Lib.hid (And.intro hs1 (And.intro hF1 (And.intro u4 hL1)))
      clear hsubK hFK hrow hF' hs1 hF1 hr2 hF2 u4 hL1
      have q1 : (o1 == 1) = true := by rw [beq_iff_eq]; exact h1
      go_wp2_with (first
        | (go_at_call 117; refine (specEmpty _ _ _ _ _ _ _).mono ?_; rintro e1 w3 ⟨rfl, rfl⟩)
        | (go_at_call 103; refine (specMap _ _ _ _ _ _ _ _ _ _).mono ?_; rintro e1 w3 ⟨rfl, hb3⟩; have q3 : Ext wr w3 := (by first | exact hb3 | exact ((Ext.refl wr).alloc _).trans hb3 | exact (((Ext.refl wr).alloc _).alloc _).trans hb3); obtain ⟨⟨z0, z1, z2, z3⟩, ⟨z4, z5, z6, z7⟩, z8⟩ := HZB.out.ext q3))
      refine bodyPost_ret (v := .agg #[.int .i64 o1, .int .i64 n1, .string t1, .slice a1 L1 c1]) (by simp [results, Try.results78, go_sem, z0, z1, z2, z3, z4, z5, z6, z7, z8, hl0, show o1 = 1 from h1]) rfl ?_
      obtain ⟨hs1, hF1, u4, hL1⟩ := HQ1.out
      refine end_but (x := w.heap.size + 1) (lo := w.heap.size + 2) (w3 := wr) hL1 hs1 hF1 u4 (by omega) (by omega) HQ.out.2.2.1 (by repeat (first | exact But.of_below q3 | exact But.refl _ _ _ | refine But.setCell ?_ (Or.inl (by rfl)) _ | refine But.alloc ?_ (by simp) _))
    | cons o1 n1 t1 k1 r1 =>
      have hjL : j < L := by simp only [F.len] at h7; omega
      obtain ⟨b, off, f', rfl, hrow, hbB, hfB⟩ := HSUB.out (by omega)
      rw [h3] at hrow
      obtain ⟨a1, cap1, f1, c0, c1, c2, c3, hc1', hsub1, hin⟩ := row_at hrow
      rw [h5] at c0 c1 c2 c3
      rw [← hbw.cell (p := ⟨_, _, _⟩) hbB] at c0 c1 c2 c3
      have hd := fun (W1 : World) (hw1 : Ext wr W1) => IH.out W1 o1 n1 t1 k1 p r1 a1 cap1 f1 h3 (hsub1.below (fun c hc => hfB c (hin c hc)) (hbw.trans (hw1.mono hbw.size))) (fun c hc => Nat.lt_of_lt_of_le (hfB c (hin c hc)) (Nat.le_trans hbw.size hw1.size)) hc1'
      obtain ⟨⟨o2, n2, t2, k2⟩, hφ⟩ : ∃ d : D, φ o1 n1 t1 k1 = d := ⟨_, rfl⟩
      rw [hφ] at hd
      have HD := Lib.hid hd
      have H := Lib.hid (And.intro h3 (And.intro h5 (And.intro hG (And.intro hbw hzb))))
      have HF := Lib.hid hφ
      have i0' : (0 : Int) ≤ (j : Int) := Int.natCast_nonneg _
      have i1 : (j : Int) < (L : Int) := by omega
      have HX := Lib.hid (show Four w.heap.size (.int .i64 6) (.int .i64 n) (.string t) (.slice (some ⟨b, off, none⟩) L cap) wr from ⟨x0, x1, x2, x3⟩)
      clear hd h3 h5 h7 hbw hrow hG hφ hzb
      go_wp2_with (first
        | (go_at_call 78; refine (HD.out _ (by exact Ext.refl _)).mono ?_; rintro e1 w1 ⟨a2, cap2, f2, rfl, hc2, hs2, hfr2, hb2⟩; have HST2 := Lib.hid (fun ob => mid_d (ob := ob) H.out.2.2.1 hb2); have H2 := Lib.hid (And.intro hs2 (And.intro hfr2 (And.intro hb2 hc2))); clear hs2 hfr2 hb2 hc2 c0 c1 c2 c3)
        | (at_builtin; refine append_doc rfl (.tmp 13) (.tmp 20) 23 rfl Try.underlying23 HI.out.1 HI.out.2.1 HI.out.2.2.1 HI.out.2.2.2 rfl rfl (HST2.out _).1 (d := w1.heap.size) (c := 1) rfl (cell_new w1 _ _ 0 _ rfl) (cell_new w1 _ _ 1 _ rfl) (cell_new w1 _ _ 2 _ rfl) (cell_new w1 _ _ 3 _ rfl) H2.out.2.2.2 (H2.out.1.below H2.out.2.1.lt ((Below.refl _ _).alloc (Nat.le_refl _) _)) (H2.out.2.1.below H2.out.2.1.lt ((Below.refl _ _).alloc (Nat.le_refl _) _)) (HST2.out (.cells #[] 0)).2.1 (HST2.out (.cells #[] 0)).2.2.1 (HST2.out (.cells #[] 0)).2.2.2.1 (by rw [len_mapL]; have := H.out.2.1; omega) ?_; intro v' w2 fs' hG' hb' hg'))
      go_roundw
      case rel =>
        obtain ⟨h3, h5, hG, hbw, hzb⟩ := H.out
        have hch := mid_end H2.out.2.2.1 hb' hG.2.2.2
        refine ⟨j + 1, p.app (.cons o1 n1 t1 k1 .nil), r1, fs', by go_num, by rw [h3, F.app_assoc]; rfl, by rw [F.len_app, h5]; rfl, ?_, hbw.trans (hch.mono (by omega)), HX.out.below hch (by omega), zbox_below hzb hch (by omega)⟩
        rw [mapL_app, show mapL φ (.cons o1 n1 t1 k1 .nil) = .cons o2 n2 t2 k2 .nil by rw [mapL, HF.out]; rfl]
        exact hG'
      case measure => simp [intOf]; omega

set_option maxRecDepth 100000 in
set_option maxHeartbeats 3200000 in
theorem dr_step_e6 (w : World) (o n : Int) (t : ByteArray) (k : F) (ih : DrS k) (hn : niceD (o, n, t, k) = true) (hcnt : k.cnt ≤ 10000) (a : Option Addr) (cap : Nat) (fs : List Nat) (hs : SubAt w a k fs) (hfs : ∀ c ∈ fs, c < w.heap.size) (hc : k.len ≤ cap) (h7 : o = 6) (d1 : D) (hK : mapL (chD emR) k = consD d1 .nil) (h1 : d1.1 ≠ 1) :
    Calls Try.prog 78 #[.agg #[.int .i64 o, .int .i64 n, .string t, .slice a k.len cap]] w (NewD w (6, n, t, mapL (chD emR) k)) := by
  have hnk : nice k = true := (nice_kids hn).2
  obtain ⟨φ, hφφ⟩ : ∃ φ, chD emR = φ := ⟨_, rfl⟩
  have ih := fun (w : World) (o n : Int) (t : ByteArray) (k1 : F) (p r : F) (a : Option Addr) (cap : Nat) (fs : List Nat) (h : k = p.app (.cons o n t k1 r)) => ih w o n t k1 p r a cap fs h hnk hcnt
  rw [hφφ] at ih
  subst h7
  rw [hφφ] at hK
  have HK0 := Lib.hid hK
  clear hK
  rw [hφφ]
  obtain ⟨i0, hi, hz0, hz1, hz2⟩ := info_parts To.info
  obtain ⟨L, hL⟩ : ∃ L, k.len = L := ⟨_, rfl⟩
  rw [hL] at hc ⊢
  have HL := Lib.hid hL
  have HML := Lib.hid (show (mapL φ k).len = L by rw [len_mapL, hL])
  have hL4 : L ≤ 4194304 := by have := F.len_le_cnt k; omega
  clear hL
  have hsub : 0 < L → ∃ b off f', a = some ⟨b, off, none⟩ ∧ RowAt w k b off f' ∧ b < w.heap.size ∧ ∀ c ∈ f', c < w.heap.size := by
    intro h0
    rcases hs with ⟨rfl, rfl⟩ | ⟨b, off, f', rfl, hnil, rfl, hrow⟩
    · have := HL.out; simp only [F.len] at this; omega
    · exact ⟨b, off, f', rfl, hrow, hfs b (by simp), fun c hc => hfs c (by simp [hc])⟩
  have HSUB := Lib.hid hsub
  have IH := Lib.hid ih
  have HI := Lib.hid (And.intro hi (And.intro hz0 (And.intro hz1 hz2)))
  have HST := Lib.hid (kd_start w 6 n t (.slice a L cap) φ k 25)
  clear hsub hs hfs ih hi hz0 hz1 hz2 hnk hn hcnt
  go_enter Try.func78, Try.ntmps78
  go_wp2_with fail
  go_loopw [3, 4] (fun v i wr => KdAt w 6 n t (.slice a L cap) φ k v i wr) (fun _ i _ => L - (intOf i).toNat)
  case atStart => exact HST.out
  case round =>
    obtain ⟨j, p, g, fs1, rfl, h3, h5, hG, hbw, hfv, hzb⟩ := hrel
    have h7 : g.len = L - j := by have := HL.out; rw [h3, F.len_app, h5] at this; omega
    have hjL0 : j ≤ L := by have := HL.out; rw [h3, F.len_app, h5] at this; omega
    obtain ⟨x0, x1, x2, x3⟩ := hfv
    have hsz0 : w.heap.size + 1 < wr.heap.size := hzb.2.2
    cases g with
    | nil =>
      have hjL : L = j := by simp only [F.len] at h7; omega
      subst hjL
      rw [F.app_nil] at h3
      subst h3
      obtain ⟨a', cap', rfl, hcap', hsub', hcm⟩ := hG.slice
      obtain ⟨⟨z0, z1, z2, z3⟩, ⟨z4, z5, z6, z7⟩, z8⟩ := hzb
      have HQ := Lib.hid (And.intro hsub' (And.intro hG.fresh (And.intro hbw hcap')))
      clear hG hbw hsub' h7 hcm hcap' h5 hjL0
      rw [HML.out]
      have hsubK := HQ.out.1
      have hl0 : w.heap.size < wr.heap.size := by omega
      have HZB := Lib.hid (show ZBox wr (w.heap.size + 1) from ⟨⟨z0, z1, z2, z3⟩, ⟨z4, z5, z6, z7⟩, z8⟩)
      have hlk : (1 : Nat) = L := by have := HML.out; rw [HK0.out] at this; exact this
      subst hlk
      obtain ⟨o1, n1, t1, k1⟩ := d1
      have HK := Lib.hid (show mapL φ k = .cons o1 n1 t1 k1 .nil from HK0.out)
      rw [HK.out] at hsubK
      have hFK := HQ.out.2.1
      obtain ⟨b, off, f', rfl, hb, hrow, hF'⟩ := sub_row hsubK hFK
      obtain ⟨a1, c1, f1, f2, u0, u1, u2, u3, u4, hs1, hF1, hr2, hF2⟩ := row_first hrow hF'
      obtain ⟨L1, hL1⟩ : ∃ L, k1.len = L := ⟨_, rfl⟩
      rw [hL1] at u3
      have HQ1 := Lib.hid (And.intro hs1 (And.intro hF1 (And.intro u4 hL1)))
      clear hsubK hFK hrow hF' hs1 hF1 hr2 hF2 u4 hL1
      have q1 : (o1 == 1) = false := by rw [beq_eq_false_iff_ne]; exact h1
      go_wp2_with (first
        | (go_at_call 117; refine (specEmpty _ _ _ _ _ _ _).mono ?_; rintro e1 w3 ⟨rfl, rfl⟩)
        | (go_at_call 103; refine (specMap _ _ _ _ _ _ _ _ _ _).mono ?_; rintro e1 w3 ⟨rfl, hb3⟩; have q3 : Ext wr w3 := (by first | exact hb3 | exact ((Ext.refl wr).alloc _).trans hb3 | exact (((Ext.refl wr).alloc _).alloc _).trans hb3); obtain ⟨⟨z0, z1, z2, z3⟩, ⟨z4, z5, z6, z7⟩, z8⟩ := HZB.out.ext q3))
      refine bodyPost_ret (v := .agg #[.int .i64 6, .int .i64 n, .string t, .slice (some ⟨b, off, none⟩) 1 cap']) (by simp [results, Try.results78, go_sem, z0, z1, z2, z3, z4, z5, z6, z7, z8, hl0]) rfl ?_
      obtain ⟨hs9, hF9, _, hc9⟩ := HQ.out
      refine end_but (x := w.heap.size + 1) (lo := w.heap.size + 2) (w3 := wr) HML.out hs9 hF9 hc9 (by omega) (by omega) HQ.out.2.2.1 (by repeat (first | exact But.of_below q3 | exact But.refl _ _ _ | refine But.setCell ?_ (Or.inl (by rfl)) _ | refine But.alloc ?_ (by simp) _))
    | cons o1 n1 t1 k1 r1 =>
      have hjL : j < L := by simp only [F.len] at h7; omega
      obtain ⟨b, off, f', rfl, hrow, hbB, hfB⟩ := HSUB.out (by omega)
      rw [h3] at hrow
      obtain ⟨a1, cap1, f1, c0, c1, c2, c3, hc1', hsub1, hin⟩ := row_at hrow
      rw [h5] at c0 c1 c2 c3
      rw [← hbw.cell (p := ⟨_, _, _⟩) hbB] at c0 c1 c2 c3
      have hd := fun (W1 : World) (hw1 : Ext wr W1) => IH.out W1 o1 n1 t1 k1 p r1 a1 cap1 f1 h3 (hsub1.below (fun c hc => hfB c (hin c hc)) (hbw.trans (hw1.mono hbw.size))) (fun c hc => Nat.lt_of_lt_of_le (hfB c (hin c hc)) (Nat.le_trans hbw.size hw1.size)) hc1'
      obtain ⟨⟨o2, n2, t2, k2⟩, hφ⟩ : ∃ d : D, φ o1 n1 t1 k1 = d := ⟨_, rfl⟩
      rw [hφ] at hd
      have HD := Lib.hid hd
      have H := Lib.hid (And.intro h3 (And.intro h5 (And.intro hG (And.intro hbw hzb))))
      have HF := Lib.hid hφ
      have i0' : (0 : Int) ≤ (j : Int) := Int.natCast_nonneg _
      have i1 : (j : Int) < (L : Int) := by omega
      have HX := Lib.hid (show Four w.heap.size (.int .i64 6) (.int .i64 n) (.string t) (.slice (some ⟨b, off, none⟩) L cap) wr from ⟨x0, x1, x2, x3⟩)
      clear hd h3 h5 h7 hbw hrow hG hφ hzb
      go_wp2_with (first
        | (go_at_call 78; refine (HD.out _ (by exact Ext.refl _)).mono ?_; rintro e1 w1 ⟨a2, cap2, f2, rfl, hc2, hs2, hfr2, hb2⟩; have HST2 := Lib.hid (fun ob => mid_d (ob := ob) H.out.2.2.1 hb2); have H2 := Lib.hid (And.intro hs2 (And.intro hfr2 (And.intro hb2 hc2))); clear hs2 hfr2 hb2 hc2 c0 c1 c2 c3)
        | (at_builtin; refine append_doc rfl (.tmp 13) (.tmp 20) 23 rfl Try.underlying23 HI.out.1 HI.out.2.1 HI.out.2.2.1 HI.out.2.2.2 rfl rfl (HST2.out _).1 (d := w1.heap.size) (c := 1) rfl (cell_new w1 _ _ 0 _ rfl) (cell_new w1 _ _ 1 _ rfl) (cell_new w1 _ _ 2 _ rfl) (cell_new w1 _ _ 3 _ rfl) H2.out.2.2.2 (H2.out.1.below H2.out.2.1.lt ((Below.refl _ _).alloc (Nat.le_refl _) _)) (H2.out.2.1.below H2.out.2.1.lt ((Below.refl _ _).alloc (Nat.le_refl _) _)) (HST2.out (.cells #[] 0)).2.1 (HST2.out (.cells #[] 0)).2.2.1 (HST2.out (.cells #[] 0)).2.2.2.1 (by rw [len_mapL]; have := H.out.2.1; omega) ?_; intro v' w2 fs' hG' hb' hg'))
      go_roundw
      case rel =>
        obtain ⟨h3, h5, hG, hbw, hzb⟩ := H.out
        have hch := mid_end H2.out.2.2.1 hb' hG.2.2.2
        refine ⟨j + 1, p.app (.cons o1 n1 t1 k1 .nil), r1, fs', by go_num, by rw [h3, F.app_assoc]; rfl, by rw [F.len_app, h5]; rfl, ?_, hbw.trans (hch.mono (by omega)), HX.out.below hch (by omega), zbox_below hzb hch (by omega)⟩
        rw [mapL_app, show mapL φ (.cons o1 n1 t1 k1 .nil) = .cons o2 n2 t2 k2 .nil by rw [mapL, HF.out]; rfl]
        exact hG'
      case measure => simp [intOf]; omega

set_option maxRecDepth 100000 in
set_option maxHeartbeats 3200000 in
theorem dr_step_d8 (w : World) (o n : Int) (t : ByteArray) (k : F) (ih : DrS k) (hn : niceD (o, n, t, k) = true) (hcnt : k.cnt ≤ 10000) (a : Option Addr) (cap : Nat) (fs : List Nat) (hs : SubAt w a k fs) (hfs : ∀ c ∈ fs, c < w.heap.size) (hc : k.len ≤ cap) (h7 : o = 8) (d1 : D) (hK : mapL (chD emR) k = consD d1 .nil) (h1 : d1.1 = 1) :
    Calls Try.prog 78 #[.agg #[.int .i64 o, .int .i64 n, .string t, .slice a k.len cap]] w (NewD w d1) := by
  have hnk : nice k = true := (nice_kids hn).2
  obtain ⟨φ, hφφ⟩ : ∃ φ, chD emR = φ := ⟨_, rfl⟩
  have ih := fun (w : World) (o n : Int) (t : ByteArray) (k1 : F) (p r : F) (a : Option Addr) (cap : Nat) (fs : List Nat) (h : k = p.app (.cons o n t k1 r)) => ih w o n t k1 p r a cap fs h hnk hcnt
  rw [hφφ] at ih
  subst h7
  rw [hφφ] at hK
  have HK0 := Lib.hid hK
  clear hK
  obtain ⟨i0, hi, hz0, hz1, hz2⟩ := info_parts To.info
  obtain ⟨L, hL⟩ : ∃ L, k.len = L := ⟨_, rfl⟩
  rw [hL] at hc ⊢
  have HL := Lib.hid hL
  have HML := Lib.hid (show (mapL φ k).len = L by rw [len_mapL, hL])
  have hL4 : L ≤ 4194304 := by have := F.len_le_cnt k; omega
  clear hL
  have hsub : 0 < L → ∃ b off f', a = some ⟨b, off, none⟩ ∧ RowAt w k b off f' ∧ b < w.heap.size ∧ ∀ c ∈ f', c < w.heap.size := by
    intro h0
    rcases hs with ⟨rfl, rfl⟩ | ⟨b, off, f', rfl, hnil, rfl, hrow⟩
    · have := HL.out; simp only [F.len] at this; omega
    · exact ⟨b, off, f', rfl, hrow, hfs b (by simp), fun c hc => hfs c (by simp [hc])⟩
  have HSUB := Lib.hid hsub
  have IH := Lib.hid ih
  have HI := Lib.hid (And.intro hi (And.intro hz0 (And.intro hz1 hz2)))
  have HST := Lib.hid (kd_start w 8 n t (.slice a L cap) φ k 25)
  clear hsub hs hfs ih hi hz0 hz1 hz2 hnk hn hcnt
  go_enter Try.func78, Try.ntmps78
  go_wp2_with fail
  go_loopw [3, 4] (fun v i wr => KdAt w 8 n t (.slice a L cap) φ k v i wr) (fun _ i _ => L - (intOf i).toNat)
  case atStart => exact HST.out
  case round =>
    obtain ⟨j, p, g, fs1, rfl, h3, h5, hG, hbw, hfv, hzb⟩ := hrel
    have h7 : g.len = L - j := by have := HL.out; rw [h3, F.len_app, h5] at this; omega
    have hjL0 : j ≤ L := by have := HL.out; rw [h3, F.len_app, h5] at this; omega
    obtain ⟨x0, x1, x2, x3⟩ := hfv
    have hsz0 : w.heap.size + 1 < wr.heap.size := hzb.2.2
    cases g with
    | nil =>
      have hjL : L = j := by simp only [F.len] at h7; omega
      subst hjL
      rw [F.app_nil] at h3
      subst h3
      obtain ⟨a', cap', rfl, hcap', hsub', hcm⟩ := hG.slice
      obtain ⟨⟨z0, z1, z2, z3⟩, ⟨z4, z5, z6, z7⟩, z8⟩ := hzb
      have HQ := Lib.hid (And.intro hsub' (And.intro hG.fresh (And.intro hbw hcap')))
      clear hG hbw hsub' h7 hcm hcap' h5 hjL0
      rw [HML.out]
      have hsubK := HQ.out.1
      have hl0 : w.heap.size < wr.heap.size := by omega
      have HZB := Lib.hid (show ZBox wr (w.heap.size + 1) from ⟨⟨z0, z1, z2, z3⟩, ⟨z4, z5, z6, z7⟩, z8⟩)
      have hlk : (1 : Nat) = L := by have := HML.out; rw [HK0.out] at this; exact this
      subst hlk
      obtain ⟨o1, n1, t1, k1⟩ := d1
      have HK := Lib.hid (show mapL φ k = .cons o1 n1 t1 k1 .nil from HK0.out)
      rw [HK.out] at hsubK
      have hFK := HQ.out.2.1
      obtain ⟨b, off, f', rfl, hb, hrow, hF'⟩ := sub_row hsubK hFK
      obtain ⟨a1, c1, f1, f2, u0, u1, u2, u3, u4, hs1, hF1, hr2, hF2⟩ := row_first hrow hF'
      obtain ⟨L1, hL1⟩ : ∃ L, k1.len = L := ⟨_, rfl⟩
      rw [hL1] at u3
      have HQ1 := Lib.hid (And.intro hs1 (And.intro hF1 (And.intro u4 hL1)))
      clear hsubK hFK hrow hF' hs1 hF1 hr2 hF2 u4 hL1
      have q1 : (o1 == 1) = true := by rw [beq_iff_eq]; exact h1
      go_wp2_with (first
        | (go_at_call 117; refine (specEmpty _ _ _ _ _ _ _).mono ?_; rintro e1 w3 ⟨rfl, rfl⟩)
        | (go_at_call 103; refine (specMap _ _ _ _ _ _ _ _ _ _).mono ?_; rintro e1 w3 ⟨rfl, hb3⟩; have q3 : Ext wr w3 := (by first | exact hb3 | exact ((Ext.refl wr).alloc _).trans hb3 | exact (((Ext.refl wr).alloc _).alloc _).trans hb3); obtain ⟨⟨z0, z1, z2, z3⟩, ⟨z4, z5, z6, z7⟩, z8⟩ := HZB.out.ext q3))
      refine bodyPost_ret (v := .agg #[.int .i64 o1, .int .i64 n1, .string t1, .slice a1 L1 c1]) (by simp [results, Try.results78, go_sem, z0, z1, z2, z3, z4, z5, z6, z7, z8, hl0, show o1 = 1 from h1]) rfl ?_
      obtain ⟨hs1, hF1, u4, hL1⟩ := HQ1.out
      refine end_but (x := w.heap.size + 1) (lo := w.heap.size + 2) (w3 := wr) hL1 hs1 hF1 u4 (by omega) (by omega) HQ.out.2.2.1 (by repeat (first | exact But.of_below q3 | exact But.refl _ _ _ | refine But.setCell ?_ (Or.inl (by rfl)) _ | refine But.alloc ?_ (by simp) _))
    | cons o1 n1 t1 k1 r1 =>
      have hjL : j < L := by simp only [F.len] at h7; omega
      obtain ⟨b, off, f', rfl, hrow, hbB, hfB⟩ := HSUB.out (by omega)
      rw [h3] at hrow
      obtain ⟨a1, cap1, f1, c0, c1, c2, c3, hc1', hsub1, hin⟩ := row_at hrow
      rw [h5] at c0 c1 c2 c3
      rw [← hbw.cell (p := ⟨_, _, _⟩) hbB] at c0 c1 c2 c3
      have hd := fun (W1 : World) (hw1 : Ext wr W1) => IH.out W1 o1 n1 t1 k1 p r1 a1 cap1 f1 h3 (hsub1.below (fun c hc => hfB c (hin c hc)) (hbw.trans (hw1.mono hbw.size))) (fun c hc => Nat.lt_of_lt_of_le (hfB c (hin c hc)) (Nat.le_trans hbw.size hw1.size)) hc1'
      obtain ⟨⟨o2, n2, t2, k2⟩, hφ⟩ : ∃ d : D, φ o1 n1 t1 k1 = d := ⟨_, rfl⟩
      rw [hφ] at hd
      have HD := Lib.hid hd
      have H := Lib.hid (And.intro h3 (And.intro h5 (And.intro hG (And.intro hbw hzb))))
      have HF := Lib.hid hφ
      have i0' : (0 : Int) ≤ (j : Int) := Int.natCast_nonneg _
      have i1 : (j : Int) < (L : Int) := by omega
      have HX := Lib.hid (show Four w.heap.size (.int .i64 8) (.int .i64 n) (.string t) (.slice (some ⟨b, off, none⟩) L cap) wr from ⟨x0, x1, x2, x3⟩)
      clear hd h3 h5 h7 hbw hrow hG hφ hzb
      go_wp2_with (first
        | (go_at_call 78; refine (HD.out _ (by exact Ext.refl _)).mono ?_; rintro e1 w1 ⟨a2, cap2, f2, rfl, hc2, hs2, hfr2, hb2⟩; have HST2 := Lib.hid (fun ob => mid_d (ob := ob) H.out.2.2.1 hb2); have H2 := Lib.hid (And.intro hs2 (And.intro hfr2 (And.intro hb2 hc2))); clear hs2 hfr2 hb2 hc2 c0 c1 c2 c3)
        | (at_builtin; refine append_doc rfl (.tmp 13) (.tmp 20) 23 rfl Try.underlying23 HI.out.1 HI.out.2.1 HI.out.2.2.1 HI.out.2.2.2 rfl rfl (HST2.out _).1 (d := w1.heap.size) (c := 1) rfl (cell_new w1 _ _ 0 _ rfl) (cell_new w1 _ _ 1 _ rfl) (cell_new w1 _ _ 2 _ rfl) (cell_new w1 _ _ 3 _ rfl) H2.out.2.2.2 (H2.out.1.below H2.out.2.1.lt ((Below.refl _ _).alloc (Nat.le_refl _) _)) (H2.out.2.1.below H2.out.2.1.lt ((Below.refl _ _).alloc (Nat.le_refl _) _)) (HST2.out (.cells #[] 0)).2.1 (HST2.out (.cells #[] 0)).2.2.1 (HST2.out (.cells #[] 0)).2.2.2.1 (by rw [len_mapL]; have := H.out.2.1; omega) ?_; intro v' w2 fs' hG' hb' hg'))
      go_roundw
      case rel =>
        obtain ⟨h3, h5, hG, hbw, hzb⟩ := H.out
        have hch := mid_end H2.out.2.2.1 hb' hG.2.2.2
        refine ⟨j + 1, p.app (.cons o1 n1 t1 k1 .nil), r1, fs', by go_num, by rw [h3, F.app_assoc]; rfl, by rw [F.len_app, h5]; rfl, ?_, hbw.trans (hch.mono (by omega)), HX.out.below hch (by omega), zbox_below hzb hch (by omega)⟩
        rw [mapL_app, show mapL φ (.cons o1 n1 t1 k1 .nil) = .cons o2 n2 t2 k2 .nil by rw [mapL, HF.out]; rfl]
        exact hG'
      case measure => simp [intOf]; omega

set_option maxRecDepth 100000 in
set_option maxHeartbeats 3200000 in
theorem dr_step_e8 (w : World) (o n : Int) (t : ByteArray) (k : F) (ih : DrS k) (hn : niceD (o, n, t, k) = true) (hcnt : k.cnt ≤ 10000) (a : Option Addr) (cap : Nat) (fs : List Nat) (hs : SubAt w a k fs) (hfs : ∀ c ∈ fs, c < w.heap.size) (hc : k.len ≤ cap) (h7 : o = 8) (d1 : D) (hK : mapL (chD emR) k = consD d1 .nil) (h1 : d1.1 ≠ 1) :
    Calls Try.prog 78 #[.agg #[.int .i64 o, .int .i64 n, .string t, .slice a k.len cap]] w (NewD w (8, n, t, mapL (chD emR) k)) := by
  have hnk : nice k = true := (nice_kids hn).2
  obtain ⟨φ, hφφ⟩ : ∃ φ, chD emR = φ := ⟨_, rfl⟩
  have ih := fun (w : World) (o n : Int) (t : ByteArray) (k1 : F) (p r : F) (a : Option Addr) (cap : Nat) (fs : List Nat) (h : k = p.app (.cons o n t k1 r)) => ih w o n t k1 p r a cap fs h hnk hcnt
  rw [hφφ] at ih
  subst h7
  rw [hφφ] at hK
  have HK0 := Lib.hid hK
  clear hK
  rw [hφφ]
  obtain ⟨i0, hi, hz0, hz1, hz2⟩ := info_parts To.info
  obtain ⟨L, hL⟩ : ∃ L, k.len = L := ⟨_, rfl⟩
  rw [hL] at hc ⊢
  have HL := Lib.hid hL
  have HML := Lib.hid (show (mapL φ k).len = L by rw [len_mapL, hL])
  have hL4 : L ≤ 4194304 := by have := F.len_le_cnt k; omega
  clear hL
  have hsub : 0 < L → ∃ b off f', a = some ⟨b, off, none⟩ ∧ RowAt w k b off f' ∧ b < w.heap.size ∧ ∀ c ∈ f', c < w.heap.size := by
    intro h0
    rcases hs with ⟨rfl, rfl⟩ | ⟨b, off, f', rfl, hnil, rfl, hrow⟩
    · have := HL.out; simp only [F.len] at this; omega
    · exact ⟨b, off, f', rfl, hrow, hfs b (by simp), fun c hc => hfs c (by simp [hc])⟩
  have HSUB := Lib.hid hsub
  have IH := Lib.hid ih
  have HI := Lib.hid (And.intro hi (And.intro hz0 (And.intro hz1 hz2)))
  have HST := Lib.hid (kd_start w 8 n t (.slice a L cap) φ k 25)
  clear hsub hs hfs ih hi hz0 hz1 hz2 hnk hn hcnt
  go_enter Try.func78, Try.ntmps78
  go_wp2_with fail
  go_loopw [3, 4] (fun v i wr => KdAt w 8 n t (.slice a L cap) φ k v i wr) (fun _ i _ => L - (intOf i).toNat)
  case atStart => exact HST.out
  case round =>
    obtain ⟨j, p, g, fs1, rfl, h3, h5, hG, hbw, hfv, hzb⟩ := hrel
    have h7 : g.len = L - j := by have := HL.out; rw [h3, F.len_app, h5] at this; omega
    have hjL0 : j ≤ L := by have := HL.out; rw [h3, F.len_app, h5] at this; omega
    obtain ⟨x0, x1, x2, x3⟩ := hfv
    have hsz0 : w.heap.size + 1 < wr.heap.size := hzb.2.2
    cases g with
    | nil =>
      have hjL : L = j := by simp only [F.len] at h7; omega
      subst hjL
      rw [F.app_nil] at h3
      subst h3
      obtain ⟨a', cap', rfl, hcap', hsub', hcm⟩ := hG.slice
      obtain ⟨⟨z0, z1, z2, z3⟩, ⟨z4, z5, z6, z7⟩, z8⟩ := hzb
      have HQ := Lib.hid (And.intro hsub' (And.intro hG.fresh (And.intro hbw hcap')))
      clear hG hbw hsub' h7 hcm hcap' h5 hjL0
      rw [HML.out]
      have hsubK := HQ.out.1
      have hl0 : w.heap.size < wr.heap.size := by omega
      have HZB := Lib.hid (show ZBox wr (w.heap.size + 1) from ⟨⟨z0, z1, z2, z3⟩, ⟨z4, z5, z6, z7⟩, z8⟩)
      have hlk : (1 : Nat) = L := by have := HML.out; rw [HK0.out] at this; exact this
      subst hlk
      obtain ⟨o1, n1, t1, k1⟩ := d1
      have HK := Lib.hid (show mapL φ k = .cons o1 n1 t1 k1 .nil from HK0.out)
      rw [HK.out] at hsubK
      have hFK := HQ.out.2.1
      obtain ⟨b, off, f', rfl, hb, hrow, hF'⟩ := sub_row hsubK hFK
      obtain ⟨a1, c1, f1, f2, u0, u1, u2, u3, u4, hs1, hF1, hr2, hF2⟩ := row_first hrow hF'
      obtain ⟨L1, hL1⟩ : ∃ L, k1.len = L := ⟨_, rfl⟩
      rw [hL1] at u3
      have HQ1 := Lib.hid (And.intro hs1 (And.intro hF1 (And.intro u4 hL1)))
      clear hsubK hFK hrow hF' hs1 hF1 hr2 hF2 u4 hL1
      have q1 : (o1 == 1) = false := by rw [beq_eq_false_iff_ne]; exact h1
      go_wp2_with (first
        | (go_at_call 117; refine (specEmpty _ _ _ _ _ _ _).mono ?_; rintro e1 w3 ⟨rfl, rfl⟩)
        | (go_at_call 103; refine (specMap _ _ _ _ _ _ _ _ _ _).mono ?_; rintro e1 w3 ⟨rfl, hb3⟩; have q3 : Ext wr w3 := (by first | exact hb3 | exact ((Ext.refl wr).alloc _).trans hb3 | exact (((Ext.refl wr).alloc _).alloc _).trans hb3); obtain ⟨⟨z0, z1, z2, z3⟩, ⟨z4, z5, z6, z7⟩, z8⟩ := HZB.out.ext q3))
      refine bodyPost_ret (v := .agg #[.int .i64 8, .int .i64 n, .string t, .slice (some ⟨b, off, none⟩) 1 cap']) (by simp [results, Try.results78, go_sem, z0, z1, z2, z3, z4, z5, z6, z7, z8, hl0]) rfl ?_
      obtain ⟨hs9, hF9, _, hc9⟩ := HQ.out
      refine end_but (x := w.heap.size + 1) (lo := w.heap.size + 2) (w3 := wr) HML.out hs9 hF9 hc9 (by omega) (by omega) HQ.out.2.2.1 (by repeat (first | exact But.of_below q3 | exact But.refl _ _ _ | refine But.setCell ?_ (Or.inl (by rfl)) _ | refine But.alloc ?_ (by simp) _))
    | cons o1 n1 t1 k1 r1 =>
      have hjL : j < L := by simp only [F.len] at h7; omega
      obtain ⟨b, off, f', rfl, hrow, hbB, hfB⟩ := HSUB.out (by omega)
      rw [h3] at hrow
      obtain ⟨a1, cap1, f1, c0, c1, c2, c3, hc1', hsub1, hin⟩ := row_at hrow
      rw [h5] at c0 c1 c2 c3
      rw [← hbw.cell (p := ⟨_, _, _⟩) hbB] at c0 c1 c2 c3
      have hd := fun (W1 : World) (hw1 : Ext wr W1) => IH.out W1 o1 n1 t1 k1 p r1 a1 cap1 f1 h3 (hsub1.below (fun c hc => hfB c (hin c hc)) (hbw.trans (hw1.mono hbw.size))) (fun c hc => Nat.lt_of_lt_of_le (hfB c (hin c hc)) (Nat.le_trans hbw.size hw1.size)) hc1'
      obtain ⟨⟨o2, n2, t2, k2⟩, hφ⟩ : ∃ d : D, φ o1 n1 t1 k1 = d := ⟨_, rfl⟩
      rw [hφ] at hd
      have HD := Lib.hid hd
      have H := Lib.hid (And.intro h3 (And.intro h5 (And.intro hG (And.intro hbw hzb))))
      have HF := Lib.hid hφ
      have i0' : (0 : Int) ≤ (j : Int) := Int.natCast_nonneg _
      have i1 : (j : Int) < (L : Int) := by omega
      have HX := Lib.hid (show Four w.heap.size (.int .i64 8) (.int .i64 n) (.string t) (.slice (some ⟨b, off, none⟩) L cap) wr from ⟨x0, x1, x2, x3⟩)
      clear hd h3 h5 h7 hbw hrow hG hφ hzb
      go_wp2_with (first
        | (go_at_call 78; refine (HD.out _ (by exact Ext.refl _)).mono ?_; rintro e1 w1 ⟨a2, cap2, f2, rfl, hc2, hs2, hfr2, hb2⟩; have HST2 := Lib.hid (fun ob => mid_d (ob := ob) H.out.2.2.1 hb2); have H2 := Lib.hid (And.intro hs2 (And.intro hfr2 (And.intro hb2 hc2))); clear hs2 hfr2 hb2 hc2 c0 c1 c2 c3)
        | (at_builtin; refine append_doc rfl (.tmp 13) (.tmp 20) 23 rfl Try.underlying23 HI.out.1 HI.out.2.1 HI.out.2.2.1 HI.out.2.2.2 rfl rfl (HST2.out _).1 (d := w1.heap.size) (c := 1) rfl (cell_new w1 _ _ 0 _ rfl) (cell_new w1 _ _ 1 _ rfl) (cell_new w1 _ _ 2 _ rfl) (cell_new w1 _ _ 3 _ rfl) H2.out.2.2.2 (H2.out.1.below H2.out.2.1.lt ((Below.refl _ _).alloc (Nat.le_refl _) _)) (H2.out.2.1.below H2.out.2.1.lt ((Below.refl _ _).alloc (Nat.le_refl _) _)) (HST2.out (.cells #[] 0)).2.1 (HST2.out (.cells #[] 0)).2.2.1 (HST2.out (.cells #[] 0)).2.2.2.1 (by rw [len_mapL]; have := H.out.2.1; omega) ?_; intro v' w2 fs' hG' hb' hg'))
      go_roundw
      case rel =>
        obtain ⟨h3, h5, hG, hbw, hzb⟩ := H.out
        have hch := mid_end H2.out.2.2.1 hb' hG.2.2.2
        refine ⟨j + 1, p.app (.cons o1 n1 t1 k1 .nil), r1, fs', by go_num, by rw [h3, F.app_assoc]; rfl, by rw [F.len_app, h5]; rfl, ?_, hbw.trans (hch.mono (by omega)), HX.out.below hch (by omega), zbox_below hzb hch (by omega)⟩
        rw [mapL_app, show mapL φ (.cons o1 n1 t1 k1 .nil) = .cons o2 n2 t2 k2 .nil by rw [mapL, HF.out]; rfl]
        exact hG'
      case measure => simp [intOf]; omega

set_option maxRecDepth 100000 in
set_option maxHeartbeats 3200000 in
theorem dr_step_f (w : World) (o n : Int) (t : ByteArray) (k : F) (ih : DrS k) (hn : niceD (o, n, t, k) = true) (hcnt : k.cnt ≤ 10000) (a : Option Addr) (cap : Nat) (fs : List Nat) (hs : SubAt w a k fs) (hfs : ∀ c ∈ fs, c < w.heap.size) (hc : k.len ≤ cap) (h6 : o ≠ 6) (h7 : o ≠ 7) (h8 : o ≠ 8) :
    Calls Try.prog 78 #[.agg #[.int .i64 o, .int .i64 n, .string t, .slice a k.len cap]] w (NewD w (o, n, t, mapL (chD emR) k)) := by
  have hnk : nice k = true := (nice_kids hn).2
  obtain ⟨φ, hφφ⟩ : ∃ φ, chD emR = φ := ⟨_, rfl⟩
  have ih := fun (w : World) (o n : Int) (t : ByteArray) (k1 : F) (p r : F) (a : Option Addr) (cap : Nat) (fs : List Nat) (h : k = p.app (.cons o n t k1 r)) => ih w o n t k1 p r a cap fs h hnk hcnt
  rw [hφφ] at ih
  rw [hφφ]
  have q6 : (o == 6) = false := by rw [beq_eq_false_iff_ne]; exact h6
  have q7 : (o == 7) = false := by rw [beq_eq_false_iff_ne]; exact h7
  have q8 : (o == 8) = false := by rw [beq_eq_false_iff_ne]; exact h8
  obtain ⟨i0, hi, hz0, hz1, hz2⟩ := info_parts To.info
  obtain ⟨L, hL⟩ : ∃ L, k.len = L := ⟨_, rfl⟩
  rw [hL] at hc ⊢
  have HL := Lib.hid hL
  have HML := Lib.hid (show (mapL φ k).len = L by rw [len_mapL, hL])
  have hL4 : L ≤ 4194304 := by have := F.len_le_cnt k; omega
  clear hL
  have hsub : 0 < L → ∃ b off f', a = some ⟨b, off, none⟩ ∧ RowAt w k b off f' ∧ b < w.heap.size ∧ ∀ c ∈ f', c < w.heap.size := by
    intro h0
    rcases hs with ⟨rfl, rfl⟩ | ⟨b, off, f', rfl, hnil, rfl, hrow⟩
    · have := HL.out; simp only [F.len] at this; omega
    · exact ⟨b, off, f', rfl, hrow, hfs b (by simp), fun c hc => hfs c (by simp [hc])⟩
  have HSUB := Lib.hid hsub
  have IH := Lib.hid ih
  have HI := Lib.hid (And.intro hi (And.intro hz0 (And.intro hz1 hz2)))
  have HST := Lib.hid (kd_start w o n t (.slice a L cap) φ k 25)
  clear hsub hs hfs ih hi hz0 hz1 hz2 hnk hn hcnt
  go_enter Try.func78, Try.ntmps78
  go_wp2_with fail
  go_loopw [3, 4] (fun v i wr => KdAt w o n t (.slice a L cap) φ k v i wr) (fun _ i _ => L - (intOf i).toNat)
  case atStart => exact HST.out
  case round =>
    obtain ⟨j, p, g, fs1, rfl, h3, h5, hG, hbw, hfv, hzb⟩ := hrel
    have h7 : g.len = L - j := by have := HL.out; rw [h3, F.len_app, h5] at this; omega
    have hjL0 : j ≤ L := by have := HL.out; rw [h3, F.len_app, h5] at this; omega
    obtain ⟨x0, x1, x2, x3⟩ := hfv
    have hsz0 : w.heap.size + 1 < wr.heap.size := hzb.2.2
    cases g with
    | nil =>
      have hjL : L = j := by simp only [F.len] at h7; omega
      subst hjL
      rw [F.app_nil] at h3
      subst h3
      obtain ⟨a', cap', rfl, hcap', hsub', hcm⟩ := hG.slice
      obtain ⟨⟨z0, z1, z2, z3⟩, ⟨z4, z5, z6, z7⟩, z8⟩ := hzb
      have HQ := Lib.hid (And.intro hsub' (And.intro hG.fresh (And.intro hbw hcap')))
      clear hG hbw hsub' h7 hcm hcap' h5 hjL0
      rw [HML.out]
      have hsubK := HQ.out.1
      have hl0 : w.heap.size < wr.heap.size := by omega
      have HZB := Lib.hid (show ZBox wr (w.heap.size + 1) from ⟨⟨z0, z1, z2, z3⟩, ⟨z4, z5, z6, z7⟩, z8⟩)
      go_wp2_with (first
        | (go_at_call 117; refine (specEmpty _ _ _ _ _ _ _).mono ?_; rintro e1 w3 ⟨rfl, rfl⟩)
        | (go_at_call 103; refine (specMap _ _ _ _ _ _ _ _ _ _).mono ?_; rintro e1 w3 ⟨rfl, hb3⟩; have q3 : Ext wr w3 := (by first | exact hb3 | exact ((Ext.refl wr).alloc _).trans hb3 | exact (((Ext.refl wr).alloc _).alloc _).trans hb3); obtain ⟨⟨z0, z1, z2, z3⟩, ⟨z4, z5, z6, z7⟩, z8⟩ := HZB.out.ext q3))
      refine bodyPost_ret (v := .agg #[.int .i64 o, .int .i64 n, .string t, .slice a' L cap']) (by simp [results, Try.results78, go_sem, z0, z1, z2, z3, z4, z5, z6, z7, z8, hl0]) rfl ?_
      obtain ⟨hs9, hF9, _, hc9⟩ := HQ.out
      refine end_but (x := w.heap.size + 1) (lo := w.heap.size + 2) (w3 := wr) HML.out hs9 hF9 hc9 (by omega) (by omega) HQ.out.2.2.1 (by repeat (first | exact But.of_below q3 | exact But.refl _ _ _ | refine But.setCell ?_ (Or.inl (by rfl)) _ | refine But.alloc ?_ (by simp) _))
    | cons o1 n1 t1 k1 r1 =>
      have hjL : j < L := by simp only [F.len] at h7; omega
      obtain ⟨b, off, f', rfl, hrow, hbB, hfB⟩ := HSUB.out (by omega)
      rw [h3] at hrow
      obtain ⟨a1, cap1, f1, c0, c1, c2, c3, hc1', hsub1, hin⟩ := row_at hrow
      rw [h5] at c0 c1 c2 c3
      rw [← hbw.cell (p := ⟨_, _, _⟩) hbB] at c0 c1 c2 c3
      have hd := fun (W1 : World) (hw1 : Ext wr W1) => IH.out W1 o1 n1 t1 k1 p r1 a1 cap1 f1 h3 (hsub1.below (fun c hc => hfB c (hin c hc)) (hbw.trans (hw1.mono hbw.size))) (fun c hc => Nat.lt_of_lt_of_le (hfB c (hin c hc)) (Nat.le_trans hbw.size hw1.size)) hc1'
      obtain ⟨⟨o2, n2, t2, k2⟩, hφ⟩ : ∃ d : D, φ o1 n1 t1 k1 = d := ⟨_, rfl⟩
      rw [hφ] at hd
      have HD := Lib.hid hd
      have H := Lib.hid (And.intro h3 (And.intro h5 (And.intro hG (And.intro hbw hzb))))
      have HF := Lib.hid hφ
      have i0' : (0 : Int) ≤ (j : Int) := Int.natCast_nonneg _
      have i1 : (j : Int) < (L : Int) := by omega
      have HX := Lib.hid (show Four w.heap.size (.int .i64 o) (.int .i64 n) (.string t) (.slice (some ⟨b, off, none⟩) L cap) wr from ⟨x0, x1, x2, x3⟩)
      clear hd h3 h5 h7 hbw hrow hG hφ hzb
      go_wp2_with (first
        | (go_at_call 78; refine (HD.out _ (by exact Ext.refl _)).mono ?_; rintro e1 w1 ⟨a2, cap2, f2, rfl, hc2, hs2, hfr2, hb2⟩; have HST2 := Lib.hid (fun ob => mid_d (ob := ob) H.out.2.2.1 hb2); have H2 := Lib.hid (And.intro hs2 (And.intro hfr2 (And.intro hb2 hc2))); clear hs2 hfr2 hb2 hc2 c0 c1 c2 c3)
        | (at_builtin; refine append_doc rfl (.tmp 13) (.tmp 20) 23 rfl Try.underlying23 HI.out.1 HI.out.2.1 HI.out.2.2.1 HI.out.2.2.2 rfl rfl (HST2.out _).1 (d := w1.heap.size) (c := 1) rfl (cell_new w1 _ _ 0 _ rfl) (cell_new w1 _ _ 1 _ rfl) (cell_new w1 _ _ 2 _ rfl) (cell_new w1 _ _ 3 _ rfl) H2.out.2.2.2 (H2.out.1.below H2.out.2.1.lt ((Below.refl _ _).alloc (Nat.le_refl _) _)) (H2.out.2.1.below H2.out.2.1.lt ((Below.refl _ _).alloc (Nat.le_refl _) _)) (HST2.out (.cells #[] 0)).2.1 (HST2.out (.cells #[] 0)).2.2.1 (HST2.out (.cells #[] 0)).2.2.2.1 (by rw [len_mapL]; have := H.out.2.1; omega) ?_; intro v' w2 fs' hG' hb' hg'))
      go_roundw
      case rel =>
        obtain ⟨h3, h5, hG, hbw, hzb⟩ := H.out
        have hch := mid_end H2.out.2.2.1 hb' hG.2.2.2
        refine ⟨j + 1, p.app (.cons o1 n1 t1 k1 .nil), r1, fs', by go_num, by rw [h3, F.app_assoc]; rfl, by rw [F.len_app, h5]; rfl, ?_, hbw.trans (hch.mono (by omega)), HX.out.below hch (by omega), zbox_below hzb hch (by omega)⟩
        rw [mapL_app, show mapL φ (.cons o1 n1 t1 k1 .nil) = .cons o2 n2 t2 k2 .nil by rw [mapL, HF.out]; rfl]
        exact hG'
      case measure => simp [intOf]; omega


theorem dr_step (w : World) (o n : Int) (t : ByteArray) (k : F) (ih : DrS k) (hn : niceD (o, n, t, k) = true) (hcnt : k.cnt ≤ 10000) (a : Option Addr) (cap : Nat) (fs : List Nat) (hs : SubAt w a k fs) (hfs : ∀ c ∈ fs, c < w.heap.size) (hc : k.len ≤ cap) :
    Calls Try.prog 78 #[.agg #[.int .i64 o, .int .i64 n, .string t, .slice a k.len cap]] w (NewD w (chD emR o n t k)) := by
  show Calls _ _ _ w (NewD w (emR o n t (chL emR k)))
  rw [chL_map]
  by_cases h7 : o = 7
  · obtain ⟨a1, a2, hk⟩ := kids_two hn h7
    obtain ⟨d1, hd1⟩ : ∃ d, chD emR a1.1 a1.2.1 a1.2.2.1 a1.2.2.2 = d := ⟨_, rfl⟩
    obtain ⟨d2, hd2⟩ : ∃ d, chD emR a2.1 a2.2.1 a2.2.2.1 a2.2.2.2 = d := ⟨_, rfl⟩
    have hK : mapL (chD emR) k = consD d1 (consD d2 .nil) := by rw [hk, ← hd1, ← hd2]; rfl
    by_cases h1 : d1.1 = 1
    · rw [show emR o n t (mapL (chD emR) k) = d2 by rw [hK]; unfold emR; rw [if_pos ⟨h7, h1⟩]; rfl]
      exact dr_step_c1 w o n t k ih hn hcnt a cap fs hs hfs hc h7 d1 d2 hK h1
    · by_cases h2 : d2.1 = 1
      · rw [show emR o n t (mapL (chD emR) k) = d1 by rw [hK]; unfold emR; rw [if_neg (fun h => h1 h.2), if_pos ⟨h7, h2⟩]; rfl]
        exact dr_step_c2 w o n t k ih hn hcnt a cap fs hs hfs hc h7 d1 d2 hK h1 h2
      · have hh1 : (hd (mapL (chD emR) k)).1 ≠ 1 := by rw [hK]; exact h1
        have hh2 : (hd (tl (mapL (chD emR) k))).1 ≠ 1 := by rw [hK]; exact h2
        rw [show emR o n t (mapL (chD emR) k) = (7, n, t, mapL (chD emR) k) by subst h7; unfold emR; rw [if_neg (fun h => hh1 h.2), if_neg (fun h => hh2 h.2), if_neg (by omega)]]
        exact dr_step_c3 w o n t k ih hn hcnt a cap fs hs hfs hc h7 d1 d2 hK h1 h2
  · by_cases h6 : o = 6
    · obtain ⟨a1, hk⟩ := kids_one hn (Or.inl h6)
      obtain ⟨d1, hd1⟩ : ∃ d, chD emR a1.1 a1.2.1 a1.2.2.1 a1.2.2.2 = d := ⟨_, rfl⟩
      have hK : mapL (chD emR) k = consD d1 .nil := by rw [hk, ← hd1]; rfl
      by_cases h1 : d1.1 = 1
      · rw [show emR o n t (mapL (chD emR) k) = d1 by rw [hK]; unfold emR; rw [if_neg (by omega), if_neg (by omega), if_pos ⟨Or.inl h6, h1⟩]; rfl]
        exact dr_step_d6 w o n t k ih hn hcnt a cap fs hs hfs hc h6 d1 hK h1
      · have hh1 : (hd (mapL (chD emR) k)).1 ≠ 1 := by rw [hK]; exact h1
        rw [show emR o n t (mapL (chD emR) k) = (6, n, t, mapL (chD emR) k) by subst h6; unfold emR; rw [if_neg (by omega), if_neg (by omega), if_neg (fun h => hh1 h.2)]]
        exact dr_step_e6 w o n t k ih hn hcnt a cap fs hs hfs hc h6 d1 hK h1
    · by_cases h8 : o = 8
      · obtain ⟨a1, hk⟩ := kids_one hn (Or.inr h8)
        obtain ⟨d1, hd1⟩ : ∃ d, chD emR a1.1 a1.2.1 a1.2.2.1 a1.2.2.2 = d := ⟨_, rfl⟩
        have hK : mapL (chD emR) k = consD d1 .nil := by rw [hk, ← hd1]; rfl
        by_cases h1 : d1.1 = 1
        · rw [show emR o n t (mapL (chD emR) k) = d1 by rw [hK]; unfold emR; rw [if_neg (by omega), if_neg (by omega), if_pos ⟨Or.inr h8, h1⟩]; rfl]
          exact dr_step_d8 w o n t k ih hn hcnt a cap fs hs hfs hc h8 d1 hK h1
        · have hh1 : (hd (mapL (chD emR) k)).1 ≠ 1 := by rw [hK]; exact h1
          rw [show emR o n t (mapL (chD emR) k) = (8, n, t, mapL (chD emR) k) by subst h8; unfold emR; rw [if_neg (by omega), if_neg (by omega), if_neg (fun h => hh1 h.2)]]
          exact dr_step_e8 w o n t k ih hn hcnt a cap fs hs hfs hc h8 d1 hK h1
      · rw [show emR o n t (mapL (chD emR) k) = (o, n, t, mapL (chD emR) k) by unfold emR; rw [if_neg (fun h => h7 h.1), if_neg (fun h => h7 h.1), if_neg (fun h => h.1.elim h6 h8)]]
        exact dr_step_f w o n t k ih hn hcnt a cap fs hs hfs hc h6 h7 h8

/-- The contract of l7Drop, at the documents of every list. -/
theorem drS (m : Nat) : ∀ f : F, f.deep ≤ m → DrS f := by
  induction m with
  | zero =>
    intro f hf w o n t k p r a cap fs he
    rw [he, F.deep_app] at hf; simp only [F.deep] at hf; omega
  | succ m ih =>
    intro f hf w o n t k p r a cap fs he hn hcnt hs hfs hc
    have hk : k.deep ≤ m := by rw [he, F.deep_app] at hf; simp only [F.deep] at hf; omega
    have hn' : niceD (o, n, t, k) = true := by
      rw [he, nice_app, Bool.and_eq_true] at hn
      exact (Bool.and_eq_true_iff.1 hn.2).1
    rw [he, F.cnt_app] at hcnt
    simp only [F.cnt] at hcnt
    exact dr_step w o n t k (ih k hk) hn' (by omega) a cap fs hs hfs hc

theorem l7Drop (w : World) (o n : Int) (t : ByteArray) (k : F) (hn : niceD (o, n, t, k) = true) (hcnt : k.cnt ≤ 10000) (a : Option Addr) (cap : Nat) (fs : List Nat) (hs : SubAt w a k fs) (hfs : ∀ c ∈ fs, c < w.heap.size) (hc : k.len ≤ cap) :
    Calls Try.prog 78 #[.agg #[.int .i64 o, .int .i64 n, .string t, .slice a k.len cap]] w (NewD w (chD emR o n t k)) :=
  dr_step w o n t k (drS _ k (Nat.le_refl _)) hn hcnt a cap fs hs hfs hc


end Go.Proofs.Ytafhefmjnjibdaa.Nf

