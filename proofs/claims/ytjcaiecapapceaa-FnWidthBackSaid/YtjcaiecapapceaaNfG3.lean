import Derived.Test.YtjcaiecapapceaaNfGx
/-
 DropGroups of the model: l7Groups.
-/
set_option linter.unusedVariables false
set_option linter.unusedSimpArgs false
set_option maxRecDepth 100000
set_option maxHeartbeats 3200000
namespace Go.Proofs.Ytjcaiecapapceaa.Nf
open Go.RowKit P1 Copy CatD
def GsS (f : F) : Prop := ∀ (w : World) (o n : Int) (t : ByteArray) (k : F) (p r : F) (a : Option Addr) (cap : Nat) (fs : List Nat), f = p.app (.cons o n t k r) → nice f = true → f.cnt ≤ 10000 → SubAt w a k fs → (∀ c ∈ fs, c < w.heap.size) → k.len ≤ cap →
 Calls Try.prog 43 #[.agg #[.int .i64 o, .int .i64 n, .string t, .slice a k.len cap]] w (NewD w (chD grR o n t k))
theorem four_new (W : World) (u0 u1 u2 u3 : Value) (T : TypeId) : Four W.heap.size u0 u1 u2 u3 (W.alloc (.cells #[u0, u1, u2, u3] T)) := by
 refine ⟨?_, ?_, ?_, ?_⟩ <;> (rw [World.cell?_alloc_new]; rfl)
theorem gs_g1 (w : World) (o n : Int) (t : ByteArray) (k : F) (ih : GsS k) (hn : niceD (o, n, t, k) = true) (hcnt : k.cnt ≤ 10000) (a : Option Addr) (cap : Nat) (fs : List Nat) (hs : SubAt w a k fs) (hfs : ∀ c ∈ fs, c < w.heap.size) (hc : k.len ≤ cap) (h8 : o = 8) (d1 : D) (hK : mapL (chD grR) k = consD d1 .nil) (hN : nlF k = 0) :
  Calls Try.prog 43 #[.agg #[.int .i64 o, .int .i64 n, .string t, .slice a k.len cap]] w (NewD w d1) := by
 have hnk : nice k = true := (nice_kids hn).2
 have hksz : k.size ≤ 2097152 := by have := nice_size k hnk; omega
 have hnl0 := fun (W : World) (e : Ext w W) => l7Newlines W o n t k a cap fs (e.sub hs hfs) (fun c hc => Nat.lt_of_lt_of_le (hfs c hc) e.size) hc hksz
 have hco0 := fun (W : World) (e : Ext w W) => CntC.specCountOps 5 W o n t k a cap fs (e.sub hs hfs) (fun c hc => Nat.lt_of_lt_of_le (hfs c hc) e.size) hc (by omega)
 obtain ⟨φ, hφφ⟩ : ∃ φ, chD grR = φ := ⟨_, rfl⟩
 have ih := fun (w : World) (o n : Int) (t : ByteArray) (k1 : F) (p r : F) (a : Option Addr) (cap : Nat) (fs : List Nat) (h : k = p.app (.cons o n t k1 r)) => ih w o n t k1 p r a cap fs h hnk hcnt
 rw [hφφ] at ih
 subst h8
 rw [hφφ] at hK
 have HK0 := Lib.hid hK
 clear hK
 rw [show nlF (.cons 8 n t k .nil) = nlF k from nl_group n t k] at hnl0
 rw [hr_group] at hco0
 have hnle := nl_le k
 have hrle := hr_le k
 obtain ⟨NN, hNN⟩ : ∃ N, nlF k = N := ⟨_, rfl⟩
 obtain ⟨MM, hMM⟩ : ∃ N, hrF k = N := ⟨_, rfl⟩
 rw [hNN] at hnl0 hN hnle
 rw [hMM] at hco0 hrle
 subst hN
 rw [show ((0 : Nat) : Int) = 0 from rfl] at hnl0
 clear hNN hMM hnle hrle
 obtain ⟨i0, hi, hz0, hz1, hz2⟩ := info_parts To.info
 obtain ⟨L, hL⟩ : ∃ L, k.len = L := ⟨_, rfl⟩
 rw [hL] at hc hnl0 hco0 ⊢
 have HL := Lib.hid hL
 have HML := Lib.hid (show (mapL φ k).len = L by rw [len_mapL, hL])
 have hL4 : L ≤ 4194304 := by have := F.len_le_cnt k; omega
 clear hL
 have hsub : 0 < L → ∃ b off f', a = some ⟨b, off, none⟩ ∧ RowAt w k b off f' ∧ b < w.heap.size ∧ ∀ c ∈ f', c < w.heap.size := by
  intro h0
  rcases hs with ⟨rfl, rfl⟩ | ⟨b, off, f', rfl, hnil, rfl, hrow⟩
  ·have := HL.out; simp only [F.len] at this; omega
  ·exact ⟨b, off, f', rfl, hrow, hfs b (by simp), fun c hc => hfs c (by simp [hc])⟩
 have HSUB := Lib.hid hsub
 have IH := Lib.hid ih
 have HI := Lib.hid (And.intro hi (And.intro hz0 (And.intro hz1 hz2)))
 have HST := Lib.hid (kd_start w 8 n t (.slice a L cap) φ k 25)
 have HNL := Lib.hid hnl0
 have HCO := Lib.hid hco0
 clear hsub hs hfs ih hi hz0 hz1 hz2 hnk hn hcnt hnl0 hco0 hksz
 go_enter Try.func43, Try.ntmps43
 go_wp2_with fail
 go_loopw [3, 4] (fun v i wr => KdAt w 8 n t (.slice a L cap) φ k v i wr) (fun _ i _ => L - (intOf i).toNat)
 case atStart => exact HST.out
 case round =>
  obtain ⟨j, p, g, fs1, rfl, h3, h5, hG, hbw, hfv, hzb⟩ := hrel
  have h7 : g.len = L - j := by have := HL.out; rw [h3, F.len_app, h5] at this; omega
  have hjL0 : j ≤ L := by have := HL.out; rw [h3, F.len_app, h5] at this; omega
  obtain ⟨x0, x1, x2, x3⟩ := hfv
  have hsz0 : w.heap.size + 1 < wr.heap.size := hzb.2.2
  cases g with
  | nil =>
    have hjL : L = j := by simp only [F.len] at h7; omega
    subst hjL
    rw [F.app_nil] at h3
    subst h3
    obtain ⟨a', cap', rfl, hcap', hsub', hcm⟩ := hG.slice
    obtain ⟨⟨z0, z1, z2, z3⟩, ⟨z4, z5, z6, z7⟩, z8⟩ := hzb
    have HQ := Lib.hid (And.intro hsub' (And.intro hG.fresh (And.intro hbw hcap')))
    clear hG hbw hsub' h7 hcm hcap' h5 hjL0
    rw [HML.out]
    have hsubK := HQ.out.1
    have hl0 : w.heap.size < wr.heap.size := by omega
    have HZB := Lib.hid (show ZBox wr (w.heap.size + 1) from ⟨⟨z0, z1, z2, z3⟩, ⟨z4, z5, z6, z7⟩, z8⟩)
    have HX4 := Lib.hid (show Four w.heap.size (.int .i64 8) (.int .i64 n) (.string t) (.slice a L cap) wr from ⟨x0, x1, x2, x3⟩)
    have HEW := Lib.hid (show Ext w wr from HQ.out.2.2.1)
    have hlk : (1 : Nat) = L := by have := HML.out; rw [HK0.out] at this; exact this
    subst hlk
    obtain ⟨o1, n1, t1, k1⟩ := d1
    have HK := Lib.hid (show mapL φ k = .cons o1 n1 t1 k1 .nil from HK0.out)
    rw [HK.out] at hsubK
    have hFK := HQ.out.2.1
    obtain ⟨b, off, f', rfl, hb, hrow, hF'⟩ := sub_row hsubK hFK
    obtain ⟨a1, c1, f1, f2, u0, u1, u2, u3, u4, hs1, hF1, hr2, hF2⟩ := row_first hrow hF'
    obtain ⟨L1, hL1⟩ : ∃ L, k1.len = L := ⟨_, rfl⟩
    rw [hL1] at u3
    have HQ1 := Lib.hid (And.intro hs1 (And.intro hF1 (And.intro u4 hL1)))
    have HU := Lib.hid (show Four4 b off _ _ _ _ wr from ⟨u0, u1, u2, u3⟩)
    clear hsubK hFK hrow hF' hs1 hF1 hr2 hF2 u4 hL1
    have HL0 := Lib.hid hl0
    have HBL := Lib.hid hb
    go_wp2_with (first
     | (go_at_call 79; refine (specMap _ _ _ _ _ _ _ _ _ _).mono ?_; rintro e1 w3 ⟨rfl, hb3⟩; have q3 : Ext wr w3 := hb3; clear x0 x1 x2 x3 z0 z1 z2 z3 z4 z5 z6 z7 z8 hl0 u0 u1 u2 u3 hb; obtain ⟨x0, x1, x2, x3⟩ := HX4.out.below q3 (by exact HL0.out); obtain ⟨⟨z0, z1, z2, z3⟩, ⟨z4, z5, z6, z7⟩, z8⟩ := HZB.out.ext q3; have hl0 := Nat.lt_of_lt_of_le HL0.out (Ext.size q3); obtain ⟨u0, u1, u2, u3⟩ := HU.out.below q3 (by exact HBL.out); have hb := Nat.lt_of_lt_of_le HBL.out (Ext.size q3); have T3 := Lib.hid (four_new w3 (.int .i64 8) (.int .i64 n) (.string t) (.slice (some ⟨b, off, none⟩) 1 cap') 25); have q9 := Lib.hid (q3.alloc (.cells #[.int .i64 8, .int .i64 n, .string t, .slice (some ⟨b, off, none⟩) 1 cap'] 25)); clear hb3)
     | (go_at_call 80; refine (HNL.out _ (by exact HEW.out.trans (q3.alloc _))).mono ?_; rintro e1 w4 ⟨rfl, hb4⟩; have q4 : Ext wr w4 := (q3.alloc _).trans hb4; clear x0 x1 x2 x3 z0 z1 z2 z3 z4 z5 z6 z7 z8 hl0 u0 u1 u2 u3 hb; obtain ⟨x0, x1, x2, x3⟩ := HX4.out.below q4 (by exact HL0.out); obtain ⟨⟨z0, z1, z2, z3⟩, ⟨z4, z5, z6, z7⟩, z8⟩ := HZB.out.ext q4; have hl0 := Nat.lt_of_lt_of_le HL0.out (Ext.size q4); obtain ⟨u0, u1, u2, u3⟩ := HU.out.below q4 (by exact HBL.out); have hb := Nat.lt_of_lt_of_le HBL.out (Ext.size q4); obtain ⟨y0, y1, y2, y3⟩ := T3.out.below hb4 (by simp); have T4 := Lib.hid (show Four w3.heap.size _ _ _ _ w4 from ⟨y0, y1, y2, y3⟩); have ly : w3.heap.size < w4.heap.size := (by have := Ext.size hb4; simp at this; omega); clear q9; have q9 := Lib.hid q4; clear hb4)
     | (go_at_call 68; refine (HCO.out _ (by exact HEW.out.trans q4)).mono ?_; rintro e1 w5 ⟨rfl, hb5⟩; have q5 : Ext wr w5 := q4.trans hb5; clear x0 x1 x2 x3 z0 z1 z2 z3 z4 z5 z6 z7 z8 hl0 u0 u1 u2 u3 hb; obtain ⟨x0, x1, x2, x3⟩ := HX4.out.below q5 (by exact HL0.out); obtain ⟨⟨z0, z1, z2, z3⟩, ⟨z4, z5, z6, z7⟩, z8⟩ := HZB.out.ext q5; have hl0 := Nat.lt_of_lt_of_le HL0.out (Ext.size q5); obtain ⟨u0, u1, u2, u3⟩ := HU.out.below q5 (by exact HBL.out); have hb := Nat.lt_of_lt_of_le HBL.out (Ext.size q5); clear y0 y1 y2 y3; obtain ⟨y0, y1, y2, y3⟩ := T4.out.below hb5 (by exact ly); have ly5 := Nat.lt_of_lt_of_le ly (Ext.size hb5); clear q9; have q9 := Lib.hid q5; clear hb5))
    refine bodyPost_ret (v := .agg #[.int .i64 o1, .int .i64 n1, .string t1, .slice a1 L1 c1]) (by simp [results, Try.results43, go_sem, z0, z1, z2, z3, z4, z5, z6, z7, z8, hl0]) rfl ?_
    obtain ⟨hs1, hF1, u4, hL1⟩ := HQ1.out
    refine end_but (x := w.heap.size + 1) (lo := w.heap.size + 2) (w3 := wr) hL1 hs1 hF1 u4 (by omega) (by omega) HQ.out.2.2.1 (by repeat (first | exact But.of_below q9.out | exact But.of_below q3 | refine But.setCell ?_ (Or.inl (by rfl)) _ | refine But.alloc ?_ (by have := Ext.size q3; simp; omega) _))
  | cons o1 n1 t1 k1 r1 =>
    have hjL : j < L := by simp only [F.len] at h7; omega
    obtain ⟨b, off, f', rfl, hrow, hbB, hfB⟩ := HSUB.out (by omega)
    rw [h3] at hrow
    obtain ⟨a1, cap1, f1, c0, c1, c2, c3, hc1', hsub1, hin⟩ := row_at hrow
    rw [h5] at c0 c1 c2 c3
    rw [← hbw.cell (p := ⟨_, _, _⟩) hbB] at c0 c1 c2 c3
    have hd := fun (W1 : World) (hw1 : Ext wr W1) => IH.out W1 o1 n1 t1 k1 p r1 a1 cap1 f1 h3 (hsub1.below (fun c hc => hfB c (hin c hc)) (hbw.trans (hw1.mono hbw.size))) (fun c hc => Nat.lt_of_lt_of_le (hfB c (hin c hc)) (Nat.le_trans hbw.size hw1.size)) hc1'
    obtain ⟨⟨o2, n2, t2, k2⟩, hφ⟩ : ∃ d : D, φ o1 n1 t1 k1 = d := ⟨_, rfl⟩
    rw [hφ] at hd
    have HD := Lib.hid hd
    have H := Lib.hid (And.intro h3 (And.intro h5 (And.intro hG (And.intro hbw hzb))))
    have HF := Lib.hid hφ
    have i0' : (0 : Int) ≤ (j : Int) := Int.natCast_nonneg _
    have i1 : (j : Int) < (L : Int) := by omega
    have HX := Lib.hid (show Four w.heap.size (.int .i64 8) (.int .i64 n) (.string t) (.slice (some ⟨b, off, none⟩) L cap) wr from ⟨x0, x1, x2, x3⟩)
    clear hd h3 h5 h7 hbw hrow hG hφ hzb
    go_wp2_with (first
     | (go_at_call 43; refine (HD.out _ (by exact Ext.refl _)).mono ?_; rintro e1 w1 ⟨a2, cap2, f2, rfl, hc2, hs2, hfr2, hb2⟩; have HST2 := Lib.hid (fun ob => mid_d (ob := ob) H.out.2.2.1 hb2); have H2 := Lib.hid (And.intro hs2 (And.intro hfr2 (And.intro hb2 hc2))); clear hs2 hfr2 hb2 hc2 c0 c1 c2 c3)
     | (at_builtin; refine append_doc rfl (.tmp 14) (.tmp 21) 23 rfl Try.underlying23 HI.out.1 HI.out.2.1 HI.out.2.2.1 HI.out.2.2.2 rfl rfl (HST2.out _).1 (d := w1.heap.size) (c := 1) rfl (cell_new w1 _ _ 0 _ rfl) (cell_new w1 _ _ 1 _ rfl) (cell_new w1 _ _ 2 _ rfl) (cell_new w1 _ _ 3 _ rfl) H2.out.2.2.2 (H2.out.1.below H2.out.2.1.lt ((Below.refl _ _).alloc (Nat.le_refl _) _)) (H2.out.2.1.below H2.out.2.1.lt ((Below.refl _ _).alloc (Nat.le_refl _) _)) (HST2.out (.cells #[] 0)).2.1 (HST2.out (.cells #[] 0)).2.2.1 (HST2.out (.cells #[] 0)).2.2.2.1 (by rw [len_mapL]; have := H.out.2.1; omega) ?_; intro v' w2 fs' hG' hb' hg'))
    go_roundw
    case rel =>
     obtain ⟨h3, h5, hG, hbw, hzb⟩ := H.out
     have hch := mid_end H2.out.2.2.1 hb' hG.2.2.2
     refine ⟨j + 1, p.app (.cons o1 n1 t1 k1 .nil), r1, fs', by go_num, by rw [h3, F.app_assoc]; rfl, by rw [F.len_app, h5]; rfl, ?_, hbw.trans (hch.mono (by omega)), HX.out.below hch (by omega), zbox_below hzb hch (by omega)⟩
     rw [mapL_app, show mapL φ (.cons o1 n1 t1 k1 .nil) = .cons o2 n2 t2 k2 .nil by rw [mapL, HF.out]; rfl]
     exact hG'
    case measure => simp [intOf]; omega
theorem gs_g2 (w : World) (o n : Int) (t : ByteArray) (k : F) (ih : GsS k) (hn : niceD (o, n, t, k) = true) (hcnt : k.cnt ≤ 10000) (a : Option Addr) (cap : Nat) (fs : List Nat) (hs : SubAt w a k fs) (hfs : ∀ c ∈ fs, c < w.heap.size) (hc : k.len ≤ cap) (h8 : o = 8) (d1 : D) (hK : mapL (chD grR) k = consD d1 .nil) (hN : 0 < nlF k) (hM : 0 < hrF k) :
  Calls Try.prog 43 #[.agg #[.int .i64 o, .int .i64 n, .string t, .slice a k.len cap]] w (NewD w d1) := by
 have hnk : nice k = true := (nice_kids hn).2
 have hksz : k.size ≤ 2097152 := by have := nice_size k hnk; omega
 have hnl0 := fun (W : World) (e : Ext w W) => l7Newlines W o n t k a cap fs (e.sub hs hfs) (fun c hc => Nat.lt_of_lt_of_le (hfs c hc) e.size) hc hksz
 have hco0 := fun (W : World) (e : Ext w W) => CntC.specCountOps 5 W o n t k a cap fs (e.sub hs hfs) (fun c hc => Nat.lt_of_lt_of_le (hfs c hc) e.size) hc (by omega)
 obtain ⟨φ, hφφ⟩ : ∃ φ, chD grR = φ := ⟨_, rfl⟩
 have ih := fun (w : World) (o n : Int) (t : ByteArray) (k1 : F) (p r : F) (a : Option Addr) (cap : Nat) (fs : List Nat) (h : k = p.app (.cons o n t k1 r)) => ih w o n t k1 p r a cap fs h hnk hcnt
 rw [hφφ] at ih
 subst h8
 rw [hφφ] at hK
 have HK0 := Lib.hid hK
 clear hK
 rw [show nlF (.cons 8 n t k .nil) = nlF k from nl_group n t k] at hnl0
 rw [hr_group] at hco0
 have hnle := nl_le k
 have hrle := hr_le k
 obtain ⟨NN, hNN⟩ : ∃ N, nlF k = N := ⟨_, rfl⟩
 obtain ⟨MM, hMM⟩ : ∃ N, hrF k = N := ⟨_, rfl⟩
 rw [hNN] at hnl0 hN hnle
 rw [hMM] at hco0 hrle
 have i1 : ((NN : Int) == 0) = false := by rw [beq_eq_false_iff_ne]; omega
 rw [hMM] at hM
 have i2 : (0 : Int) < (MM : Int) := by omega
 clear hNN hMM hnle hrle hN hM
 obtain ⟨i0, hi, hz0, hz1, hz2⟩ := info_parts To.info
 obtain ⟨L, hL⟩ : ∃ L, k.len = L := ⟨_, rfl⟩
 rw [hL] at hc hnl0 hco0 ⊢
 have HL := Lib.hid hL
 have HML := Lib.hid (show (mapL φ k).len = L by rw [len_mapL, hL])
 have hL4 : L ≤ 4194304 := by have := F.len_le_cnt k; omega
 clear hL
 have hsub : 0 < L → ∃ b off f', a = some ⟨b, off, none⟩ ∧ RowAt w k b off f' ∧ b < w.heap.size ∧ ∀ c ∈ f', c < w.heap.size := by
  intro h0
  rcases hs with ⟨rfl, rfl⟩ | ⟨b, off, f', rfl, hnil, rfl, hrow⟩
  ·have := HL.out; simp only [F.len] at this; omega
  ·exact ⟨b, off, f', rfl, hrow, hfs b (by simp), fun c hc => hfs c (by simp [hc])⟩
 have HSUB := Lib.hid hsub
 have IH := Lib.hid ih
 have HI := Lib.hid (And.intro hi (And.intro hz0 (And.intro hz1 hz2)))
 have HST := Lib.hid (kd_start w 8 n t (.slice a L cap) φ k 25)
 have HNL := Lib.hid hnl0
 have HCO := Lib.hid hco0
 clear hsub hs hfs ih hi hz0 hz1 hz2 hnk hn hcnt hnl0 hco0 hksz
 go_enter Try.func43, Try.ntmps43
 go_wp2_with fail
 go_loopw [3, 4] (fun v i wr => KdAt w 8 n t (.slice a L cap) φ k v i wr) (fun _ i _ => L - (intOf i).toNat)
 case atStart => exact HST.out
 case round =>
  obtain ⟨j, p, g, fs1, rfl, h3, h5, hG, hbw, hfv, hzb⟩ := hrel
  have h7 : g.len = L - j := by have := HL.out; rw [h3, F.len_app, h5] at this; omega
  have hjL0 : j ≤ L := by have := HL.out; rw [h3, F.len_app, h5] at this; omega
  obtain ⟨x0, x1, x2, x3⟩ := hfv
  have hsz0 : w.heap.size + 1 < wr.heap.size := hzb.2.2
  cases g with
  | nil =>
    have hjL : L = j := by simp only [F.len] at h7; omega
    subst hjL
    rw [F.app_nil] at h3
    subst h3
    obtain ⟨a', cap', rfl, hcap', hsub', hcm⟩ := hG.slice
    obtain ⟨⟨z0, z1, z2, z3⟩, ⟨z4, z5, z6, z7⟩, z8⟩ := hzb
    have HQ := Lib.hid (And.intro hsub' (And.intro hG.fresh (And.intro hbw hcap')))
    clear hG hbw hsub' h7 hcm hcap' h5 hjL0
    rw [HML.out]
    have hsubK := HQ.out.1
    have hl0 : w.heap.size < wr.heap.size := by omega
    have HZB := Lib.hid (show ZBox wr (w.heap.size + 1) from ⟨⟨z0, z1, z2, z3⟩, ⟨z4, z5, z6, z7⟩, z8⟩)
    have HX4 := Lib.hid (show Four w.heap.size (.int .i64 8) (.int .i64 n) (.string t) (.slice a L cap) wr from ⟨x0, x1, x2, x3⟩)
    have HEW := Lib.hid (show Ext w wr from HQ.out.2.2.1)
    have hlk : (1 : Nat) = L := by have := HML.out; rw [HK0.out] at this; exact this
    subst hlk
    obtain ⟨o1, n1, t1, k1⟩ := d1
    have HK := Lib.hid (show mapL φ k = .cons o1 n1 t1 k1 .nil from HK0.out)
    rw [HK.out] at hsubK
    have hFK := HQ.out.2.1
    obtain ⟨b, off, f', rfl, hb, hrow, hF'⟩ := sub_row hsubK hFK
    obtain ⟨a1, c1, f1, f2, u0, u1, u2, u3, u4, hs1, hF1, hr2, hF2⟩ := row_first hrow hF'
    obtain ⟨L1, hL1⟩ : ∃ L, k1.len = L := ⟨_, rfl⟩
    rw [hL1] at u3
    have HQ1 := Lib.hid (And.intro hs1 (And.intro hF1 (And.intro u4 hL1)))
    have HU := Lib.hid (show Four4 b off _ _ _ _ wr from ⟨u0, u1, u2, u3⟩)
    clear hsubK hFK hrow hF' hs1 hF1 hr2 hF2 u4 hL1
    have HL0 := Lib.hid hl0
    have HBL := Lib.hid hb
    go_wp2_with (first
     | (go_at_call 79; refine (specMap _ _ _ _ _ _ _ _ _ _).mono ?_; rintro e1 w3 ⟨rfl, hb3⟩; have q3 : Ext wr w3 := hb3; clear x0 x1 x2 x3 z0 z1 z2 z3 z4 z5 z6 z7 z8 hl0 u0 u1 u2 u3 hb; obtain ⟨x0, x1, x2, x3⟩ := HX4.out.below q3 (by exact HL0.out); obtain ⟨⟨z0, z1, z2, z3⟩, ⟨z4, z5, z6, z7⟩, z8⟩ := HZB.out.ext q3; have hl0 := Nat.lt_of_lt_of_le HL0.out (Ext.size q3); obtain ⟨u0, u1, u2, u3⟩ := HU.out.below q3 (by exact HBL.out); have hb := Nat.lt_of_lt_of_le HBL.out (Ext.size q3); have T3 := Lib.hid (four_new w3 (.int .i64 8) (.int .i64 n) (.string t) (.slice (some ⟨b, off, none⟩) 1 cap') 25); have q9 := Lib.hid (q3.alloc (.cells #[.int .i64 8, .int .i64 n, .string t, .slice (some ⟨b, off, none⟩) 1 cap'] 25)); clear hb3)
     | (go_at_call 80; refine (HNL.out _ (by exact HEW.out.trans (q3.alloc _))).mono ?_; rintro e1 w4 ⟨rfl, hb4⟩; have q4 : Ext wr w4 := (q3.alloc _).trans hb4; clear x0 x1 x2 x3 z0 z1 z2 z3 z4 z5 z6 z7 z8 hl0 u0 u1 u2 u3 hb; obtain ⟨x0, x1, x2, x3⟩ := HX4.out.below q4 (by exact HL0.out); obtain ⟨⟨z0, z1, z2, z3⟩, ⟨z4, z5, z6, z7⟩, z8⟩ := HZB.out.ext q4; have hl0 := Nat.lt_of_lt_of_le HL0.out (Ext.size q4); obtain ⟨u0, u1, u2, u3⟩ := HU.out.below q4 (by exact HBL.out); have hb := Nat.lt_of_lt_of_le HBL.out (Ext.size q4); obtain ⟨y0, y1, y2, y3⟩ := T3.out.below hb4 (by simp); have T4 := Lib.hid (show Four w3.heap.size _ _ _ _ w4 from ⟨y0, y1, y2, y3⟩); have ly : w3.heap.size < w4.heap.size := (by have := Ext.size hb4; simp at this; omega); clear q9; have q9 := Lib.hid q4; clear hb4)
     | (go_at_call 68; refine (HCO.out _ (by exact HEW.out.trans q4)).mono ?_; rintro e1 w5 ⟨rfl, hb5⟩; have q5 : Ext wr w5 := q4.trans hb5; clear x0 x1 x2 x3 z0 z1 z2 z3 z4 z5 z6 z7 z8 hl0 u0 u1 u2 u3 hb; obtain ⟨x0, x1, x2, x3⟩ := HX4.out.below q5 (by exact HL0.out); obtain ⟨⟨z0, z1, z2, z3⟩, ⟨z4, z5, z6, z7⟩, z8⟩ := HZB.out.ext q5; have hl0 := Nat.lt_of_lt_of_le HL0.out (Ext.size q5); obtain ⟨u0, u1, u2, u3⟩ := HU.out.below q5 (by exact HBL.out); have hb := Nat.lt_of_lt_of_le HBL.out (Ext.size q5); clear y0 y1 y2 y3; obtain ⟨y0, y1, y2, y3⟩ := T4.out.below hb5 (by exact ly); have ly5 := Nat.lt_of_lt_of_le ly (Ext.size hb5); clear q9; have q9 := Lib.hid q5; clear hb5))
    refine bodyPost_ret (v := .agg #[.int .i64 o1, .int .i64 n1, .string t1, .slice a1 L1 c1]) (by simp [results, Try.results43, go_sem, z0, z1, z2, z3, z4, z5, z6, z7, z8, hl0]) rfl ?_
    obtain ⟨hs1, hF1, u4, hL1⟩ := HQ1.out
    refine end_but (x := w.heap.size + 1) (lo := w.heap.size + 2) (w3 := wr) hL1 hs1 hF1 u4 (by omega) (by omega) HQ.out.2.2.1 (by repeat (first | exact But.of_below q9.out | exact But.of_below q3 | refine But.setCell ?_ (Or.inl (by rfl)) _ | refine But.alloc ?_ (by have := Ext.size q3; simp; omega) _))
  | cons o1 n1 t1 k1 r1 =>
    have hjL : j < L := by simp only [F.len] at h7; omega
    obtain ⟨b, off, f', rfl, hrow, hbB, hfB⟩ := HSUB.out (by omega)
    rw [h3] at hrow
    obtain ⟨a1, cap1, f1, c0, c1, c2, c3, hc1', hsub1, hin⟩ := row_at hrow
    rw [h5] at c0 c1 c2 c3
    rw [← hbw.cell (p := ⟨_, _, _⟩) hbB] at c0 c1 c2 c3
    have hd := fun (W1 : World) (hw1 : Ext wr W1) => IH.out W1 o1 n1 t1 k1 p r1 a1 cap1 f1 h3 (hsub1.below (fun c hc => hfB c (hin c hc)) (hbw.trans (hw1.mono hbw.size))) (fun c hc => Nat.lt_of_lt_of_le (hfB c (hin c hc)) (Nat.le_trans hbw.size hw1.size)) hc1'
    obtain ⟨⟨o2, n2, t2, k2⟩, hφ⟩ : ∃ d : D, φ o1 n1 t1 k1 = d := ⟨_, rfl⟩
    rw [hφ] at hd
    have HD := Lib.hid hd
    have H := Lib.hid (And.intro h3 (And.intro h5 (And.intro hG (And.intro hbw hzb))))
    have HF := Lib.hid hφ
    have i0' : (0 : Int) ≤ (j : Int) := Int.natCast_nonneg _
    have i1 : (j : Int) < (L : Int) := by omega
    have HX := Lib.hid (show Four w.heap.size (.int .i64 8) (.int .i64 n) (.string t) (.slice (some ⟨b, off, none⟩) L cap) wr from ⟨x0, x1, x2, x3⟩)
    clear hd h3 h5 h7 hbw hrow hG hφ hzb
    go_wp2_with (first
     | (go_at_call 43; refine (HD.out _ (by exact Ext.refl _)).mono ?_; rintro e1 w1 ⟨a2, cap2, f2, rfl, hc2, hs2, hfr2, hb2⟩; have HST2 := Lib.hid (fun ob => mid_d (ob := ob) H.out.2.2.1 hb2); have H2 := Lib.hid (And.intro hs2 (And.intro hfr2 (And.intro hb2 hc2))); clear hs2 hfr2 hb2 hc2 c0 c1 c2 c3)
     | (at_builtin; refine append_doc rfl (.tmp 14) (.tmp 21) 23 rfl Try.underlying23 HI.out.1 HI.out.2.1 HI.out.2.2.1 HI.out.2.2.2 rfl rfl (HST2.out _).1 (d := w1.heap.size) (c := 1) rfl (cell_new w1 _ _ 0 _ rfl) (cell_new w1 _ _ 1 _ rfl) (cell_new w1 _ _ 2 _ rfl) (cell_new w1 _ _ 3 _ rfl) H2.out.2.2.2 (H2.out.1.below H2.out.2.1.lt ((Below.refl _ _).alloc (Nat.le_refl _) _)) (H2.out.2.1.below H2.out.2.1.lt ((Below.refl _ _).alloc (Nat.le_refl _) _)) (HST2.out (.cells #[] 0)).2.1 (HST2.out (.cells #[] 0)).2.2.1 (HST2.out (.cells #[] 0)).2.2.2.1 (by rw [len_mapL]; have := H.out.2.1; omega) ?_; intro v' w2 fs' hG' hb' hg'))
    go_roundw
    case rel =>
     obtain ⟨h3, h5, hG, hbw, hzb⟩ := H.out
     have hch := mid_end H2.out.2.2.1 hb' hG.2.2.2
     refine ⟨j + 1, p.app (.cons o1 n1 t1 k1 .nil), r1, fs', by go_num, by rw [h3, F.app_assoc]; rfl, by rw [F.len_app, h5]; rfl, ?_, hbw.trans (hch.mono (by omega)), HX.out.below hch (by omega), zbox_below hzb hch (by omega)⟩
     rw [mapL_app, show mapL φ (.cons o1 n1 t1 k1 .nil) = .cons o2 n2 t2 k2 .nil by rw [mapL, HF.out]; rfl]
     exact hG'
    case measure => simp [intOf]; omega
theorem gs_g3 (w : World) (o n : Int) (t : ByteArray) (k : F) (ih : GsS k) (hn : niceD (o, n, t, k) = true) (hcnt : k.cnt ≤ 10000) (a : Option Addr) (cap : Nat) (fs : List Nat) (hs : SubAt w a k fs) (hfs : ∀ c ∈ fs, c < w.heap.size) (hc : k.len ≤ cap) (h8 : o = 8) (d1 : D) (hK : mapL (chD grR) k = consD d1 .nil) (hN : 0 < nlF k) (hM : hrF k = 0) (h1 : d1.1 = 8) :
  Calls Try.prog 43 #[.agg #[.int .i64 o, .int .i64 n, .string t, .slice a k.len cap]] w (NewD w d1) := by
 have hnk : nice k = true := (nice_kids hn).2
 have hksz : k.size ≤ 2097152 := by have := nice_size k hnk; omega
 have hnl0 := fun (W : World) (e : Ext w W) => l7Newlines W o n t k a cap fs (e.sub hs hfs) (fun c hc => Nat.lt_of_lt_of_le (hfs c hc) e.size) hc hksz
 have hco0 := fun (W : World) (e : Ext w W) => CntC.specCountOps 5 W o n t k a cap fs (e.sub hs hfs) (fun c hc => Nat.lt_of_lt_of_le (hfs c hc) e.size) hc (by omega)
 obtain ⟨φ, hφφ⟩ : ∃ φ, chD grR = φ := ⟨_, rfl⟩
 have ih := fun (w : World) (o n : Int) (t : ByteArray) (k1 : F) (p r : F) (a : Option Addr) (cap : Nat) (fs : List Nat) (h : k = p.app (.cons o n t k1 r)) => ih w o n t k1 p r a cap fs h hnk hcnt
 rw [hφφ] at ih
 subst h8
 rw [hφφ] at hK
 have HK0 := Lib.hid hK
 clear hK
 rw [show nlF (.cons 8 n t k .nil) = nlF k from nl_group n t k] at hnl0
 rw [hr_group] at hco0
 have hnle := nl_le k
 have hrle := hr_le k
 obtain ⟨NN, hNN⟩ : ∃ N, nlF k = N := ⟨_, rfl⟩
 obtain ⟨MM, hMM⟩ : ∃ N, hrF k = N := ⟨_, rfl⟩
 rw [hNN] at hnl0 hN hnle
 rw [hMM] at hco0 hrle
 have i1 : ((NN : Int) == 0) = false := by rw [beq_eq_false_iff_ne]; omega
 rw [hMM] at hM
 subst hM
 rw [show ((0 : Nat) : Int) = 0 from rfl] at hco0
 clear hNN hMM hnle hrle hN
 obtain ⟨i0, hi, hz0, hz1, hz2⟩ := info_parts To.info
 obtain ⟨L, hL⟩ : ∃ L, k.len = L := ⟨_, rfl⟩
 rw [hL] at hc hnl0 hco0 ⊢
 have HL := Lib.hid hL
 have HML := Lib.hid (show (mapL φ k).len = L by rw [len_mapL, hL])
 have hL4 : L ≤ 4194304 := by have := F.len_le_cnt k; omega
 clear hL
 have hsub : 0 < L → ∃ b off f', a = some ⟨b, off, none⟩ ∧ RowAt w k b off f' ∧ b < w.heap.size ∧ ∀ c ∈ f', c < w.heap.size := by
  intro h0
  rcases hs with ⟨rfl, rfl⟩ | ⟨b, off, f', rfl, hnil, rfl, hrow⟩
  ·have := HL.out; simp only [F.len] at this; omega
  ·exact ⟨b, off, f', rfl, hrow, hfs b (by simp), fun c hc => hfs c (by simp [hc])⟩
 have HSUB := Lib.hid hsub
 have IH := Lib.hid ih
 have HI := Lib.hid (And.intro hi (And.intro hz0 (And.intro hz1 hz2)))
 have HST := Lib.hid (kd_start w 8 n t (.slice a L cap) φ k 25)
 have HNL := Lib.hid hnl0
 have HCO := Lib.hid hco0
 clear hsub hs hfs ih hi hz0 hz1 hz2 hnk hn hcnt hnl0 hco0 hksz
 go_enter Try.func43, Try.ntmps43
 go_wp2_with fail
 go_loopw [3, 4] (fun v i wr => KdAt w 8 n t (.slice a L cap) φ k v i wr) (fun _ i _ => L - (intOf i).toNat)
 case atStart => exact HST.out
 case round =>
  obtain ⟨j, p, g, fs1, rfl, h3, h5, hG, hbw, hfv, hzb⟩ := hrel
  have h7 : g.len = L - j := by have := HL.out; rw [h3, F.len_app, h5] at this; omega
  have hjL0 : j ≤ L := by have := HL.out; rw [h3, F.len_app, h5] at this; omega
  obtain ⟨x0, x1, x2, x3⟩ := hfv
  have hsz0 : w.heap.size + 1 < wr.heap.size := hzb.2.2
  cases g with
  | nil =>
    have hjL : L = j := by simp only [F.len] at h7; omega
    subst hjL
    rw [F.app_nil] at h3
    subst h3
    obtain ⟨a', cap', rfl, hcap', hsub', hcm⟩ := hG.slice
    obtain ⟨⟨z0, z1, z2, z3⟩, ⟨z4, z5, z6, z7⟩, z8⟩ := hzb
    have HQ := Lib.hid (And.intro hsub' (And.intro hG.fresh (And.intro hbw hcap')))
    clear hG hbw hsub' h7 hcm hcap' h5 hjL0
    rw [HML.out]
    have hsubK := HQ.out.1
    have hl0 : w.heap.size < wr.heap.size := by omega
    have HZB := Lib.hid (show ZBox wr (w.heap.size + 1) from ⟨⟨z0, z1, z2, z3⟩, ⟨z4, z5, z6, z7⟩, z8⟩)
    have HX4 := Lib.hid (show Four w.heap.size (.int .i64 8) (.int .i64 n) (.string t) (.slice a L cap) wr from ⟨x0, x1, x2, x3⟩)
    have HEW := Lib.hid (show Ext w wr from HQ.out.2.2.1)
    have hlk : (1 : Nat) = L := by have := HML.out; rw [HK0.out] at this; exact this
    subst hlk
    obtain ⟨o1, n1, t1, k1⟩ := d1
    have HK := Lib.hid (show mapL φ k = .cons o1 n1 t1 k1 .nil from HK0.out)
    rw [HK.out] at hsubK
    have hFK := HQ.out.2.1
    obtain ⟨b, off, f', rfl, hb, hrow, hF'⟩ := sub_row hsubK hFK
    obtain ⟨a1, c1, f1, f2, u0, u1, u2, u3, u4, hs1, hF1, hr2, hF2⟩ := row_first hrow hF'
    obtain ⟨L1, hL1⟩ : ∃ L, k1.len = L := ⟨_, rfl⟩
    rw [hL1] at u3
    have HQ1 := Lib.hid (And.intro hs1 (And.intro hF1 (And.intro u4 hL1)))
    have HU := Lib.hid (show Four4 b off _ _ _ _ wr from ⟨u0, u1, u2, u3⟩)
    clear hsubK hFK hrow hF' hs1 hF1 hr2 hF2 u4 hL1
    have q1 : (o1 == 8) = true := by rw [beq_iff_eq]; exact h1
    have HL0 := Lib.hid hl0
    have HBL := Lib.hid hb
    go_wp2_with (first
     | (go_at_call 79; refine (specMap _ _ _ _ _ _ _ _ _ _).mono ?_; rintro e1 w3 ⟨rfl, hb3⟩; have q3 : Ext wr w3 := hb3; clear x0 x1 x2 x3 z0 z1 z2 z3 z4 z5 z6 z7 z8 hl0 u0 u1 u2 u3 hb; obtain ⟨x0, x1, x2, x3⟩ := HX4.out.below q3 (by exact HL0.out); obtain ⟨⟨z0, z1, z2, z3⟩, ⟨z4, z5, z6, z7⟩, z8⟩ := HZB.out.ext q3; have hl0 := Nat.lt_of_lt_of_le HL0.out (Ext.size q3); obtain ⟨u0, u1, u2, u3⟩ := HU.out.below q3 (by exact HBL.out); have hb := Nat.lt_of_lt_of_le HBL.out (Ext.size q3); have T3 := Lib.hid (four_new w3 (.int .i64 8) (.int .i64 n) (.string t) (.slice (some ⟨b, off, none⟩) 1 cap') 25); have q9 := Lib.hid (q3.alloc (.cells #[.int .i64 8, .int .i64 n, .string t, .slice (some ⟨b, off, none⟩) 1 cap'] 25)); clear hb3)
     | (go_at_call 80; refine (HNL.out _ (by exact HEW.out.trans (q3.alloc _))).mono ?_; rintro e1 w4 ⟨rfl, hb4⟩; have q4 : Ext wr w4 := (q3.alloc _).trans hb4; clear x0 x1 x2 x3 z0 z1 z2 z3 z4 z5 z6 z7 z8 hl0 u0 u1 u2 u3 hb; obtain ⟨x0, x1, x2, x3⟩ := HX4.out.below q4 (by exact HL0.out); obtain ⟨⟨z0, z1, z2, z3⟩, ⟨z4, z5, z6, z7⟩, z8⟩ := HZB.out.ext q4; have hl0 := Nat.lt_of_lt_of_le HL0.out (Ext.size q4); obtain ⟨u0, u1, u2, u3⟩ := HU.out.below q4 (by exact HBL.out); have hb := Nat.lt_of_lt_of_le HBL.out (Ext.size q4); obtain ⟨y0, y1, y2, y3⟩ := T3.out.below hb4 (by simp); have T4 := Lib.hid (show Four w3.heap.size _ _ _ _ w4 from ⟨y0, y1, y2, y3⟩); have ly : w3.heap.size < w4.heap.size := (by have := Ext.size hb4; simp at this; omega); clear q9; have q9 := Lib.hid q4; clear hb4)
     | (go_at_call 68; refine (HCO.out _ (by exact HEW.out.trans q4)).mono ?_; rintro e1 w5 ⟨rfl, hb5⟩; have q5 : Ext wr w5 := q4.trans hb5; clear x0 x1 x2 x3 z0 z1 z2 z3 z4 z5 z6 z7 z8 hl0 u0 u1 u2 u3 hb; obtain ⟨x0, x1, x2, x3⟩ := HX4.out.below q5 (by exact HL0.out); obtain ⟨⟨z0, z1, z2, z3⟩, ⟨z4, z5, z6, z7⟩, z8⟩ := HZB.out.ext q5; have hl0 := Nat.lt_of_lt_of_le HL0.out (Ext.size q5); obtain ⟨u0, u1, u2, u3⟩ := HU.out.below q5 (by exact HBL.out); have hb := Nat.lt_of_lt_of_le HBL.out (Ext.size q5); clear y0 y1 y2 y3; obtain ⟨y0, y1, y2, y3⟩ := T4.out.below hb5 (by exact ly); have ly5 := Nat.lt_of_lt_of_le ly (Ext.size hb5); clear q9; have q9 := Lib.hid q5; clear hb5))
    refine bodyPost_ret (v := .agg #[.int .i64 o1, .int .i64 n1, .string t1, .slice a1 L1 c1]) (by simp [results, Try.results43, go_sem, z0, z1, z2, z3, z4, z5, z6, z7, z8, hl0, show o1 = 8 from h1]) rfl ?_
    obtain ⟨hs1, hF1, u4, hL1⟩ := HQ1.out
    refine end_but (x := w.heap.size + 1) (lo := w.heap.size + 2) (w3 := wr) hL1 hs1 hF1 u4 (by omega) (by omega) HQ.out.2.2.1 (by repeat (first | exact But.of_below q9.out | exact But.of_below q3 | refine But.setCell ?_ (Or.inl (by rfl)) _ | refine But.alloc ?_ (by have := Ext.size q3; simp; omega) _))
  | cons o1 n1 t1 k1 r1 =>
    have hjL : j < L := by simp only [F.len] at h7; omega
    obtain ⟨b, off, f', rfl, hrow, hbB, hfB⟩ := HSUB.out (by omega)
    rw [h3] at hrow
    obtain ⟨a1, cap1, f1, c0, c1, c2, c3, hc1', hsub1, hin⟩ := row_at hrow
    rw [h5] at c0 c1 c2 c3
    rw [← hbw.cell (p := ⟨_, _, _⟩) hbB] at c0 c1 c2 c3
    have hd := fun (W1 : World) (hw1 : Ext wr W1) => IH.out W1 o1 n1 t1 k1 p r1 a1 cap1 f1 h3 (hsub1.below (fun c hc => hfB c (hin c hc)) (hbw.trans (hw1.mono hbw.size))) (fun c hc => Nat.lt_of_lt_of_le (hfB c (hin c hc)) (Nat.le_trans hbw.size hw1.size)) hc1'
    obtain ⟨⟨o2, n2, t2, k2⟩, hφ⟩ : ∃ d : D, φ o1 n1 t1 k1 = d := ⟨_, rfl⟩
    rw [hφ] at hd
    have HD := Lib.hid hd
    have H := Lib.hid (And.intro h3 (And.intro h5 (And.intro hG (And.intro hbw hzb))))
    have HF := Lib.hid hφ
    have i0' : (0 : Int) ≤ (j : Int) := Int.natCast_nonneg _
    have i1 : (j : Int) < (L : Int) := by omega
    have HX := Lib.hid (show Four w.heap.size (.int .i64 8) (.int .i64 n) (.string t) (.slice (some ⟨b, off, none⟩) L cap) wr from ⟨x0, x1, x2, x3⟩)
    clear hd h3 h5 h7 hbw hrow hG hφ hzb
    go_wp2_with (first
     | (go_at_call 43; refine (HD.out _ (by exact Ext.refl _)).mono ?_; rintro e1 w1 ⟨a2, cap2, f2, rfl, hc2, hs2, hfr2, hb2⟩; have HST2 := Lib.hid (fun ob => mid_d (ob := ob) H.out.2.2.1 hb2); have H2 := Lib.hid (And.intro hs2 (And.intro hfr2 (And.intro hb2 hc2))); clear hs2 hfr2 hb2 hc2 c0 c1 c2 c3)
     | (at_builtin; refine append_doc rfl (.tmp 14) (.tmp 21) 23 rfl Try.underlying23 HI.out.1 HI.out.2.1 HI.out.2.2.1 HI.out.2.2.2 rfl rfl (HST2.out _).1 (d := w1.heap.size) (c := 1) rfl (cell_new w1 _ _ 0 _ rfl) (cell_new w1 _ _ 1 _ rfl) (cell_new w1 _ _ 2 _ rfl) (cell_new w1 _ _ 3 _ rfl) H2.out.2.2.2 (H2.out.1.below H2.out.2.1.lt ((Below.refl _ _).alloc (Nat.le_refl _) _)) (H2.out.2.1.below H2.out.2.1.lt ((Below.refl _ _).alloc (Nat.le_refl _) _)) (HST2.out (.cells #[] 0)).2.1 (HST2.out (.cells #[] 0)).2.2.1 (HST2.out (.cells #[] 0)).2.2.2.1 (by rw [len_mapL]; have := H.out.2.1; omega) ?_; intro v' w2 fs' hG' hb' hg'))
    go_roundw
    case rel =>
     obtain ⟨h3, h5, hG, hbw, hzb⟩ := H.out
     have hch := mid_end H2.out.2.2.1 hb' hG.2.2.2
     refine ⟨j + 1, p.app (.cons o1 n1 t1 k1 .nil), r1, fs', by go_num, by rw [h3, F.app_assoc]; rfl, by rw [F.len_app, h5]; rfl, ?_, hbw.trans (hch.mono (by omega)), HX.out.below hch (by omega), zbox_below hzb hch (by omega)⟩
     rw [mapL_app, show mapL φ (.cons o1 n1 t1 k1 .nil) = .cons o2 n2 t2 k2 .nil by rw [mapL, HF.out]; rfl]
     exact hG'
    case measure => simp [intOf]; omega
theorem gs_g4 (w : World) (o n : Int) (t : ByteArray) (k : F) (ih : GsS k) (hn : niceD (o, n, t, k) = true) (hcnt : k.cnt ≤ 10000) (a : Option Addr) (cap : Nat) (fs : List Nat) (hs : SubAt w a k fs) (hfs : ∀ c ∈ fs, c < w.heap.size) (hc : k.len ≤ cap) (h8 : o = 8) (d1 : D) (hK : mapL (chD grR) k = consD d1 .nil) (hN : 0 < nlF k) (hM : hrF k = 0) (h1 : d1.1 ≠ 8) :
  Calls Try.prog 43 #[.agg #[.int .i64 o, .int .i64 n, .string t, .slice a k.len cap]] w (NewD w (8, n, t, mapL (chD grR) k)) := by
 have hnk : nice k = true := (nice_kids hn).2
 have hksz : k.size ≤ 2097152 := by have := nice_size k hnk; omega
 have hnl0 := fun (W : World) (e : Ext w W) => l7Newlines W o n t k a cap fs (e.sub hs hfs) (fun c hc => Nat.lt_of_lt_of_le (hfs c hc) e.size) hc hksz
 have hco0 := fun (W : World) (e : Ext w W) => CntC.specCountOps 5 W o n t k a cap fs (e.sub hs hfs) (fun c hc => Nat.lt_of_lt_of_le (hfs c hc) e.size) hc (by omega)
 obtain ⟨φ, hφφ⟩ : ∃ φ, chD grR = φ := ⟨_, rfl⟩
 have ih := fun (w : World) (o n : Int) (t : ByteArray) (k1 : F) (p r : F) (a : Option Addr) (cap : Nat) (fs : List Nat) (h : k = p.app (.cons o n t k1 r)) => ih w o n t k1 p r a cap fs h hnk hcnt
 rw [hφφ] at ih
 subst h8
 rw [hφφ] at hK ⊢
 have HK0 := Lib.hid hK
 clear hK
 rw [show nlF (.cons 8 n t k .nil) = nlF k from nl_group n t k] at hnl0
 rw [hr_group] at hco0
 have hnle := nl_le k
 have hrle := hr_le k
 obtain ⟨NN, hNN⟩ : ∃ N, nlF k = N := ⟨_, rfl⟩
 obtain ⟨MM, hMM⟩ : ∃ N, hrF k = N := ⟨_, rfl⟩
 rw [hNN] at hnl0 hN hnle
 rw [hMM] at hco0 hrle
 have i1 : ((NN : Int) == 0) = false := by rw [beq_eq_false_iff_ne]; omega
 rw [hMM] at hM
 subst hM
 rw [show ((0 : Nat) : Int) = 0 from rfl] at hco0
 clear hNN hMM hnle hrle hN
 obtain ⟨i0, hi, hz0, hz1, hz2⟩ := info_parts To.info
 obtain ⟨L, hL⟩ : ∃ L, k.len = L := ⟨_, rfl⟩
 rw [hL] at hc hnl0 hco0 ⊢
 have HL := Lib.hid hL
 have HML := Lib.hid (show (mapL φ k).len = L by rw [len_mapL, hL])
 have hL4 : L ≤ 4194304 := by have := F.len_le_cnt k; omega
 clear hL
 have hsub : 0 < L → ∃ b off f', a = some ⟨b, off, none⟩ ∧ RowAt w k b off f' ∧ b < w.heap.size ∧ ∀ c ∈ f', c < w.heap.size := by
  intro h0
  rcases hs with ⟨rfl, rfl⟩ | ⟨b, off, f', rfl, hnil, rfl, hrow⟩
  ·have := HL.out; simp only [F.len] at this; omega
  ·exact ⟨b, off, f', rfl, hrow, hfs b (by simp), fun c hc => hfs c (by simp [hc])⟩
 have HSUB := Lib.hid hsub
 have IH := Lib.hid ih
 have HI := Lib.hid (And.intro hi (And.intro hz0 (And.intro hz1 hz2)))
 have HST := Lib.hid (kd_start w 8 n t (.slice a L cap) φ k 25)
 have HNL := Lib.hid hnl0
 have HCO := Lib.hid hco0
 clear hsub hs hfs ih hi hz0 hz1 hz2 hnk hn hcnt hnl0 hco0 hksz
 go_enter Try.func43, Try.ntmps43
 go_wp2_with fail
 go_loopw [3, 4] (fun v i wr => KdAt w 8 n t (.slice a L cap) φ k v i wr) (fun _ i _ => L - (intOf i).toNat)
 case atStart => exact HST.out
 case round =>
  obtain ⟨j, p, g, fs1, rfl, h3, h5, hG, hbw, hfv, hzb⟩ := hrel
  have h7 : g.len = L - j := by have := HL.out; rw [h3, F.len_app, h5] at this; omega
  have hjL0 : j ≤ L := by have := HL.out; rw [h3, F.len_app, h5] at this; omega
  obtain ⟨x0, x1, x2, x3⟩ := hfv
  have hsz0 : w.heap.size + 1 < wr.heap.size := hzb.2.2
  cases g with
  | nil =>
    have hjL : L = j := by simp only [F.len] at h7; omega
    subst hjL
    rw [F.app_nil] at h3
    subst h3
    obtain ⟨a', cap', rfl, hcap', hsub', hcm⟩ := hG.slice
    obtain ⟨⟨z0, z1, z2, z3⟩, ⟨z4, z5, z6, z7⟩, z8⟩ := hzb
    have HQ := Lib.hid (And.intro hsub' (And.intro hG.fresh (And.intro hbw hcap')))
    clear hG hbw hsub' h7 hcm hcap' h5 hjL0
    rw [HML.out]
    have hsubK := HQ.out.1
    have hl0 : w.heap.size < wr.heap.size := by omega
    have HZB := Lib.hid (show ZBox wr (w.heap.size + 1) from ⟨⟨z0, z1, z2, z3⟩, ⟨z4, z5, z6, z7⟩, z8⟩)
    have HX4 := Lib.hid (show Four w.heap.size (.int .i64 8) (.int .i64 n) (.string t) (.slice a L cap) wr from ⟨x0, x1, x2, x3⟩)
    have HEW := Lib.hid (show Ext w wr from HQ.out.2.2.1)
    have hlk : (1 : Nat) = L := by have := HML.out; rw [HK0.out] at this; exact this
    subst hlk
    obtain ⟨o1, n1, t1, k1⟩ := d1
    have HK := Lib.hid (show mapL φ k = .cons o1 n1 t1 k1 .nil from HK0.out)
    rw [HK.out] at hsubK
    have hFK := HQ.out.2.1
    obtain ⟨b, off, f', rfl, hb, hrow, hF'⟩ := sub_row hsubK hFK
    obtain ⟨a1, c1, f1, f2, u0, u1, u2, u3, u4, hs1, hF1, hr2, hF2⟩ := row_first hrow hF'
    obtain ⟨L1, hL1⟩ : ∃ L, k1.len = L := ⟨_, rfl⟩
    rw [hL1] at u3
    have HQ1 := Lib.hid (And.intro hs1 (And.intro hF1 (And.intro u4 hL1)))
    have HU := Lib.hid (show Four4 b off _ _ _ _ wr from ⟨u0, u1, u2, u3⟩)
    clear hsubK hFK hrow hF' hs1 hF1 hr2 hF2 u4 hL1
    have q1 : (o1 == 8) = false := by rw [beq_eq_false_iff_ne]; exact h1
    have HL0 := Lib.hid hl0
    have HBL := Lib.hid hb
    go_wp2_with (first
     | (go_at_call 79; refine (specMap _ _ _ _ _ _ _ _ _ _).mono ?_; rintro e1 w3 ⟨rfl, hb3⟩; have q3 : Ext wr w3 := hb3; clear x0 x1 x2 x3 z0 z1 z2 z3 z4 z5 z6 z7 z8 hl0 u0 u1 u2 u3 hb; obtain ⟨x0, x1, x2, x3⟩ := HX4.out.below q3 (by exact HL0.out); obtain ⟨⟨z0, z1, z2, z3⟩, ⟨z4, z5, z6, z7⟩, z8⟩ := HZB.out.ext q3; have hl0 := Nat.lt_of_lt_of_le HL0.out (Ext.size q3); obtain ⟨u0, u1, u2, u3⟩ := HU.out.below q3 (by exact HBL.out); have hb := Nat.lt_of_lt_of_le HBL.out (Ext.size q3); have T3 := Lib.hid (four_new w3 (.int .i64 8) (.int .i64 n) (.string t) (.slice (some ⟨b, off, none⟩) 1 cap') 25); have q9 := Lib.hid (q3.alloc (.cells #[.int .i64 8, .int .i64 n, .string t, .slice (some ⟨b, off, none⟩) 1 cap'] 25)); clear hb3)
     | (go_at_call 80; refine (HNL.out _ (by exact HEW.out.trans (q3.alloc _))).mono ?_; rintro e1 w4 ⟨rfl, hb4⟩; have q4 : Ext wr w4 := (q3.alloc _).trans hb4; clear x0 x1 x2 x3 z0 z1 z2 z3 z4 z5 z6 z7 z8 hl0 u0 u1 u2 u3 hb; obtain ⟨x0, x1, x2, x3⟩ := HX4.out.below q4 (by exact HL0.out); obtain ⟨⟨z0, z1, z2, z3⟩, ⟨z4, z5, z6, z7⟩, z8⟩ := HZB.out.ext q4; have hl0 := Nat.lt_of_lt_of_le HL0.out (Ext.size q4); obtain ⟨u0, u1, u2, u3⟩ := HU.out.below q4 (by exact HBL.out); have hb := Nat.lt_of_lt_of_le HBL.out (Ext.size q4); obtain ⟨y0, y1, y2, y3⟩ := T3.out.below hb4 (by simp); have T4 := Lib.hid (show Four w3.heap.size _ _ _ _ w4 from ⟨y0, y1, y2, y3⟩); have ly : w3.heap.size < w4.heap.size := (by have := Ext.size hb4; simp at this; omega); clear q9; have q9 := Lib.hid q4; clear hb4)
     | (go_at_call 68; refine (HCO.out _ (by exact HEW.out.trans q4)).mono ?_; rintro e1 w5 ⟨rfl, hb5⟩; have q5 : Ext wr w5 := q4.trans hb5; clear x0 x1 x2 x3 z0 z1 z2 z3 z4 z5 z6 z7 z8 hl0 u0 u1 u2 u3 hb; obtain ⟨x0, x1, x2, x3⟩ := HX4.out.below q5 (by exact HL0.out); obtain ⟨⟨z0, z1, z2, z3⟩, ⟨z4, z5, z6, z7⟩, z8⟩ := HZB.out.ext q5; have hl0 := Nat.lt_of_lt_of_le HL0.out (Ext.size q5); obtain ⟨u0, u1, u2, u3⟩ := HU.out.below q5 (by exact HBL.out); have hb := Nat.lt_of_lt_of_le HBL.out (Ext.size q5); clear y0 y1 y2 y3; obtain ⟨y0, y1, y2, y3⟩ := T4.out.below hb5 (by exact ly); have ly5 := Nat.lt_of_lt_of_le ly (Ext.size hb5); clear q9; have q9 := Lib.hid q5; clear hb5))
    refine bodyPost_ret (v := .agg #[.int .i64 8, .int .i64 n, .string t, .slice (some ⟨b, off, none⟩) 1 cap']) (by simp [results, Try.results43, go_sem, z0, z1, z2, z3, z4, z5, z6, z7, z8, hl0]) rfl ?_
    obtain ⟨hs9, hF9, _, hc9⟩ := HQ.out
    refine end_but (x := w.heap.size + 1) (lo := w.heap.size + 2) (w3 := wr) HML.out hs9 hF9 hc9 (by omega) (by omega) HQ.out.2.2.1 (by repeat (first | exact But.of_below q9.out | exact But.of_below q3 | refine But.setCell ?_ (Or.inl (by rfl)) _ | refine But.alloc ?_ (by have := Ext.size q3; simp; omega) _))
  | cons o1 n1 t1 k1 r1 =>
    have hjL : j < L := by simp only [F.len] at h7; omega
    obtain ⟨b, off, f', rfl, hrow, hbB, hfB⟩ := HSUB.out (by omega)
    rw [h3] at hrow
    obtain ⟨a1, cap1, f1, c0, c1, c2, c3, hc1', hsub1, hin⟩ := row_at hrow
    rw [h5] at c0 c1 c2 c3
    rw [← hbw.cell (p := ⟨_, _, _⟩) hbB] at c0 c1 c2 c3
    have hd := fun (W1 : World) (hw1 : Ext wr W1) => IH.out W1 o1 n1 t1 k1 p r1 a1 cap1 f1 h3 (hsub1.below (fun c hc => hfB c (hin c hc)) (hbw.trans (hw1.mono hbw.size))) (fun c hc => Nat.lt_of_lt_of_le (hfB c (hin c hc)) (Nat.le_trans hbw.size hw1.size)) hc1'
    obtain ⟨⟨o2, n2, t2, k2⟩, hφ⟩ : ∃ d : D, φ o1 n1 t1 k1 = d := ⟨_, rfl⟩
    rw [hφ] at hd
    have HD := Lib.hid hd
    have H := Lib.hid (And.intro h3 (And.intro h5 (And.intro hG (And.intro hbw hzb))))
    have HF := Lib.hid hφ
    have i0' : (0 : Int) ≤ (j : Int) := Int.natCast_nonneg _
    have i1 : (j : Int) < (L : Int) := by omega
    have HX := Lib.hid (show Four w.heap.size (.int .i64 8) (.int .i64 n) (.string t) (.slice (some ⟨b, off, none⟩) L cap) wr from ⟨x0, x1, x2, x3⟩)
    clear hd h3 h5 h7 hbw hrow hG hφ hzb
    go_wp2_with (first
     | (go_at_call 43; refine (HD.out _ (by exact Ext.refl _)).mono ?_; rintro e1 w1 ⟨a2, cap2, f2, rfl, hc2, hs2, hfr2, hb2⟩; have HST2 := Lib.hid (fun ob => mid_d (ob := ob) H.out.2.2.1 hb2); have H2 := Lib.hid (And.intro hs2 (And.intro hfr2 (And.intro hb2 hc2))); clear hs2 hfr2 hb2 hc2 c0 c1 c2 c3)
     | (at_builtin; refine append_doc rfl (.tmp 14) (.tmp 21) 23 rfl Try.underlying23 HI.out.1 HI.out.2.1 HI.out.2.2.1 HI.out.2.2.2 rfl rfl (HST2.out _).1 (d := w1.heap.size) (c := 1) rfl (cell_new w1 _ _ 0 _ rfl) (cell_new w1 _ _ 1 _ rfl) (cell_new w1 _ _ 2 _ rfl) (cell_new w1 _ _ 3 _ rfl) H2.out.2.2.2 (H2.out.1.below H2.out.2.1.lt ((Below.refl _ _).alloc (Nat.le_refl _) _)) (H2.out.2.1.below H2.out.2.1.lt ((Below.refl _ _).alloc (Nat.le_refl _) _)) (HST2.out (.cells #[] 0)).2.1 (HST2.out (.cells #[] 0)).2.2.1 (HST2.out (.cells #[] 0)).2.2.2.1 (by rw [len_mapL]; have := H.out.2.1; omega) ?_; intro v' w2 fs' hG' hb' hg'))
    go_roundw
    case rel =>
     obtain ⟨h3, h5, hG, hbw, hzb⟩ := H.out
     have hch := mid_end H2.out.2.2.1 hb' hG.2.2.2
     refine ⟨j + 1, p.app (.cons o1 n1 t1 k1 .nil), r1, fs', by go_num, by rw [h3, F.app_assoc]; rfl, by rw [F.len_app, h5]; rfl, ?_, hbw.trans (hch.mono (by omega)), HX.out.below hch (by omega), zbox_below hzb hch (by omega)⟩
     rw [mapL_app, show mapL φ (.cons o1 n1 t1 k1 .nil) = .cons o2 n2 t2 k2 .nil by rw [mapL, HF.out]; rfl]
     exact hG'
    case measure => simp [intOf]; omega
theorem gs_f (w : World) (o n : Int) (t : ByteArray) (k : F) (ih : GsS k) (hn : niceD (o, n, t, k) = true) (hcnt : k.cnt ≤ 10000) (a : Option Addr) (cap : Nat) (fs : List Nat) (hs : SubAt w a k fs) (hfs : ∀ c ∈ fs, c < w.heap.size) (hc : k.len ≤ cap) (h8 : o ≠ 8) :
  Calls Try.prog 43 #[.agg #[.int .i64 o, .int .i64 n, .string t, .slice a k.len cap]] w (NewD w (o, n, t, mapL (chD grR) k)) := by
 have hnk : nice k = true := (nice_kids hn).2
 have hksz : k.size ≤ 2097152 := by have := nice_size k hnk; omega
 have hnl0 := fun (W : World) (e : Ext w W) => l7Newlines W o n t k a cap fs (e.sub hs hfs) (fun c hc => Nat.lt_of_lt_of_le (hfs c hc) e.size) hc hksz
 have hco0 := fun (W : World) (e : Ext w W) => CntC.specCountOps 5 W o n t k a cap fs (e.sub hs hfs) (fun c hc => Nat.lt_of_lt_of_le (hfs c hc) e.size) hc (by omega)
 obtain ⟨φ, hφφ⟩ : ∃ φ, chD grR = φ := ⟨_, rfl⟩
 have ih := fun (w : World) (o n : Int) (t : ByteArray) (k1 : F) (p r : F) (a : Option Addr) (cap : Nat) (fs : List Nat) (h : k = p.app (.cons o n t k1 r)) => ih w o n t k1 p r a cap fs h hnk hcnt
 rw [hφφ] at ih
 rw [hφφ]
 have q8 : (o == 8) = false := by rw [beq_eq_false_iff_ne]; exact h8
 obtain ⟨i0, hi, hz0, hz1, hz2⟩ := info_parts To.info
 obtain ⟨L, hL⟩ : ∃ L, k.len = L := ⟨_, rfl⟩
 rw [hL] at hc hnl0 hco0 ⊢
 have HL := Lib.hid hL
 have HML := Lib.hid (show (mapL φ k).len = L by rw [len_mapL, hL])
 have hL4 : L ≤ 4194304 := by have := F.len_le_cnt k; omega
 clear hL
 have hsub : 0 < L → ∃ b off f', a = some ⟨b, off, none⟩ ∧ RowAt w k b off f' ∧ b < w.heap.size ∧ ∀ c ∈ f', c < w.heap.size := by
  intro h0
  rcases hs with ⟨rfl, rfl⟩ | ⟨b, off, f', rfl, hnil, rfl, hrow⟩
  ·have := HL.out; simp only [F.len] at this; omega
  ·exact ⟨b, off, f', rfl, hrow, hfs b (by simp), fun c hc => hfs c (by simp [hc])⟩
 have HSUB := Lib.hid hsub
 have IH := Lib.hid ih
 have HI := Lib.hid (And.intro hi (And.intro hz0 (And.intro hz1 hz2)))
 have HST := Lib.hid (kd_start w o n t (.slice a L cap) φ k 25)
 have HNL := Lib.hid hnl0
 have HCO := Lib.hid hco0
 clear hsub hs hfs ih hi hz0 hz1 hz2 hnk hn hcnt hnl0 hco0 hksz
 go_enter Try.func43, Try.ntmps43
 go_wp2_with fail
 go_loopw [3, 4] (fun v i wr => KdAt w o n t (.slice a L cap) φ k v i wr) (fun _ i _ => L - (intOf i).toNat)
 case atStart => exact HST.out
 case round =>
  obtain ⟨j, p, g, fs1, rfl, h3, h5, hG, hbw, hfv, hzb⟩ := hrel
  have h7 : g.len = L - j := by have := HL.out; rw [h3, F.len_app, h5] at this; omega
  have hjL0 : j ≤ L := by have := HL.out; rw [h3, F.len_app, h5] at this; omega
  obtain ⟨x0, x1, x2, x3⟩ := hfv
  have hsz0 : w.heap.size + 1 < wr.heap.size := hzb.2.2
  cases g with
  | nil =>
    have hjL : L = j := by simp only [F.len] at h7; omega
    subst hjL
    rw [F.app_nil] at h3
    subst h3
    obtain ⟨a', cap', rfl, hcap', hsub', hcm⟩ := hG.slice
    obtain ⟨⟨z0, z1, z2, z3⟩, ⟨z4, z5, z6, z7⟩, z8⟩ := hzb
    have HQ := Lib.hid (And.intro hsub' (And.intro hG.fresh (And.intro hbw hcap')))
    clear hG hbw hsub' h7 hcm hcap' h5 hjL0
    rw [HML.out]
    have hsubK := HQ.out.1
    have hl0 : w.heap.size < wr.heap.size := by omega
    have HZB := Lib.hid (show ZBox wr (w.heap.size + 1) from ⟨⟨z0, z1, z2, z3⟩, ⟨z4, z5, z6, z7⟩, z8⟩)
    have HX4 := Lib.hid (show Four w.heap.size (.int .i64 o) (.int .i64 n) (.string t) (.slice a L cap) wr from ⟨x0, x1, x2, x3⟩)
    have HEW := Lib.hid (show Ext w wr from HQ.out.2.2.1)
    have HL0 := Lib.hid hl0
    go_wp2_with (first
     | (go_at_call 79; refine (specMap _ _ _ _ _ _ _ _ _ _).mono ?_; rintro e1 w3 ⟨rfl, hb3⟩; have q3 : Ext wr w3 := hb3; clear x0 x1 x2 x3 z0 z1 z2 z3 z4 z5 z6 z7 z8 hl0; obtain ⟨x0, x1, x2, x3⟩ := HX4.out.below q3 (by exact HL0.out); obtain ⟨⟨z0, z1, z2, z3⟩, ⟨z4, z5, z6, z7⟩, z8⟩ := HZB.out.ext q3; have hl0 := Nat.lt_of_lt_of_le HL0.out (Ext.size q3); have T3 := Lib.hid (four_new w3 (.int .i64 o) (.int .i64 n) (.string t) (.slice a' L cap') 25); have q9 := Lib.hid (q3.alloc (.cells #[.int .i64 o, .int .i64 n, .string t, .slice a' L cap'] 25)); clear hb3)
     | (go_at_call 80; refine (HNL.out _ (by exact HEW.out.trans (q3.alloc _))).mono ?_; rintro e1 w4 ⟨rfl, hb4⟩; have q4 : Ext wr w4 := (q3.alloc _).trans hb4; clear x0 x1 x2 x3 z0 z1 z2 z3 z4 z5 z6 z7 z8 hl0; obtain ⟨x0, x1, x2, x3⟩ := HX4.out.below q4 (by exact HL0.out); obtain ⟨⟨z0, z1, z2, z3⟩, ⟨z4, z5, z6, z7⟩, z8⟩ := HZB.out.ext q4; have hl0 := Nat.lt_of_lt_of_le HL0.out (Ext.size q4); obtain ⟨y0, y1, y2, y3⟩ := T3.out.below hb4 (by simp); have T4 := Lib.hid (show Four w3.heap.size _ _ _ _ w4 from ⟨y0, y1, y2, y3⟩); have ly : w3.heap.size < w4.heap.size := (by have := Ext.size hb4; simp at this; omega); clear q9; have q9 := Lib.hid q4; clear hb4)
     | (go_at_call 68; refine (HCO.out _ (by exact HEW.out.trans q4)).mono ?_; rintro e1 w5 ⟨rfl, hb5⟩; have q5 : Ext wr w5 := q4.trans hb5; clear x0 x1 x2 x3 z0 z1 z2 z3 z4 z5 z6 z7 z8 hl0; obtain ⟨x0, x1, x2, x3⟩ := HX4.out.below q5 (by exact HL0.out); obtain ⟨⟨z0, z1, z2, z3⟩, ⟨z4, z5, z6, z7⟩, z8⟩ := HZB.out.ext q5; have hl0 := Nat.lt_of_lt_of_le HL0.out (Ext.size q5); clear y0 y1 y2 y3; obtain ⟨y0, y1, y2, y3⟩ := T4.out.below hb5 (by exact ly); have ly5 := Nat.lt_of_lt_of_le ly (Ext.size hb5); clear q9; have q9 := Lib.hid q5; clear hb5))
    refine bodyPost_ret (v := .agg #[.int .i64 o, .int .i64 n, .string t, .slice a' L cap']) (by simp [results, Try.results43, go_sem, z0, z1, z2, z3, z4, z5, z6, z7, z8, hl0]) rfl ?_
    obtain ⟨hs9, hF9, _, hc9⟩ := HQ.out
    refine end_but (x := w.heap.size + 1) (lo := w.heap.size + 2) (w3 := wr) HML.out hs9 hF9 hc9 (by omega) (by omega) HQ.out.2.2.1 (by repeat (first | exact But.of_below q9.out | exact But.of_below q3 | refine But.setCell ?_ (Or.inl (by rfl)) _ | refine But.alloc ?_ (by have := Ext.size q3; simp; omega) _))
  | cons o1 n1 t1 k1 r1 =>
    have hjL : j < L := by simp only [F.len] at h7; omega
    obtain ⟨b, off, f', rfl, hrow, hbB, hfB⟩ := HSUB.out (by omega)
    rw [h3] at hrow
    obtain ⟨a1, cap1, f1, c0, c1, c2, c3, hc1', hsub1, hin⟩ := row_at hrow
    rw [h5] at c0 c1 c2 c3
    rw [← hbw.cell (p := ⟨_, _, _⟩) hbB] at c0 c1 c2 c3
    have hd := fun (W1 : World) (hw1 : Ext wr W1) => IH.out W1 o1 n1 t1 k1 p r1 a1 cap1 f1 h3 (hsub1.below (fun c hc => hfB c (hin c hc)) (hbw.trans (hw1.mono hbw.size))) (fun c hc => Nat.lt_of_lt_of_le (hfB c (hin c hc)) (Nat.le_trans hbw.size hw1.size)) hc1'
    obtain ⟨⟨o2, n2, t2, k2⟩, hφ⟩ : ∃ d : D, φ o1 n1 t1 k1 = d := ⟨_, rfl⟩
    rw [hφ] at hd
    have HD := Lib.hid hd
    have H := Lib.hid (And.intro h3 (And.intro h5 (And.intro hG (And.intro hbw hzb))))
    have HF := Lib.hid hφ
    have i0' : (0 : Int) ≤ (j : Int) := Int.natCast_nonneg _
    have i1 : (j : Int) < (L : Int) := by omega
    have HX := Lib.hid (show Four w.heap.size (.int .i64 o) (.int .i64 n) (.string t) (.slice (some ⟨b, off, none⟩) L cap) wr from ⟨x0, x1, x2, x3⟩)
    clear hd h3 h5 h7 hbw hrow hG hφ hzb
    go_wp2_with (first
     | (go_at_call 43; refine (HD.out _ (by exact Ext.refl _)).mono ?_; rintro e1 w1 ⟨a2, cap2, f2, rfl, hc2, hs2, hfr2, hb2⟩; have HST2 := Lib.hid (fun ob => mid_d (ob := ob) H.out.2.2.1 hb2); have H2 := Lib.hid (And.intro hs2 (And.intro hfr2 (And.intro hb2 hc2))); clear hs2 hfr2 hb2 hc2 c0 c1 c2 c3)
     | (at_builtin; refine append_doc rfl (.tmp 14) (.tmp 21) 23 rfl Try.underlying23 HI.out.1 HI.out.2.1 HI.out.2.2.1 HI.out.2.2.2 rfl rfl (HST2.out _).1 (d := w1.heap.size) (c := 1) rfl (cell_new w1 _ _ 0 _ rfl) (cell_new w1 _ _ 1 _ rfl) (cell_new w1 _ _ 2 _ rfl) (cell_new w1 _ _ 3 _ rfl) H2.out.2.2.2 (H2.out.1.below H2.out.2.1.lt ((Below.refl _ _).alloc (Nat.le_refl _) _)) (H2.out.2.1.below H2.out.2.1.lt ((Below.refl _ _).alloc (Nat.le_refl _) _)) (HST2.out (.cells #[] 0)).2.1 (HST2.out (.cells #[] 0)).2.2.1 (HST2.out (.cells #[] 0)).2.2.2.1 (by rw [len_mapL]; have := H.out.2.1; omega) ?_; intro v' w2 fs' hG' hb' hg'))
    go_roundw
    case rel =>
     obtain ⟨h3, h5, hG, hbw, hzb⟩ := H.out
     have hch := mid_end H2.out.2.2.1 hb' hG.2.2.2
     refine ⟨j + 1, p.app (.cons o1 n1 t1 k1 .nil), r1, fs', by go_num, by rw [h3, F.app_assoc]; rfl, by rw [F.len_app, h5]; rfl, ?_, hbw.trans (hch.mono (by omega)), HX.out.below hch (by omega), zbox_below hzb hch (by omega)⟩
     rw [mapL_app, show mapL φ (.cons o1 n1 t1 k1 .nil) = .cons o2 n2 t2 k2 .nil by rw [mapL, HF.out]; rfl]
     exact hG'
    case measure => simp [intOf]; omega
theorem gs_step (w : World) (o n : Int) (t : ByteArray) (k : F) (ih : GsS k) (hn : niceD (o, n, t, k) = true) (hcnt : k.cnt ≤ 10000) (a : Option Addr) (cap : Nat) (fs : List Nat) (hs : SubAt w a k fs) (hfs : ∀ c ∈ fs, c < w.heap.size) (hc : k.len ≤ cap) :
  Calls Try.prog 43 #[.agg #[.int .i64 o, .int .i64 n, .string t, .slice a k.len cap]] w (NewD w (chD grR o n t k)) := by
 have hnk := (nice_kids hn).2
 have e1 := gr_nl k hnk
 have e2 := gr_hr k hnk
 show Calls _ _ _ w (NewD w (grR o n t (chL grR k)))
 rw [chL_map] at e1 e2 ⊢
 by_cases h8 : o = 8
 ·obtain ⟨a1, hk⟩ := kids_one hn (Or.inr h8)
  obtain ⟨d1, hd1⟩ : ∃ d, chD grR a1.1 a1.2.1 a1.2.2.1 a1.2.2.2 = d := ⟨_, rfl⟩
  have hK : mapL (chD grR) k = consD d1 .nil := by rw [hk, ← hd1]; rfl
  have hg : grR o n t (mapL (chD grR) k) = if d1.1 = 8 ∨ nlF k = 0 ∨ 0 < hrF k then d1 else (8, n, t, mapL (chD grR) k) := by
   have hh : (hd (mapL (chD grR) k)) = d1 := by rw [hK]; rfl
   obtain ⟨K, hKK⟩ : ∃ K, mapL (chD grR) k = K := ⟨_, rfl⟩
   rw [hKK] at e1 e2 hh ⊢
   unfold grR
   rw [e1, e2, hh, h8]
   by_cases h : d1.1 = 8 ∨ nlF k = 0 ∨ 0 < hrF k
   ·rw [if_pos h, if_pos ⟨rfl, h⟩]
   ·rw [if_neg h, if_neg (fun q => h q.2)]
  rw [hg]
  by_cases hN : nlF k = 0
  ·rw [if_pos (by omega)]; exact gs_g1 w o n t k ih hn hcnt a cap fs hs hfs hc h8 d1 hK hN
  ·by_cases hM : hrF k = 0
   ·by_cases h1 : d1.1 = 8
    ·rw [if_pos (by omega)]; exact gs_g3 w o n t k ih hn hcnt a cap fs hs hfs hc h8 d1 hK (by omega) hM h1
    ·rw [if_neg (by omega)]; exact gs_g4 w o n t k ih hn hcnt a cap fs hs hfs hc h8 d1 hK (by omega) hM h1
   ·rw [if_pos (by omega)]; exact gs_g2 w o n t k ih hn hcnt a cap fs hs hfs hc h8 d1 hK (by omega) (by omega)
 ·rw [show grR o n t (mapL (chD grR) k) = (o, n, t, mapL (chD grR) k) from if_neg (fun h => h8 h.1)]
  exact gs_f w o n t k ih hn hcnt a cap fs hs hfs hc h8
theorem gsS (m : Nat) : ∀ f : F, f.deep ≤ m → GsS f := by
 induction m with
 | zero =>
   intro f hf w o n t k p r a cap fs he
   rw [he, F.deep_app] at hf; simp only [F.deep] at hf; omega
 | succ m ih =>
   intro f hf w o n t k p r a cap fs he hn hcnt hs hfs hc
   have hk : k.deep ≤ m := by rw [he, F.deep_app] at hf; simp only [F.deep] at hf; omega
   have hn' : niceD (o, n, t, k) = true := by
    rw [he, nice_app, Bool.and_eq_true] at hn
    exact (Bool.and_eq_true_iff.1 hn.2).1
   rw [he, F.cnt_app] at hcnt
   simp only [F.cnt] at hcnt
   exact gs_step w o n t k (ih k hk) hn' (by omega) a cap fs hs hfs hc
theorem l7Groups (w : World) (o n : Int) (t : ByteArray) (k : F) (hn : niceD (o, n, t, k) = true) (hcnt : k.cnt ≤ 10000) (a : Option Addr) (cap : Nat) (fs : List Nat) (hs : SubAt w a k fs) (hfs : ∀ c ∈ fs, c < w.heap.size) (hc : k.len ≤ cap) :
  Calls Try.prog 43 #[.agg #[.int .i64 o, .int .i64 n, .string t, .slice a k.len cap]] w (NewD w (chD grR o n t k)) :=
 gs_step w o n t k (gsS _ k (Nat.le_refl _)) hn hcnt a cap fs hs hfs hc
end Go.Proofs.Ytjcaiecapapceaa.Nf
