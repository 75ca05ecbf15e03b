import Derived.Test.YtafhefmjnjibdaaNfB
import Derived.Test.YtafhefmjnjibdaaNfR6
/-
  The model's l7Right at a document that is no pair.
-/
set_option linter.unusedVariables false
set_option linter.unusedSimpArgs false
namespace Go.Proofs.Ytafhefmjnjibdaa.Nf
open Go.RowKit P1 Copy CatD

/-- the contract of l7Right at the documents of a list -/
def RiS (f : F) : Prop := ∀ (w : World) (o n : Int) (t : ByteArray) (k : F) (p r : F) (a : Option Addr) (cap : Nat) (fs : List Nat), f = p.app (.cons o n t k r) → nice f = true → f.cnt ≤ 10000 → SubAt w a k fs → (∀ c ∈ fs, c < w.heap.size) → k.len ≤ cap →
  Calls Try.prog 73 #[.agg #[.int .i64 o, .int .i64 n, .string t, .slice a k.len cap]] w (NewD w (rowD (fun f => f) o n t k))

set_option maxRecDepth 100000 in
set_option maxHeartbeats 3200000 in
theorem ri_one (w : World) (o n : Int) (t : ByteArray) (k : F) (ih : RiS k) (hn : niceD (o, n, t, k) = true) (hcnt : k.cnt ≤ 10000) (a : Option Addr) (cap : Nat) (fs : List Nat) (hs : SubAt w a k fs) (hfs : ∀ c ∈ fs, c < w.heap.size) (hc : k.len ≤ cap) (h7 : o ≠ 7) :
    Calls Try.prog 73 #[.agg #[.int .i64 o, .int .i64 n, .string t, .slice a k.len cap]] w (NewD w (o, n, t, mapL (rowD (fun f => f)) k)) := by
  have hnk : nice k = true := (nice_kids hn).2
  obtain ⟨φ, hφφ⟩ : ∃ φ, rowD (fun f => f) = φ := ⟨_, rfl⟩
  have ih := fun (w : World) (o n : Int) (t : ByteArray) (k1 : F) (p r : F) (a : Option Addr) (cap : Nat) (fs : List Nat) (h : k = p.app (.cons o n t k1 r)) => ih w o n t k1 p r a cap fs h hnk hcnt
  rw [hφφ] at ih
  rw [hφφ]
  have q7 : (o == 7) = false := by rw [beq_eq_false_iff_ne]; exact h7
  obtain ⟨i0, hi, hz0, hz1, hz2⟩ := info_parts To.info
  obtain ⟨L, hL⟩ : ∃ L, k.len = L := ⟨_, rfl⟩
  rw [hL] at hc ⊢
  have HL := Lib.hid hL
  have HML := Lib.hid (show (mapL φ k).len = L by rw [len_mapL, hL])
  have hL4 : L ≤ 4194304 := by have := F.len_le_cnt k; omega
  clear hL
  have hsub : 0 < L → ∃ b off f', a = some ⟨b, off, none⟩ ∧ RowAt w k b off f' ∧ b < w.heap.size ∧ ∀ c ∈ f', c < w.heap.size := by
    intro h0
    rcases hs with ⟨rfl, rfl⟩ | ⟨b, off, f', rfl, hnil, rfl, hrow⟩
    · have := HL.out; simp only [F.len] at this; omega
    · exact ⟨b, off, f', rfl, hrow, hfs b (by simp), fun c hc => hfs c (by simp [hc])⟩
  have HSUB := Lib.hid hsub
  have IH := Lib.hid ih
  have HI := Lib.hid (And.intro hi (And.intro hz0 (And.intro hz1 hz2)))
  have HST := Lib.hid (kd_start w o n t (.slice a L cap) φ k 25)
  clear hsub hs hfs ih hi hz0 hz1 hz2 hnk hn hcnt
  go_enter Try.func73, Try.ntmps73
  go_wp2_with fail
  go_loopw [6, 7] (fun v i wr => KdAt w o n t (.slice a L cap) φ k v i wr) (fun _ i _ => L - (intOf i).toNat)
  case atStart => exact HST.out
  case round =>
    obtain ⟨j, p, g, fs1, rfl, h3, h5, hG, hbw, hfv, hzb⟩ := hrel
    have h7 : g.len = L - j := by have := HL.out; rw [h3, F.len_app, h5] at this; omega
    have hjL0 : j ≤ L := by have := HL.out; rw [h3, F.len_app, h5] at this; omega
    obtain ⟨x0, x1, x2, x3⟩ := hfv
    have hsz0 : w.heap.size + 1 < wr.heap.size := hzb.2.2
    cases g with
    | nil =>
      have hjL : L = j := by simp only [F.len] at h7; omega
      subst hjL
      rw [F.app_nil] at h3
      subst h3
      obtain ⟨a', cap', rfl, hcap', hsub', hcm⟩ := hG.slice
      obtain ⟨⟨z0, z1, z2, z3⟩, ⟨z4, z5, z6, z7⟩, z8⟩ := hzb
      have HQ := Lib.hid (And.intro hsub' (And.intro hG.fresh (And.intro hbw hcap')))
      clear hG hbw hsub' h7 hcm hcap' h5 hjL0
      rw [HML.out]
      have hsubK := HQ.out.1
      have hl0 : w.heap.size < wr.heap.size := by omega
      have HZB := Lib.hid (show ZBox wr (w.heap.size + 1) from ⟨⟨z0, z1, z2, z3⟩, ⟨z4, z5, z6, z7⟩, z8⟩)
      go_wp2_with (first
        | (go_at_call 117; refine (specEmpty _ _ _ _ _ _ _).mono ?_; rintro e1 w3 ⟨rfl, rfl⟩)
        | (go_at_call 103; refine (specMap _ _ _ _ _ _ _ _ _ _).mono ?_; rintro e1 w3 ⟨rfl, hb3⟩; have q3 : Ext wr w3 := (by first | exact hb3 | exact ((Ext.refl wr).alloc _).trans hb3 | exact (((Ext.refl wr).alloc _).alloc _).trans hb3); obtain ⟨⟨z0, z1, z2, z3⟩, ⟨z4, z5, z6, z7⟩, z8⟩ := HZB.out.ext q3))
      refine bodyPost_ret (v := .agg #[.int .i64 o, .int .i64 n, .string t, .slice a' L cap']) (by simp [results, Try.results73, go_sem, z0, z1, z2, z3, z4, z5, z6, z7, z8, hl0]) rfl ?_
      obtain ⟨hs9, hF9, _, hc9⟩ := HQ.out
      refine end_but (x := w.heap.size + 1) (lo := w.heap.size + 2) (w3 := wr) HML.out hs9 hF9 hc9 (by omega) (by omega) HQ.out.2.2.1 (by repeat (first | exact But.of_below q3 | exact But.refl _ _ _ | refine But.setCell ?_ (Or.inl (by rfl)) _ | refine But.alloc ?_ (by simp) _))
    | cons o1 n1 t1 k1 r1 =>
      have hjL : j < L := by simp only [F.len] at h7; omega
      obtain ⟨b, off, f', rfl, hrow, hbB, hfB⟩ := HSUB.out (by omega)
      rw [h3] at hrow
      obtain ⟨a1, cap1, f1, c0, c1, c2, c3, hc1', hsub1, hin⟩ := row_at hrow
      rw [h5] at c0 c1 c2 c3
      rw [← hbw.cell (p := ⟨_, _, _⟩) hbB] at c0 c1 c2 c3
      have hd := fun (W1 : World) (hw1 : Ext wr W1) => IH.out W1 o1 n1 t1 k1 p r1 a1 cap1 f1 h3 (hsub1.below (fun c hc => hfB c (hin c hc)) (hbw.trans (hw1.mono hbw.size))) (fun c hc => Nat.lt_of_lt_of_le (hfB c (hin c hc)) (Nat.le_trans hbw.size hw1.size)) hc1'
      obtain ⟨⟨o2, n2, t2, k2⟩, hφ⟩ : ∃ d : D, φ o1 n1 t1 k1 = d := ⟨_, rfl⟩
      rw [hφ] at hd
      have HD := Lib.hid hd
      have H := Lib.hid (And.intro h3 (And.intro h5 (And.intro hG (And.intro hbw hzb))))
      have HF := Lib.hid hφ
      have i0' : (0 : Int) ≤ (j : Int) := Int.natCast_nonneg _
      have i1 : (j : Int) < (L : Int) := by omega
      have HX := Lib.hid (show Four w.heap.size (.int .i64 o) (.int .i64 n) (.string t) (.slice (some ⟨b, off, none⟩) L cap) wr from ⟨x0, x1, x2, x3⟩)
      clear hd h3 h5 h7 hbw hrow hG hφ hzb
      go_wp2_with (first
        | (go_at_call 73; refine (HD.out _ (by exact Ext.refl _)).mono ?_; rintro e1 w1 ⟨a2, cap2, f2, rfl, hc2, hs2, hfr2, hb2⟩; have HST2 := Lib.hid (fun ob => mid_d (ob := ob) H.out.2.2.1 hb2); have H2 := Lib.hid (And.intro hs2 (And.intro hfr2 (And.intro hb2 hc2))); clear hs2 hfr2 hb2 hc2 c0 c1 c2 c3)
        | (at_builtin; refine append_doc rfl (.tmp 42) (.tmp 49) 23 rfl Try.underlying23 HI.out.1 HI.out.2.1 HI.out.2.2.1 HI.out.2.2.2 rfl rfl (HST2.out _).1 (d := w1.heap.size) (c := 1) rfl (cell_new w1 _ _ 0 _ rfl) (cell_new w1 _ _ 1 _ rfl) (cell_new w1 _ _ 2 _ rfl) (cell_new w1 _ _ 3 _ rfl) H2.out.2.2.2 (H2.out.1.below H2.out.2.1.lt ((Below.refl _ _).alloc (Nat.le_refl _) _)) (H2.out.2.1.below H2.out.2.1.lt ((Below.refl _ _).alloc (Nat.le_refl _) _)) (HST2.out (.cells #[] 0)).2.1 (HST2.out (.cells #[] 0)).2.2.1 (HST2.out (.cells #[] 0)).2.2.2.1 (by rw [len_mapL]; have := H.out.2.1; omega) ?_; intro v' w2 fs' hG' hb' hg'))
      go_roundw
      case rel =>
        obtain ⟨h3, h5, hG, hbw, hzb⟩ := H.out
        have hch := mid_end H2.out.2.2.1 hb' hG.2.2.2
        refine ⟨j + 1, p.app (.cons o1 n1 t1 k1 .nil), r1, fs', by go_num, by rw [h3, F.app_assoc]; rfl, by rw [F.len_app, h5]; rfl, ?_, hbw.trans (hch.mono (by omega)), HX.out.below hch (by omega), zbox_below hzb hch (by omega)⟩
        rw [mapL_app, show mapL φ (.cons o1 n1 t1 k1 .nil) = .cons o2 n2 t2 k2 .nil by rw [mapL, HF.out]; rfl]
        exact hG'
      case measure => simp [intOf]; omega

theorem ri_oneOf {m : Nat} (ih : ∀ f : F, f.deep ≤ m → RiS f) : RiOne m := by
  intro W o n t k a cap fs h7 hd hn hc hs hfs hcap
  rw [pr_map]
  exact ri_one W o n t k (ih k hd) hn hc a cap fs hs hfs hcap h7

end Go.Proofs.Ytafhefmjnjibdaa.Nf

