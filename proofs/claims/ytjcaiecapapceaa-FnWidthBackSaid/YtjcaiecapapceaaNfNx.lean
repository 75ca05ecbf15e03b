import Derived.Test.YtjcaiecapapceaaNfU7
/-
 The normal form as a plain function: five changes, each well-formed and not too large.
-/
set_option linter.unusedVariables false
set_option linter.unusedSimpArgs false
set_option maxRecDepth 100000
set_option maxHeartbeats 1600000
namespace Go.Proofs.Ytjcaiecapapceaa.Nf
open Go.RowKit P1 Copy CatD
def n2D (d : D) : D := ap (pushD 0) (n1D d)
def n3D (d : D) : D := ap (chD grR) (n2D d)
def n4D (d : D) : D := ap (chD emR) (n3D d)
def noD (d : D) : D := ap (rowD fzR) (n4D d)
def noRes (o n : Int) (t : ByteArray) (k : F) : Bool × D := chR (o, n, t, k) (noD (o, n, t, k))
theorem no_2 {d : D} (h : validD d.1 d.2.1 d.2.2.1 d.2.2.2 = true) : niceD (n2D d) = true ∧ (n2D d).2.2.2.cnt ≤ 10000 := by
 obtain ⟨h1, h2, h3⟩ := no_1 h
 obtain ⟨⟨o1, n1, t1, k1⟩, hd⟩ : ∃ x, n1D d = x := ⟨_, rfl⟩
 unfold n2D
 rw [hd] at h1 h2 h3 ⊢
 exact push_fit h1 h3 h2
theorem no_3 {d : D} (h : validD d.1 d.2.1 d.2.2.1 d.2.2.2 = true) : niceD (n3D d) = true ∧ (n3D d).2.2.2.cnt ≤ 10000 := by
 obtain ⟨h1, h2⟩ := no_2 h
 obtain ⟨⟨o1, n1, t1, k1⟩, hd⟩ : ∃ x, n2D d = x := ⟨_, rfl⟩
 unfold n3D
 rw [hd] at h1 h2 ⊢
 obtain ⟨h3, h4⟩ := gr_nice h1
 exact ⟨h3, Nat.le_trans h4 h2⟩
theorem no_4 {d : D} (h : validD d.1 d.2.1 d.2.2.1 d.2.2.2 = true) : niceD (n4D d) = true ∧ (n4D d).2.2.2.cnt ≤ 10000 := by
 obtain ⟨h1, h2⟩ := no_3 h
 obtain ⟨⟨o1, n1, t1, k1⟩, hd⟩ : ∃ x, n3D d = x := ⟨_, rfl⟩
 unfold n4D
 rw [hd] at h1 h2 ⊢
 obtain ⟨h3, h4⟩ := em_nice h1
 exact ⟨h3, Nat.le_trans h4 h2⟩
theorem no_5 {d : D} (h : validD d.1 d.2.1 d.2.2.1 d.2.2.2 = true) : niceD (noD d) = true ∧ (noD d).2.2.2.cnt ≤ 10000 := by
 obtain ⟨h1, h2⟩ := no_4 h
 obtain ⟨⟨o1, n1, t1, k1⟩, hd⟩ : ∃ x, n4D d = x := ⟨_, rfl⟩
 unfold noD
 rw [hd] at h1 h2 ⊢
 obtain ⟨h3, h4⟩ := row_nice fzR_ok h1
 exact ⟨h3, Nat.le_trans h4 h2⟩
end Go.Proofs.Ytjcaiecapapceaa.Nf
namespace Go.Proofs.Ytjcaiecapapceaa.Nf
open Go.RowKit P1 Copy CatD
end Go.Proofs.Ytjcaiecapapceaa.Nf
namespace Go.Proofs.Ytjcaiecapapceaa.Nf
open Go.RowKit P1 Copy CatD
theorem l7Normal (w : World) (o n : Int) (t : ByteArray) (k : F) (hv : validD o n t k = true) (a : Option Addr) (cap : Nat) (fs : List Nat) (hs : SubAt w a k fs) (hfs : ∀ c ∈ fs, c < w.heap.size) (hc : k.len ≤ cap) :
  Calls Try.prog 51 #[.agg #[.int .i64 o, .int .i64 n, .string t, .slice a k.len cap]] w (NewD w (noD (o, n, t, k))) := by
 obtain ⟨a1, a2, a3⟩ := no_1 (d := (o, n, t, k)) hv
 obtain ⟨b1, b2⟩ := no_2 (d := (o, n, t, k)) hv
 obtain ⟨c1, c2⟩ := no_3 (d := (o, n, t, k)) hv
 obtain ⟨e1, e2⟩ := no_4 (d := (o, n, t, k)) hv
 have h0 := valid_nice hv
 have p1 := fun (W : World) (e : Ext w W) => l7Drop W o n t k h0.1 (by have := h0.2.2; omega) a cap fs (e.sub hs hfs) (fun c hc => Nat.lt_of_lt_of_le (hfs c hc) e.size) hc
 have p2 := fun (W : World) => l7Push W (n1D (o, n, t, k)).1 (n1D (o, n, t, k)).2.1 (n1D (o, n, t, k)).2.2.1 (n1D (o, n, t, k)).2.2.2 0 a1 (by omega) (by omega)
 have p3 := fun (W : World) => l7Groups W (n2D (o, n, t, k)).1 (n2D (o, n, t, k)).2.1 (n2D (o, n, t, k)).2.2.1 (n2D (o, n, t, k)).2.2.2 b1 b2
 have p4 := fun (W : World) => l7Drop W (n3D (o, n, t, k)).1 (n3D (o, n, t, k)).2.1 (n3D (o, n, t, k)).2.2.1 (n3D (o, n, t, k)).2.2.2 c1 c2
 have p5 := fun (W : World) => l7Texts W (n4D (o, n, t, k)).1 (n4D (o, n, t, k)).2.1 (n4D (o, n, t, k)).2.2.1 (n4D (o, n, t, k)).2.2.2 e1 e2
 have p1 := fun (W : World) (e : Ext w W) => (show Calls Try.prog 87 #[.agg #[.int .i64 o, .int .i64 n, .string t, .slice a k.len cap]] W (NewD W (n1D (o, n, t, k))) from p1 W e)
 have q2 : pushD ((0 : Nat)) (n1D (o, n, t, k)).1 (n1D (o, n, t, k)).2.1 (n1D (o, n, t, k)).2.2.1 (n1D (o, n, t, k)).2.2.2 = n2D (o, n, t, k) := rfl
 have q3 : chD grR (n2D (o, n, t, k)).1 (n2D (o, n, t, k)).2.1 (n2D (o, n, t, k)).2.2.1 (n2D (o, n, t, k)).2.2.2 = n3D (o, n, t, k) := rfl
 have q4 : chD emR (n3D (o, n, t, k)).1 (n3D (o, n, t, k)).2.1 (n3D (o, n, t, k)).2.2.1 (n3D (o, n, t, k)).2.2.2 = n4D (o, n, t, k) := rfl
 have q5 : rowD fzR (n4D (o, n, t, k)).1 (n4D (o, n, t, k)).2.1 (n4D (o, n, t, k)).2.2.1 (n4D (o, n, t, k)).2.2.2 = noD (o, n, t, k) := rfl
 rw [q2] at p2
 rw [q3] at p3
 rw [q4] at p4
 rw [q5] at p5
 obtain ⟨⟨o1, n1, t1, k1⟩, hd1⟩ : ∃ d : D, n1D (o, n, t, k) = d := ⟨_, rfl⟩
 obtain ⟨⟨o2, n2, t2, k2⟩, hd2⟩ : ∃ d : D, n2D (o, n, t, k) = d := ⟨_, rfl⟩
 obtain ⟨⟨o3, n3, t3, k3⟩, hd3⟩ : ∃ d : D, n3D (o, n, t, k) = d := ⟨_, rfl⟩
 obtain ⟨⟨o4, n4, t4, k4⟩, hd4⟩ : ∃ d : D, n4D (o, n, t, k) = d := ⟨_, rfl⟩
 obtain ⟨⟨o5, n5, t5, k5⟩, hd5⟩ : ∃ d : D, noD (o, n, t, k) = d := ⟨_, rfl⟩
 rw [hd1] at p1 p2
 rw [hd2] at p2 p3
 rw [hd3] at p3 p4
 rw [hd4] at p4 p5
 rw [hd5] at p5 ⊢
 simp only at p2 p3 p4 p5
 have P1 := Lib.hid p1
 have P2 := Lib.hid p2
 have P3 := Lib.hid p3
 have P4 := Lib.hid p4
 have P5 := Lib.hid p5
 have HE := Lib.hid (show ∀ x y, Ext w ((w.alloc x).alloc y) from fun x y => ((Ext.refl w).alloc x).alloc y)
 have HZ := Lib.hid (fun x => zbox_second w x 25)
 obtain ⟨L, hL⟩ : ∃ L, k.len = L := ⟨_, rfl⟩
 rw [hL] at P1 ⊢
 clear p1 p2 p3 p4 p5 q2 q3 q4 q5 hd1 hd2 hd3 hd4 hd5 hs hfs hc hL a1 a2 a3 b1 b2 c1 c2 e1 e2 h0 hv
 go_enter Try.func51, Try.ntmps51
 go_wp2_with fail
 refine (P1.out _ (HE.out _ _)).mono ?_
 rintro e1 w1 ⟨a1, cap1, f1, rfl, hc1, hs1, hfr1, hb1⟩
 simp only at hc1 hs1 ⊢
 have Z1 := Lib.hid ((HZ.out _).ext hb1)
 have E1 := Lib.hid (Ext.trans (HE.out _ _) hb1)
 have C1 := Lib.hid (P2.out w1 a1 cap1 f1 hs1 hfr1.lt hc1)
 clear hc1 hs1 hfr1 hb1
 go_wp2_with fail
 refine C1.out.mono ?_
 rintro e2 w2 ⟨a2, cap2, f2, rfl, hc2, hs2, hfr2, hb2⟩
 simp only at hc2 hs2 ⊢
 have Z2 := Lib.hid (Z1.out.ext hb2)
 have E2 := Lib.hid (E1.out.trans hb2)
 have C2 := Lib.hid (P3.out w2 a2 cap2 f2 hs2 hfr2.lt hc2)
 clear hc2 hs2 hfr2 hb2
 go_wp2_with fail
 refine C2.out.mono ?_
 rintro e3 w3 ⟨a3, cap3, f3, rfl, hc3, hs3, hfr3, hb3⟩
 simp only at hc3 hs3 ⊢
 have Z3 := Lib.hid (Z2.out.ext hb3)
 have E3 := Lib.hid (E2.out.trans hb3)
 have C3 := Lib.hid (P4.out w3 a3 cap3 f3 hs3 hfr3.lt hc3)
 clear hc3 hs3 hfr3 hb3
 go_wp2_with fail
 refine C3.out.mono ?_
 rintro e4 w4 ⟨a4, cap4, f4, rfl, hc4, hs4, hfr4, hb4⟩
 simp only at hc4 hs4 ⊢
 have Z4 := Lib.hid (Z3.out.ext hb4)
 have E4 := Lib.hid (E3.out.trans hb4)
 have C4 := Lib.hid (P5.out w4 a4 cap4 f4 hs4 hfr4.lt hc4)
 clear hc4 hs4 hfr4 hb4
 go_wp2_with fail
 refine C4.out.mono ?_
 rintro e5 w5 ⟨a5, cap5, f5, rfl, hc5, hs5, hfr5, hb5⟩
 simp only at hc5 hs5 ⊢
 obtain ⟨⟨z0, z1, z2, z3⟩, ⟨z4, z5, z6, z7⟩, z8⟩ := Z4.out.ext hb5
 have hz4 := Z4.out.2.2
 have H5 := Lib.hid (And.intro hc5 (And.intro hs5 (And.intro hfr5 hb5)))
 clear hc5 hs5 hfr5 hb5
 go_wp2_with fail
 refine bodyPost_ret (v := .agg #[.int .i64 o5, .int .i64 n5, .string t5, .slice a5 k5.len cap5]) (by simp [results, Try.results51, go_sem, z0, z1, z2, z3, z4, z5, z6, z7, z8]) rfl ?_
 obtain ⟨hc5, hs5, hfr5, hb5⟩ := H5.out
 refine end_new2 (lo := w.heap.size + 1) (hi := w.heap.size + 2) (B := w4.heap.size) (w3 := w5) hs5 hfr5 hc5 (by omega) (by omega) (by omega) (Ext.trans E4.out hb5) ?_
 repeat (first | exact Touch.refl _ _ _ | refine Touch.setCell ?_ (by simp) (by simp) _)
theorem specNormalDoc (w : World) (o n : Int) (t : ByteArray) (k : F) (a : Option Addr) (cap : Nat) (fs : List Nat) (hs : SubAt w a k fs) (hfs : ∀ c ∈ fs, c < w.heap.size ∧ ∀ o, w.frozen? ⟨c, o, none⟩ = false) (hc : k.len ≤ cap) (hle : t.size + k.size ≤ 1048576) :
  Calls Try.prog 20 #[.agg #[.int .i64 o, .int .i64 n, .string t, .slice a k.len cap]] w (DocRes w (noRes o n t k)) := by
 have hl := F.len_le_size k
 have hft : k.Fits := fits_of_size (m := 1048576) (by unfold maxLen; omega) k (by omega)
 have hval := fun (W : World) (e : Ext w W) => SpecC.docValid W o n t k a cap fs (e.sub hs (fun c hc => (hfs c hc).1)) (fun c hc => Nat.lt_of_lt_of_le (hfs c hc).1 e.size) hc (by omega) hft (by unfold maxLen; omega)
 have hin := fun (hv : validD o n t k = true) (W : World) (e : Ext w W) => l7Normal W o n t k hv a cap fs (e.sub hs (fun c hc => (hfs c hc).1)) (fun c hc => Nat.lt_of_lt_of_le (hfs c hc).1 e.size) hc
 have hfit : validD o n t k = true → (noD (o, n, t, k)).2.2.2.size ≤ 1048576 ∧ (noD (o, n, t, k)).2.2.1.size ≤ 1048576 := fun hv => nice_fit (no_5 (d := (o, n, t, k)) hv).1 (no_5 (d := (o, n, t, k)) hv).2
 have HE := Lib.hid (show ∀ x y, Ext w ((w.alloc x).alloc y) from fun x y => ((Ext.refl w).alloc x).alloc y)
 have HZ := Lib.hid (fun x => zbox_second w x 25)
 obtain ⟨L, hL⟩ : ∃ L, k.len = L := ⟨_, rfl⟩
 rw [hL] at hval ⊢
 cases hv : validD o n t k with
 | false =>
   rw [hv] at hval
   rw [show noRes o n t k = (false, zeroD) by unfold noRes chR; simp only [hv]; rfl]
   have HV := Lib.hid hval
   clear hval hin hfit hs hfs hc hl hft hv hL hle
   go_enter Try.func20, Try.ntmps20
   go_wp2_with fail
   refine (HV.out _ (HE.out _ _)).mono ?_
   rintro e1 w1 ⟨rfl, hb⟩
   have E1 := Lib.hid (Ext.trans (HE.out _ _) hb)
   obtain ⟨⟨z0, z1, z2, z3⟩, ⟨z4, z5, z6, z7⟩, z8⟩ := (HZ.out _).ext hb
   clear hb
   go_wp2_with fail
   refine bodyPost_ret (v := .tuple #[.agg #[.int .i64 0, .int .i64 0, .string ⟨#[]⟩, .slice none 0 0], .bool false]) (by simp [results, Try.results20, go_sem, z0, z1, z2, z3, z4, z5, z6, z7, z8]) rfl ?_
   refine end_no (lo := w.heap.size + 1) (hi := w.heap.size + 2) (by omega) E1.out ?_
   repeat (first | exact Touch.refl _ _ _ | refine Touch.setCell ?_ (by simp) (by simp) _)
 | true =>
   rw [hv] at hval
   have hin := hin hv
   have hfit := hfit hv
   obtain ⟨⟨o2, n2, t2, k2⟩, hφ⟩ : ∃ d : D, noD (o, n, t, k) = d := ⟨_, rfl⟩
   have hres : noRes o n t k = (if validD o2 n2 t2 k2 then (true, (o2, n2, t2, k2)) else (false, zeroD)) := by unfold noRes chR; rw [hφ]; simp only [hv]; rfl
   rw [hφ] at hfit
   have hdone := fun (W : World) (a2 : Option Addr) (cap2 : Nat) (f2 : List Nat) (h1 : SubAt W a2 k2 f2) (h2 : ∀ c ∈ f2, c < W.heap.size) (h3 : k2.len ≤ cap2) => specDone W o2 n2 t2 k2 a2 cap2 f2 h1 h2 h3 hfit.1 hfit.2
   obtain ⟨⟨ok, o9, n9, t9, k9⟩, hR⟩ : ∃ R, (if validD o2 n2 t2 k2 then (true, ((o2, n2, t2, k2) : D)) else (false, zeroD)) = R := ⟨_, rfl⟩
   rw [hres, hR]
   rw [hR] at hdone
   rw [hφ] at hin
   rw [hL] at hin
   have HV := Lib.hid hval
   have HI := Lib.hid hin
   have HD := Lib.hid hdone
   clear hval hin hfit hdone hs hfs hc hl hft hv hL hle hφ hres hR
   go_enter Try.func20, Try.ntmps20
   go_wp2_with fail
   refine (HV.out _ (HE.out _ _)).mono ?_
   rintro e1 w1 ⟨rfl, hb⟩
   have E1 := Lib.hid (Ext.trans (HE.out _ _) hb)
   have Z1 := Lib.hid ((HZ.out _).ext hb)
   have hs1 : w.heap.size + 2 ≤ w1.heap.size := by have := hb.size; simp at this; omega
   have C1 := fun o => hb.cell (p := ⟨w.heap.size, o, none⟩) (by simp; omega)
   clear hb
   go_wp2_with fail
   refine (HI.out _ E1.out).mono ?_
   rintro e2 w2 ⟨a2, cap2, f2, rfl, hc2, hs2, hfr2, hb2⟩
   simp only at hc2 hs2 ⊢
   have Z2 := Lib.hid (Z1.out.ext hb2)
   have H2 := Lib.hid (And.intro hc2 (And.intro hs2 (And.intro hfr2 hb2)))
   clear hc2 hs2 hfr2 hb2 C1
   go_wp2_with fail
   refine (HD.out _ a2 cap2 f2 H2.out.2.1 H2.out.2.2.1.lt H2.out.1).mono ?_
   rintro e3 w3 ⟨a3, cap3, f3, rfl, hc3, hs3, hfr3, hb3⟩
   simp only at hc3 hs3 ⊢
   obtain ⟨⟨z0, z1, z2, z3⟩, ⟨z4, z5, z6, z7⟩, z8⟩ := Z2.out.ext hb3
   have H3 := Lib.hid (And.intro hc3 (And.intro hs3 (And.intro hfr3 hb3)))
   clear hc3 hs3 hfr3 hb3
   go_wp2_with fail
   refine bodyPost_ret (v := .tuple #[.agg #[.int .i64 o9, .int .i64 n9, .string t9, .slice a3 k9.len cap3], .bool ok]) (by simp [results, Try.results20, go_sem, z0, z1, z2, z3, z4, z5, z6, z7, z8]) rfl ?_
   obtain ⟨hc3, hs3, hfr3, hb3⟩ := H3.out
   refine end_pair (d := (o9, n9, t9, k9)) (lo := w.heap.size + 1) (hi := w.heap.size + 2) hs3 hfr3 hc3 (by have := Ext.size H2.out.2.2.2; omega) (by omega) (by omega) (Below.trans (Ext.trans E1.out H2.out.2.2.2) (hb3.mono (by have := Ext.size E1.out; have := Ext.size H2.out.2.2.2; omega))) ?_
   repeat (first | exact Touch.refl _ _ _ | refine Touch.setCell ?_ (by simp) (by simp) _)
end Go.Proofs.Ytjcaiecapapceaa.Nf
