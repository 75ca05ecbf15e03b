import Derived.Test.YtjcaiecapapceaaChP
import Derived.Test.YtjcaiecapapceaaNfB
import Derived.Test.YtjcaiecapapceaaOpX
/-
 A document without its groups, as a plain function: it is valid when the document is, and has no group; nothing here speaks of the program.
-/
set_option linter.unusedVariables false
set_option linter.unusedSimpArgs false
set_option maxRecDepth 100000
set_option maxHeartbeats 3200000
namespace Go.Proofs.Ytjcaiecapapceaa.Nf
open P1
def woR : Rule := fun o n t k => if o = 8 then hd k else (o, n, t, k)
theorem wo_list : ∀ f : F, nice f = true → nice (chL woR f) = true ∧ (chL woR f).cnt + cntF (fun x => x == 8) f = f.cnt ∧ (chL woR f).deep ≤ f.deep ∧ cntF (fun x => x == 8) (chL woR f) = 0 := by
 intro f
 induction f with
 | nil => intro _; exact ⟨rfl, rfl, Nat.le_refl _, rfl⟩
 | cons o n t k r ihk ihr =>
   intro h
   have hD : niceD (o, n, t, k) = true := by simp only [nice, Bool.and_eq_true] at h; exact Bool.and_eq_true_iff.2 h.1
   have hr : nice r = true := by simp only [nice, Bool.and_eq_true] at h; exact h.2
   obtain ⟨a1, a2, a3, a4⟩ := ihk (nice_kids hD).2
   obtain ⟨b1, b2, b3, b4⟩ := ihr hr
   have hl := len_chL woR k
   have hK : niceD (o, n, t, chL woR k) = true := by
    unfold niceD at hD ⊢
    rw [Bool.and_eq_true] at hD ⊢
    exact ⟨by rw [hl]; exact hD.1, a1⟩
   rw [chL]
   obtain ⟨K, hKK⟩ : ∃ K, chL woR k = K := ⟨_, rfl⟩
   rw [hKK] at a1 a2 a3 a4 hK ⊢
   have e2 : cntF (fun x => x == 8) (.cons o n t k r) = (if o == 8 then 1 else 0) + cntF (fun x => x == 8) k + cntF (fun x => x == 8) r := rfl
   have e3 : (F.cons o n t k r).cnt = 1 + k.cnt + r.cnt := rfl
   have e4 : (F.cons o n t k r).deep = max (k.deep + 1) r.deep := rfl
   rw [e2, e3, e4]
   by_cases h8 : o = 8
   ·obtain ⟨⟨o1, n1, t1, k1⟩, ha⟩ := kids_one hK (Or.inr h8)
    have ew : woR o n t K = (o1, n1, t1, k1) := by unfold woR; rw [if_pos h8, ha]; rfl
    rw [ha] at a1 a2 a3 a4
    rw [ew]
    have c1 : cntF (fun x => x == 8) (consD (o1, n1, t1, k1) .nil) = (if o1 == 8 then 1 else 0) + cntF (fun x => x == 8) k1 + 0 := rfl
    have c2 : (consD ((o1, n1, t1, k1) : D) .nil).cnt = 1 + k1.cnt + 0 := rfl
    have c3 : (consD ((o1, n1, t1, k1) : D) .nil).deep = max (k1.deep + 1) 0 := rfl
    have d1 : (consD ((o1, n1, t1, k1) : D) (chL woR r)).cnt = 1 + k1.cnt + (chL woR r).cnt := rfl
    have d2 : (consD ((o1, n1, t1, k1) : D) (chL woR r)).deep = max (k1.deep + 1) (chL woR r).deep := rfl
    have d3 : cntF (fun x => x == 8) (consD (o1, n1, t1, k1) (chL woR r)) = (if o1 == 8 then 1 else 0) + cntF (fun x => x == 8) k1 + cntF (fun x => x == 8) (chL woR r) := rfl
    rw [c2] at a2
    rw [c3] at a3
    rw [c1] at a4
    rw [nice_consD, Bool.and_eq_true] at a1
    rw [d1, d2, d3, nice_consD, a1.1, b1, show (o == 8) = true by rw [beq_iff_eq]; exact h8]
    refine ⟨rfl, ?_, by omega, by omega⟩
    simp only [if_true]
    omega
   ·have ew : woR o n t K = (o, n, t, K) := by unfold woR; rw [if_neg h8]
    rw [ew]
    have d1 : (consD ((o, n, t, K) : D) (chL woR r)).cnt = 1 + K.cnt + (chL woR r).cnt := rfl
    have d2 : (consD ((o, n, t, K) : D) (chL woR r)).deep = max (K.deep + 1) (chL woR r).deep := rfl
    have d3 : cntF (fun x => x == 8) (consD (o, n, t, K) (chL woR r)) = (if o == 8 then 1 else 0) + cntF (fun x => x == 8) K + cntF (fun x => x == 8) (chL woR r) := rfl
    have q8 : (o == 8) = false := by rw [beq_eq_false_iff_ne]; exact h8
    rw [d1, d2, d3, nice_consD, hK, b1, q8]
    simp only [Bool.false_eq_true, if_false]
    exact ⟨rfl, by omega, by omega, by omega⟩
def woD (d : D) : D := chD woR d.1 d.2.1 d.2.2.1 d.2.2.2
theorem wo_one (d : D) : chL woR (consD d .nil) = consD (woD d) .nil := rfl
theorem wo_doc {d : D} (h : niceD d = true) : niceD (woD d) = true ∧ (woD d).2.2.2.cnt + cntF (fun x => x == 8) (consD d .nil) = d.2.2.2.cnt ∧ (woD d).2.2.2.deep ≤ d.2.2.2.deep ∧ cntF (fun x => x == 8) (consD (woD d) .nil) = 0 := by
 obtain ⟨a1, a2, a3, a4⟩ := wo_list (consD d .nil) (by rw [nice_consD, h]; rfl)
 rw [wo_one] at a1 a2 a3 a4
 rw [nice_consD, Bool.and_eq_true] at a1
 have e1 : (consD (woD d) .nil).cnt = 1 + (woD d).2.2.2.cnt + 0 := rfl
 have e2 : (consD d .nil).cnt = 1 + d.2.2.2.cnt + 0 := rfl
 have e3 : (consD (woD d) .nil).deep = max ((woD d).2.2.2.deep + 1) 0 := rfl
 have e4 : (consD d .nil).deep = max (d.2.2.2.deep + 1) 0 := rfl
 exact ⟨a1.1, by omega, by omega, a4⟩
theorem wo_valid {o n : Int} {t : ByteArray} {k : F} (h : validD o n t k = true) : validD (chD woR o n t k).1 (chD woR o n t k).2.1 (chD woR o n t k).2.2.1 (chD woR o n t k).2.2.2 = true := by
 obtain ⟨h1, h2, h3⟩ := valid_nice h
 obtain ⟨g1, g2, g3, _⟩ := wo_doc h1
 have hcn : (woD (o, n, t, k)).2.2.2.cnt ≤ k.cnt := by have : ((o, n, t, k) : D).2.2.2.cnt = k.cnt := rfl; omega
 have hdp : (woD (o, n, t, k)).2.2.2.deep ≤ k.deep := g3
 show validD (woD (o, n, t, k)).1 (woD (o, n, t, k)).2.1 (woD (o, n, t, k)).2.2.1 (woD (o, n, t, k)).2.2.2 = true
 obtain ⟨d, hd⟩ : ∃ d, woD (o, n, t, k) = d := ⟨_, rfl⟩
 rw [hd] at g1 hcn hdp ⊢
 obtain ⟨o', n', t', k'⟩ := d
 unfold niceD at g1
 rw [Bool.and_eq_true] at g1
 have q1 : nodeB o' n' t' k'.len = true := g1.1
 have q2 : nice k' = true := g1.2
 have q3 : k'.deep ≤ 39 := by have : k'.deep ≤ k.deep := hdp; omega
 have q4 : 1 + k'.cnt ≤ 80 := by have : k'.cnt ≤ k.cnt := hcn; omega
 show (okD 40 o' n' t' k' && decide (1 + k'.cnt ≤ 80)) = true
 unfold okD
 rw [ok_nice]
 simp [q1, q2, q3, q4]
end Go.Proofs.Ytjcaiecapapceaa.Nf
namespace Go.Proofs.Ytjcaiecapapceaa.Nf
open P1 ChP
end Go.Proofs.Ytjcaiecapapceaa.Nf
namespace Go.Proofs.Ytjcaiecapapceaa.Nf
open Go.RowKit P1 Copy CatD
end Go.Proofs.Ytjcaiecapapceaa.Nf
namespace Go.Proofs.Ytjcaiecapapceaa.Nf
open Go.RowKit P1 Copy CatD
def WoS (f : F) : Prop := ∀ (w : World) (o n : Int) (t : ByteArray) (k : F) (p r : F) (a : Option Addr) (cap : Nat) (fs : List Nat), f = p.app (.cons o n t k r) → nice f = true → f.cnt ≤ 10000 → SubAt w a k fs → (∀ c ∈ fs, c < w.heap.size) → k.len ≤ cap →
 Calls Try.prog 58 #[.agg #[.int .i64 o, .int .i64 n, .string t, .slice a k.len cap]] w (NewD w (chD woR o n t k))
def WoMid (w : World) (φ : Rule) (k : F) (j : Nat) (v : Value) (wr : World) : Prop := ∃ (p g : F) (fs : List Nat), k = p.app g ∧ p.len = j ∧ Grow wr 25 (w.heap.size + 3) v (mapL φ p) fs ∧ Below w.heap.size w wr
theorem wo_step (w : World) (o n : Int) (t : ByteArray) (k : F) (ih : WoS k) (hn : nice k = true) (hcnt : k.cnt ≤ 10000) (h8 : o ≠ 8) (a : Option Addr) (cap : Nat) (fs : List Nat) (hs : SubAt w a k fs) (hfs : ∀ c ∈ fs, c < w.heap.size) (hc : k.len ≤ cap) (hsz : k.size ≤ 4194304) :
  Calls Try.prog 58 #[.agg #[.int .i64 o, .int .i64 n, .string t, .slice a k.len cap]] w (NewD w (o, n, t, mapL (chD woR) k)) := by
 obtain ⟨i0, hi, hz0, hz1, hz2⟩ := info_parts To.info
 have hl4 := F.len_le_size k
 obtain ⟨φ, hφφ⟩ : ∃ φ, chD woR = φ := ⟨_, rfl⟩
 have ih := fun (w : World) (o n : Int) (t : ByteArray) (k1 : F) (p r : F) (a : Option Addr) (cap : Nat) (fs : List Nat) (h : k = p.app (.cons o n t k1 r)) => ih w o n t k1 p r a cap fs h hn hcnt
 rw [hφφ] at ih ⊢
 have q8 : (o == 8) = false := by rw [beq_eq_false_iff_ne]; exact h8
 obtain ⟨L, hL⟩ : ∃ L, k.len = L := ⟨_, rfl⟩
 rw [hL] at hc hl4 ⊢
 have hL4 : L ≤ 4194304 := by omega
 have HL := Lib.hid hL
 have HML := Lib.hid (show (mapL φ k).len = L by rw [len_mapL, hL])
 clear hL hl4
 have hsub : 0 < L → ∃ b off f', a = some ⟨b, off, none⟩ ∧ RowAt w k b off f' ∧ b < w.heap.size ∧ ∀ c ∈ f', c < w.heap.size := by
  intro h0
  rcases hs with ⟨rfl, rfl⟩ | ⟨b, off, f', rfl, hnil, rfl, hrow⟩
  ·have := HL.out; simp only [F.len] at this; omega
  ·exact ⟨b, off, f', rfl, hrow, hfs b (by simp), fun c hc => hfs c (by simp [hc])⟩
 have HSUB := Lib.hid hsub
 have IH := Lib.hid ih
 have HI := Lib.hid (And.intro hi (And.intro hz0 (And.intro hz1 hz2)))
 have hbox : ∀ (C2 : Array Value), C2.size = 4 → CopyS.CpBox w o n t (.slice a L cap) (.slice none 0 0) (((w.alloc (.cells #[.int .i64 o, .int .i64 n, .string t, .slice a L cap] 25)).alloc (.cells C2 25)).alloc (.cells #[.int .i64 o, .int .i64 n, .string t, .slice none 0 0] 25)) := by
  intro C2 h2
  have s2 : ((w.alloc (.cells #[.int .i64 o, .int .i64 n, .string t, .slice a L cap] 25)).alloc (.cells C2 25)).heap.size = w.heap.size + 2 := by simp
  refine ⟨?_, ?_, ?_, ?_, ?_, ?_, ?_, by simp⟩
  ·rw [World.cell?_alloc_lt _ _ _ (by simp; omega), World.cell?_alloc_lt _ _ _ (by simp), World.cell?_alloc_new]; rfl
  ·have := there_new (w.alloc (.cells #[.int .i64 o, .int .i64 n, .string t, .slice a L cap] 25)) C2 25 4 (by omega)
   refine there_below (by simpa using this) (B := w.heap.size + 2) (by omega) ((Below.refl _ _).alloc (by simp) _)
  ·rw [← s2, World.cell?_alloc_new]; rfl
  ·rw [← s2, World.cell?_alloc_new]; rfl
  ·rw [← s2, World.cell?_alloc_new]; rfl
  ·rw [← s2, World.cell?_alloc_new]; rfl
  ·rw [← s2, World.frozen?_alloc_new]
 have HBOX := Lib.hid hbox
 clear hn hcnt h8 hsub hs hfs ih hi hz0 hz1 hz2 hbox
 go_enter Try.func58, Try.ntmps58
 go_wp2_with fail
 go_loopw [4] (fun i wr => ∃ (j : Nat) (v : Value), j ≤ L ∧ i = .int .i64 j ∧ WoMid w φ k j v wr ∧ CopyS.CpBox w o n t (.slice a L cap) v wr) (fun i _ => L - (intOf i).toNat)
 case atStart => exact ⟨0, .slice none 0 0, by omega, rfl, ⟨.nil, k, [], rfl, rfl, Grow.start _ _ _ (by simp), (((Below.refl _ _).alloc (Nat.le_refl _) _).alloc (by simp) _).alloc (by simp; omega) _⟩, HBOX.out _ rfl⟩
 case round =>
  obtain ⟨j, v, hj, rfl, ⟨p, g, fs1, h3, h5, hG, hbw⟩, hbx⟩ := hrel
  have h7 : g.len = L - j := by have := HL.out; rw [h3, F.len_app, h5] at this; omega
  cases g with
  | nil =>
    have hjL : L ≤ j := by simp only [F.len] at h7; omega
    rw [F.app_nil] at h3
    subst h3
    obtain ⟨a', cap', rfl, hcap', hsub', hcm⟩ := hG.slice
    rw [HML.out] at hcap' hbx
    obtain ⟨x3, hth, x4, x5, x6, x7, x8, hsz2⟩ := hbx
    obtain ⟨⟨u0, u1, u2, u3, y0, y1, y2, y3⟩, z0, z1, z2, z3⟩ := there_at hth
    have H := Lib.hid (And.intro hG (And.intro hbw (And.intro hsub' (And.intro hcap' h5))))
    have hl1 : w.heap.size + 1 < wr.heap.size := by omega
    clear hG hbw hsub' hth h7 hcm hcap' h5
    go_wp2_with fail
    refine bodyPost_ret (v := .agg #[.int .i64 o, .int .i64 n, .string t, .slice a' L cap']) (by simp [results, Try.results58, go_sem, y0, y1, y2, y3, hl1]) rfl ?_
    obtain ⟨hG, hbw, hsub', hcap', h5⟩ := H.out
    show NewOut w o n t (mapL φ _) (.returned (.agg #[.int .i64 o, .int .i64 n, .string t, .slice a' L cap'])) _
    rw [← HML.out] at hcap' ⊢
    refine CopyS.end_new3 hG hsub' hcap' hbw ?_
    repeat (first | exact Touch.refl _ _ _ | refine Touch.setCell ?_ (by simp) (by simp) _)
  | cons o1 n1 t1 k1 r1 =>
    have hjL : j < L := by simp only [F.len] at h7; omega
    obtain ⟨b, off, f', rfl, hrow, hbB, hfB⟩ := HSUB.out (by omega)
    rw [h3] at hrow
    obtain ⟨a1, cap1, f1, c0, c1, c2, c3, hc1', hsub1, hin⟩ := row_at hrow
    rw [h5] at c0 c1 c2 c3
    rw [← hbw.cell (p := ⟨_, _, _⟩) hbB] at c0 c1 c2 c3
    have hd := fun (w1 : World) (hw1 : Below wr.heap.size wr w1) => IH.out w1 o1 n1 t1 k1 p r1 a1 cap1 f1 h3 (hsub1.below (fun c hc => hfB c (hin c hc)) (hbw.trans (hw1.mono hbw.size))) (fun c hc => Nat.lt_of_lt_of_le (hfB c (hin c hc)) (Nat.le_trans hbw.size hw1.size)) hc1'
    obtain ⟨⟨o2, n2, t2, k2⟩, hφ⟩ : ∃ d : D, φ o1 n1 t1 k1 = d := ⟨_, rfl⟩
    rw [hφ] at hd
    have HF := Lib.hid hφ
    have HD := Lib.hid hd
    have H := Lib.hid (And.intro h3 (And.intro h5 (And.intro hG (And.intro hbw hbx))))
    obtain ⟨x3, _, _, _, _, x7, x8, hsz3⟩ := hbx
    have i0' : (0 : Int) ≤ (j : Int) := Int.natCast_nonneg _
    have i1 : (j : Int) < (L : Int) := by omega
    clear hd h3 h5 h7 hbw hrow hG hφ
    go_wp2_with fail
    go_region_law (first
     | (refine CopyS.step_append_doc rfl (.tmp 28) (.tmp 35) 23 rfl Try.underlying23 HI.out.1 HI.out.2.1 HI.out.2.2.1 HI.out.2.2.2 rfl rfl (HST.out _).1 (d := w1.heap.size) (c := 1) rfl (cell_new w1 _ _ 0 _ rfl) (cell_new w1 _ _ 1 _ rfl) (cell_new w1 _ _ 2 _ rfl) (cell_new w1 _ _ 3 _ rfl) H2.out.2.2.2 (H2.out.1.below H2.out.2.1.lt ((Below.refl _ _).alloc (Nat.le_refl _) _)) (H2.out.2.1.below H2.out.2.1.lt ((Below.refl _ _).alloc (Nat.le_refl _) _)) (HST.out (.cells #[] 0)).2.1 (HST.out (.cells #[] 0)).2.2.1 (HST.out (.cells #[] 0)).2.2.2 (by rw [len_mapL]; have := H.out.2.1; omega) ?_; intro v' w2 fs' hG' hb'; obtain ⟨av, cpv, rfl, _, _, _⟩ := hG'.slice; have HE := Lib.hid (And.intro hG' (CopyS.mid_box H.out.2.2.2.2 H2.out.2.2.1 hb')); obtain ⟨_, _, _, _, _, q7, q8, l8⟩ := HE.out.2.2; clear hG' hb')
     | (go_simp; go_at_call 58; refine (HD.out _ (by first | exact Below.refl _ _ | exact (Below.refl _ _).drew)).mono ?_; rintro e1 w1 ⟨a2, cap2, f2, rfl, hc2, hs2, hfr2, hb2⟩; have H2 := Lib.hid (And.intro hs2 (And.intro hfr2 (And.intro hb2 hc2))); have HST := Lib.hid (fun ob => CopyS.mid3 (ob := ob) H.out.2.2.1 hb2); obtain ⟨p7, p8, p9⟩ := CopyS.mid_cell H.out.2.2.2.2 hb2; clear hs2 hfr2 hb2 hc2))
    all_goals
     go_wp2_with fail
     go_roundw
     case rel =>
      obtain ⟨h3, h5, hG, hbw, hbx⟩ := H.out
      obtain ⟨hG', hch, hbx'⟩ := HE.out
      refine ⟨j + 1, _, by omega, by go_num, ⟨p.app (.cons o1 n1 t1 k1 .nil), r1, fs', by rw [h3, F.app_assoc]; rfl, by rw [F.len_app, h5]; rfl, (by rw [mapL_app, show mapL φ (.cons o1 n1 t1 k1 .nil) = .cons o2 n2 t2 k2 .nil by rw [mapL, HF.out]; rfl]; exact CopyS.Grow.setOld hG' (by simp) _), ?_⟩, hbx'.put⟩
      exact (hbw.trans (hch.mono (by omega))).setCell (by simp; omega) _
     case measure => simp [intOf]; omega
theorem wo_group (w : World) (n : Int) (t : ByteArray) (d1 : D) (d : D) (hd : ∀ (W : World) (a : Option Addr) (cap : Nat) (fs : List Nat), SubAt W a d1.2.2.2 fs → (∀ c ∈ fs, c < W.heap.size) → d1.2.2.2.len ≤ cap → Calls Try.prog 58 #[.agg #[.int .i64 d1.1, .int .i64 d1.2.1, .string d1.2.2.1, .slice a d1.2.2.2.len cap]] W (NewD W d))
  (a : Option Addr) (cap : Nat) (fs : List Nat) (hs : SubAt w a (consD d1 .nil) fs) (hfs : ∀ c ∈ fs, c < w.heap.size) (hc : 1 ≤ cap) :
  Calls Try.prog 58 #[.agg #[.int .i64 8, .int .i64 n, .string t, .slice a 1 cap]] w (NewD w d) := by
 obtain ⟨o1, n1, t1, k1⟩ := d1
 obtain ⟨o2, n2, t2, k2⟩ := d
 simp only [consD] at hs hd
 have hfs' : ∀ c ∈ fs, c < w.heap.size := hfs
 rcases hs with ⟨h, _⟩ | ⟨b, off, f', rfl, _, rfl, hrow⟩
 ·cases h
 have hb : b < w.heap.size := hfs b (by simp)
 obtain ⟨a1, c1, f1, x0, x1, x2, x3, hc1, hsub1, hin⟩ := row_at (p := .nil) hrow
 simp only [F.len, Nat.zero_mul, Nat.add_zero] at x0 x1 x2 x3
 have hd := fun (W : World) (e : Ext w W) => hd W a1 c1 f1 (e.sub hsub1 (fun c hc => hfs c (by simp [hin c hc]))) (fun c hc => Nat.lt_of_lt_of_le (hfs c (by simp [hin c hc])) e.size) hc1
 obtain ⟨L1, hL1⟩ : ∃ L, k1.len = L := ⟨_, rfl⟩
 rw [hL1] at hd x3
 have HD := Lib.hid hd
 have HE := Lib.hid (show ∀ x y, Ext w ((w.alloc x).alloc y) from fun x y => ((Ext.refl w).alloc x).alloc y)
 have HZ := Lib.hid (fun x => zbox_second w x 25)
 clear hd hfs hfs' hrow hsub1 hin hc1 hL1
 go_enter Try.func58, Try.ntmps58
 go_wp2_with fail
 refine (HD.out _ (HE.out _ _)).mono ?_
 rintro e1 w1 ⟨a2, cap2, f2, rfl, hc2, hs2, hfr2, hb2⟩
 simp only at hc2 hs2 ⊢
 obtain ⟨⟨z0, z1, z2, z3⟩, ⟨z4, z5, z6, z7⟩, z8⟩ := (HZ.out _).ext hb2
 have H2 := Lib.hid (And.intro hc2 (And.intro hs2 (And.intro hfr2 hb2)))
 clear hc2 hs2 hfr2 hb2
 go_wp2_with fail
 refine bodyPost_ret (v := .agg #[.int .i64 o2, .int .i64 n2, .string t2, .slice a2 k2.len cap2]) (by simp [results, Try.results58, go_sem, z0, z1, z2, z3, z4, z5, z6, z7, z8]) rfl ?_
 obtain ⟨hc2, hs2, hfr2, hb2⟩ := H2.out
 refine end_new2 (lo := w.heap.size + 1) (hi := w.heap.size + 2) hs2 (hfr2.mono (lo' := w.heap.size + 2) (by simp)) hc2 (Nat.le_refl _) (by omega) (by omega) (Below.trans (HE.out _ _) (hb2.mono (by simp; omega))) ?_
 repeat (first | exact Touch.refl _ _ _ | refine Touch.setCell ?_ (by simp) (by simp) _)
theorem woS (m : Nat) : ∀ f : F, f.deep ≤ m → WoS f := by
 induction m with
 | zero =>
   intro f hf w o n t k p r a cap fs he
   rw [he, F.deep_app] at hf; simp only [F.deep] at hf; omega
 | succ m ih =>
   intro f hf w o n t k p r a cap fs he hn hcnt hs hfs hc
   have hk : k.deep ≤ m := by rw [he, F.deep_app] at hf; simp only [F.deep] at hf; omega
   have hn' : niceD (o, n, t, k) = true := by
    rw [he, nice_app, Bool.and_eq_true] at hn
    exact (Bool.and_eq_true_iff.1 hn.2).1
   rw [he, F.cnt_app] at hcnt
   simp only [F.cnt] at hcnt
   have hnk := (nice_kids hn').2
   by_cases h8 : o = 8
   ·obtain ⟨d1, rfl⟩ := kids_one hn' (Or.inr h8)
    subst h8
    exact wo_group w n t d1 _ (fun W a cap fs h1 h2 h3 => ih _ hk W d1.1 d1.2.1 d1.2.2.1 d1.2.2.2 .nil .nil a cap fs rfl hnk (by omega) h1 h2 h3) a cap fs hs hfs hc
   ·have e : chD woR o n t k = (o, n, t, mapL (chD woR) k) := by
     show woR o n t (chL woR k) = _
     unfold woR
     rw [if_neg h8, chL_map]
    rw [e]
    exact wo_step w o n t k (ih k hk) hnk (by omega) h8 a cap fs hs hfs hc (by have := nice_size k hnk; omega)
theorem l8Without (w : World) (o n : Int) (t : ByteArray) (k : F) (hn : niceD (o, n, t, k) = true) (hcnt : k.cnt ≤ 9999) (a : Option Addr) (cap : Nat) (fs : List Nat) (hs : SubAt w a k fs) (hfs : ∀ c ∈ fs, c < w.heap.size) (hc : k.len ≤ cap) :
  Calls Try.prog 58 #[.agg #[.int .i64 o, .int .i64 n, .string t, .slice a k.len cap]] w (NewD w (chD woR o n t k)) :=
 woS _ (.cons o n t k .nil) (Nat.le_refl _) w o n t k .nil .nil a cap fs rfl (by rw [show nice (.cons o n t k .nil) = (niceD (o, n, t, k) && nice .nil) from rfl, hn]; rfl) (by show 1 + k.cnt + 0 ≤ 10000; omega) hs hfs hc
end Go.Proofs.Ytjcaiecapapceaa.Nf
namespace Go.Proofs.Ytjcaiecapapceaa.Nf
open P1 ChP CatD CntC OpenR
end Go.Proofs.Ytjcaiecapapceaa.Nf
