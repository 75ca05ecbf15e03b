import Derived.Test.YtafhefmjnjibdaaNfR3
/-
  What impl.changeRows comes to, whatever change of rows it is given.
-/
set_option linter.unusedVariables false
set_option linter.unusedSimpArgs false
namespace Go.Proofs.Ytafhefmjnjibdaa.Nf
open Go.RowKit P1 Copy

/-- a row in memory of the call's own -/
def RowOut (lo : Nat) (w : World) (f : F) (e : Ending) (w' : World) : Prop := ∃ (a : Option Addr) (cap : Nat) (fs : List Nat), e = .returned (.slice a f.len cap) ∧ f.len ≤ cap ∧ SubAt w' a f fs ∧ Fresh lo w' fs ∧ Ext w w'

/-- a function value that changes rows -/
structure ListFn (g : Nat) (lb : Array Value) (Φ : F → F) : Prop where
  enter : ∀ (args : Array Value) (W : World), (callFunc g args).run Try.prog W = .ok (.enter g args) W
  call : ∀ (lo : Nat) (W : World) (o n : Int) (t : ByteArray) (k : F) (a : Option Addr) (cap : Nat) (fs : List Nat), niceD (o, n, t, k) = true → k.cnt ≤ 10000 → SubAt W a (psD Φ o n t k) fs → Fresh lo W fs → (psD Φ o n t k).len ≤ cap → lo ≤ W.heap.size →
    Calls Try.prog g (#[.slice a (psD Φ o n t k).len cap] ++ lb) W (RowOut lo W (Φ (psD Φ o n t k)))
  len : ∀ (o n : Int) (t : ByteArray) (k : F), niceD (o, n, t, k) = true → k.cnt ≤ 10000 → (Φ (psD Φ o n t k)).len ≤ 100000

def CrS (g : Nat) (lb : Array Value) (Φ : F → F) (f : F) : Prop := ∀ (w : World) (o n : Int) (t : ByteArray) (k : F) (p r : F) (a : Option Addr) (cap : Nat) (fs : List Nat), f = p.app (.cons o n t k r) → nice f = true → f.cnt ≤ 10000 → SubAt w a k fs → (∀ c ∈ fs, c < w.heap.size) → k.len ≤ cap →
  Calls Try.prog 95 #[.agg #[.int .i64 o, .int .i64 n, .string t, .slice a k.len cap], .func (.func g) #[] lb] w (NewD w (rowD Φ o n t k))

set_option maxRecDepth 100000 in
set_option maxHeartbeats 1600000 in
theorem cr_kid {g : Nat} {lb : Array Value} {Φ : F → F} {k : F} (ih : CrS g lb Φ k) (hn : nice k = true) (hcnt : k.cnt ≤ 10000) {w : World} {b : Nat} (hb : b < w.heap.size) (hc : w.cell? ⟨b, 0, none⟩ = some (.func (.func g) #[] lb)) :
    KidFn 135 #[.pointer (some ⟨b, 0, none⟩)] (rowD Φ) k w := by
  refine ⟨enters_of Try.func135 (by kernel_rfl) rfl, fun W p o n t q r a cap fs hk he hs hfs hc' => ?_⟩
  show Calls Try.prog 135 #[.agg #[.int .i64 o, .int .i64 n, .string t, .slice a q.len cap], .pointer (some ⟨b, 0, none⟩)] W _
  have c0 := (he.cell (o := 0) hb).trans hc
  have hbW : b < W.heap.size := Nat.lt_of_lt_of_le hb he.size
  have hd := fun (W1 : World) (h1 : Ext W W1) => ih W1 o n t q p r a cap fs hk hn hcnt (h1.sub hs hfs) (fun c hc => Nat.lt_of_lt_of_le (hfs c hc) h1.size) hc'
  obtain ⟨⟨o2, n2, t2, k2⟩, hφ⟩ : ∃ d : D, rowD Φ o n t q = d := ⟨_, rfl⟩
  rw [hφ] at hd ⊢
  have HD := Lib.hid hd
  have HE := Lib.hid (show ∀ x y, Ext W ((W.alloc x).alloc y) from fun x y => ((Ext.refl W).alloc x).alloc y)
  obtain ⟨L, hL⟩ : ∃ L, q.len = L := ⟨_, rfl⟩
  rw [hL] at HD ⊢
  clear hd he hs hfs hc' hk ih hn hcnt hb hc hφ
  go_enter Try.func135, Try.ntmps135
  go_wp2_with fail
  refine (HD.out _ (HE.out _ _)).mono ?_
  rintro e1 w1 ⟨a2, cap2, f2, rfl, hc2, hs2, hfr2, hb2⟩
  simp only at hc2 hs2 ⊢
  have hcell : ∀ o, w1.cell? ⟨W.heap.size + 1, o, none⟩ = _ := fun o => hb2.cell (p := ⟨W.heap.size + 1, o, none⟩) (by simp)
  have hfz : ∀ o, w1.frozen? ⟨W.heap.size + 1, o, none⟩ = _ := fun o => hb2.frozen (p := ⟨W.heap.size + 1, o, none⟩) (by simp)
  have hz1 : W.heap.size + 2 ≤ w1.heap.size := by have := hb2.size; simp at this; omega
  have H2 := Lib.hid (And.intro hc2 (And.intro hs2 (And.intro hfr2 hb2)))
  clear hc2 hs2 hfr2 hb2
  go_wp2_with fail
  refine bodyPost_ret (v := .agg #[.int .i64 o2, .int .i64 n2, .string t2, .slice a2 k2.len cap2]) (by simp [results, Try.results135, go_sem, hcell, hfz, show W.heap.size + 1 < w1.heap.size by omega]) rfl ?_
  obtain ⟨hc2, hs2, hfr2, hb2⟩ := H2.out
  refine end_new2 (lo := W.heap.size + 1) (hi := W.heap.size + 2) hs2 (hfr2.mono (lo' := W.heap.size + 2) (by simp)) hc2 (Nat.le_refl _) (by omega) (by omega) (Below.trans (HE.out _ _) (hb2.mono (by simp; omega))) ?_
  repeat (first | exact Touch.refl _ _ _ | refine Touch.setCell ?_ (by simp) (by simp) _)

theorem parts_deep : ∀ f : F, (parts0 f).deep ≤ f.deep := by
  intro f
  induction f with
  | nil => exact Nat.le_refl _
  | cons o n t k r ihk ihr =>
    rw [parts0_cons, F.deep_app]
    have h : (ptD o n t k).deep ≤ k.deep + 1 := by
      unfold ptD
      split
      · omega
      · simp only [F.deep]; omega
    simp only [F.deep]
    omega
/-- what a document's part is -/
theorem part_of {o n : Int} {t : ByteArray} {k p k1 r : F} {o1 n1 : Int} {t1 : ByteArray} (h : ptD o n t k = p.app (.cons o1 n1 t1 k1 r)) (hn : niceD (o, n, t, k) = true) (hc : k.cnt ≤ 10000) : nice k1 = true ∧ k1.cnt ≤ 10000 ∧ k1.deep ≤ k.deep := by
  have hN : nice (.cons o n t k .nil) = true := by rw [show nice (.cons o n t k .nil) = (niceD (o, n, t, k) && nice .nil) from rfl, hn]; rfl
  have e : parts0 (.cons o n t k .nil) = ptD o n t k := by rw [parts0_cons, show parts0 .nil = .nil from rfl, F.app_nil]
  have h1 := parts_nice _ hN
  have h2 := parts_cnt _ hN
  have h3 := parts_deep (.cons o n t k .nil)
  have h4 := parts_len _ hN
  rw [e, h] at h1 h2 h3 h4
  rw [nice_app, Bool.and_eq_true] at h1
  have hn1 := (Bool.and_eq_true_iff.1 h1.2).1
  rw [F.cnt_app] at h2
  rw [F.deep_app] at h3
  simp only [F.cnt, F.deep, F.len] at h2 h3 h4
  exact ⟨(Bool.and_eq_true_iff.1 hn1).2, by omega, by omega⟩

/-- a part in its row -/
theorem part_at {w0 w : World} {lo g cap : Nat} {p k1 r : F} {o1 n1 : Int} {t1 : ByteArray} {gs : List Nat} (h : PtAt w0 lo (.slice (some ⟨g, 0, none⟩) (p.app (.cons o1 n1 t1 k1 r)).len cap) (p.app (.cons o1 n1 t1 k1 r)) gs w) :
    ∃ (a1 : Option Addr) (c1 : Nat) (f1 : List Nat), w.cell? ⟨g, p.len * 4, none⟩ = some (.int .i64 o1) ∧ w.cell? ⟨g, p.len * 4 + 1, none⟩ = some (.int .i64 n1) ∧ w.cell? ⟨g, p.len * 4 + 2, none⟩ = some (.string t1) ∧ w.cell? ⟨g, p.len * 4 + 3, none⟩ = some (.slice a1 k1.len c1) ∧ k1.len ≤ c1 ∧ SubAt w0 a1 k1 f1 ∧ ∀ c ∈ f1, c ∈ gs := by
  obtain ⟨xs, hown, hsh⟩ := h
  have hspl : ∀ (p : F) (xs : List Value) (gs : List Nat), Sh w0 (p.app (.cons o1 n1 t1 k1 r)) xs gs → ∃ (a1 : Option Addr) (c1 : Nat) (f1 : List Nat) (ys zs : List Value), xs = ys ++ (.int .i64 o1 :: .int .i64 n1 :: .string t1 :: .slice a1 k1.len c1 :: zs) ∧ ys.length = p.len * 4 ∧ k1.len ≤ c1 ∧ SubAt w0 a1 k1 f1 ∧ ∀ c ∈ f1, c ∈ gs := by
    intro p
    induction p with
    | nil =>
      rintro xs gs ⟨a, c, f1, f2, ys, rfl, hc, hs, _, rfl⟩
      exact ⟨a, c, f1, [], ys, rfl, rfl, hc, hs, fun c hc => by simp [hc]⟩
    | cons o n t k q _ ih =>
      rintro xs gs ⟨a, c, f1, f2, ys, rfl, hc, hs, hr, rfl⟩
      obtain ⟨a1, c1, g1, y1, z1, rfl, hl, hc1, hs1, hi⟩ := ih ys f2 hr
      exact ⟨a1, c1, g1, .int .i64 o :: .int .i64 n :: .string t :: .slice a k.len c :: y1, z1, rfl, by simp only [List.length_cons, hl, F.len]; omega, hc1, hs1, fun c hc => by simp [hi c hc]⟩
  obtain ⟨a1, c1, f1, ys, zs, rfl, hl, hc1, hs1, hi⟩ := hspl p xs gs hsh
  have hcell : ∀ i, i < 4 → w.cell? ⟨g, p.len * 4 + i, none⟩ = (ys ++ (Value.int .i64 o1 :: .int .i64 n1 :: .string t1 :: .slice a1 k1.len c1 :: zs))[p.len * 4 + i]? := fun i hi => by
    have hlt : p.len * 4 + i < (p.app (.cons o1 n1 t1 k1 r)).len * 4 := by rw [F.len_app]; simp only [F.len]; omega
    have := hown.cellAt (p.len * 4 + i) hlt
    exact this
  have hget : ∀ i, (ys ++ (Value.int .i64 o1 :: .int .i64 n1 :: .string t1 :: .slice a1 k1.len c1 :: zs))[p.len * 4 + i]? = (Value.int .i64 o1 :: .int .i64 n1 :: .string t1 :: .slice a1 k1.len c1 :: zs)[i]? := fun i => by
    rw [← hl, List.getElem?_append_right (by omega), Nat.add_sub_cancel_left]
  exact ⟨a1, c1, f1, (hcell 0 (by omega)).trans (hget 0), (hcell 1 (by omega)).trans (hget 1), (hcell 2 (by omega)).trans (hget 2), (hcell 3 (by omega)).trans (hget 3), hc1, hs1, hi⟩

/-- what stands at the head of a round of changeRows; B: the world behind partsOf -/
def CrMid (w4 : World) (Φ : F → F) (P : F) (j : Nat) (v : Value) (wr : World) : Prop := ∃ (p g : F) (fs : List Nat), P = p.app g ∧ p.len = j ∧ Grow wr 25 w4.heap.size v (mapL (kidR Φ) p) fs ∧ Ext w4 wr

set_option maxRecDepth 100000 in
set_option maxHeartbeats 3200000 in
theorem cr_step {g : Nat} {lb : Array Value} {Φ : F → F} (R : ListFn g lb Φ) (w : World) (o n : Int) (t : ByteArray) (k : F) (ih : ∀ f : F, f.deep ≤ k.deep → CrS g lb Φ f) (hn : niceD (o, n, t, k) = true) (hcnt : k.cnt ≤ 10000) (a : Option Addr) (cap : Nat) (fs : List Nat) (hs : SubAt w a k fs) (hfs : ∀ c ∈ fs, c < w.heap.size) (hc : k.len ≤ cap) :
    Calls Try.prog 95 #[.agg #[.int .i64 o, .int .i64 n, .string t, .slice a k.len cap], .func (.func g) #[] lb] w (NewD w (rowD Φ o n t k)) := by
  obtain ⟨i0, hi, hz0, hz1, hz2⟩ := info_parts To.info
  have HI := Lib.hid (And.intro hi (And.intro hz0 (And.intro hz1 hz2)))
  obtain ⟨P, hP⟩ : ∃ P, ptD o n t k = P := ⟨_, rfl⟩
  have hps : psD Φ o n t k = mapL (kidR Φ) P := by rw [ps_parts, hP]
  have hPl : P.len ≤ 20000 := by
    have hN : nice (.cons o n t k .nil) = true := by rw [show nice (.cons o n t k .nil) = (niceD (o, n, t, k) && nice .nil) from rfl, hn]; rfl
    have h2 := parts_cnt _ hN
    rw [parts0_cons, show parts0 .nil = .nil from rfl, F.app_nil, hP] at h2
    simp only [F.cnt, F.len] at h2
    omega
  have hkid := fun (W : World) (hW : Ext w W) (b : Nat) (hb : b < W.heap.size) (c : W.cell? ⟨b, 0, none⟩ = some (.func (.func g) #[] lb)) (p : F) (o1 n1 : Int) (t1 : ByteArray) (k1 r : F) (a1 : Option Addr) (c1 : Nat) (f1 : List Nat) (h : P = p.app (.cons o1 n1 t1 k1 r)) (hs1 : SubAt w a1 k1 f1) (hf1 : ∀ c ∈ f1, c ∈ fs) (hc1 : k1.len ≤ c1) =>
    (show Calls Try.prog 129 #[.agg #[.int .i64 o1, .int .i64 n1, .string t1, .slice a1 k1.len c1], .func (.func 135) #[] #[.pointer (some ⟨b, 0, none⟩)]] W (NewOut W o1 n1 t1 (mapL (rowD Φ) k1)) from by
      obtain ⟨q1, q2, q3⟩ := part_of (hP.trans h) hn hcnt
      have hl := F.len_le_cnt k1
      exact changeKids W o1 n1 t1 k1 (rowD Φ) _ _ (cr_kid (ih k1 q3) q1 q2 hb c) a1 c1 f1 (hW.sub hs1 (fun c hc => hfs c (hf1 c hc))) (fun c hc => Nat.lt_of_lt_of_le (hfs c (hf1 c hc)) hW.size) hc1 (by omega))
  have hpo := fun (W : World) (hW : Ext w W) => partsOf w W o n t k hn hcnt hW a cap fs hs hfs hc
  rw [hP] at hpo
  have he := R.enter
  have hlist := fun (lo : Nat) (W : World) (a : Option Addr) (cap : Nat) (fs : List Nat) => R.call lo W o n t k a cap fs hn hcnt
  have hlen := R.len o n t k hn hcnt
  have HLL := Lib.hid hlen
  rw [hps] at hlist
  have HML := Lib.hid (show (mapL (kidR Φ) P).len = P.len from len_mapL _ _)
  have HK := Lib.hid hkid
  have HP := Lib.hid hpo
  have HL := Lib.hid hlist
  have HPS := Lib.hid (And.intro hps hPl)
  have HE := Lib.hid (show ∀ x y z, Ext w (((w.alloc x).alloc y).alloc z) from fun x y z => (((Ext.refl w).alloc x).alloc y).alloc z)
  obtain ⟨L, hL⟩ : ∃ L, k.len = L := ⟨_, rfl⟩
  rw [hL] at HP ⊢
  clear hkid hpo hlist hlen hps hPl hL hP hn hcnt hs hfs hc ih R hi hz0 hz1 hz2
  go_enter Try.func95, Try.ntmps95
  go_wp2_with fail
  have HZ := Lib.hid (zbox_third w (.cells #[.int .i64 o, .int .i64 n, .string t, .slice a L cap] 25) (.cells #[.func (.func g) #[] lb] 99) 25)
  have hfc := (show (((w.alloc (.cells #[.int .i64 o, .int .i64 n, .string t, .slice a L cap] 25)).alloc (.cells #[.func (.func g) #[] lb] 99)).alloc (.cells #[.int .i64 0, .int .i64 0, .string ⟨#[]⟩, .slice none 0 0] 25)).cell? ⟨w.heap.size + 1, 0, none⟩ = some (.func (.func g) #[] lb) by
    rw [World.cell?_alloc_lt _ _ _ (by simp), show w.heap.size + 1 = (w.alloc (.cells #[.int .i64 o, .int .i64 n, .string t, .slice a L cap] 25)).heap.size by simp, World.cell?_alloc_new]; rfl)
  refine (HP.out _ (HE.out _ _ _)).mono ?_
  rintro e1 w4 ⟨g0, cap0, gs, rfl, hg1, hg2, hA, hsl, hb4⟩
  have hz4 : w.heap.size + 3 ≤ w4.heap.size := by have := hb4.size; simp at this; omega
  have hE4 : Ext w w4 := (HE.out _ _ _).trans hb4
  have hfc4 := (hb4.cell (p := ⟨w.heap.size + 1, 0, none⟩) (by simp)).trans hfc
  have HZ4 := Lib.hid (zbox_below HZ.out (hb4.mono (by simp)) (Nat.lt_succ_self _))
  obtain ⟨N, hN⟩ : ∃ N, P.len = N := ⟨_, rfl⟩
  have HN := Lib.hid hN
  have H4 := Lib.hid (And.intro hA (And.intro hsl (And.intro hE4 (And.intro hfc4 hz4))))
  rw [hN]
  have hNl : N ≤ 20000 := by have := HPS.out.2; omega
  clear hA hsl hE4 hfc4 hb4 hfc hg1 hN
  go_wp2_with fail
  go_loopw [11, 5] (fun i v wr => ∃ j : Nat, j ≤ N ∧ i = .int .i64 j ∧ CrMid w4 Φ P j v wr) (fun i _ _ => N - (intOf i).toNat)
  case atStart => exact ⟨0, by omega, rfl, ⟨.nil, P, [], rfl, rfl, Grow.start _ _ _ (Nat.le_refl _), Ext.refl _⟩⟩
  case round =>
    obtain ⟨j, hj, rfl, ⟨p, q, fs1, h3, h5, hG, hbw⟩⟩ := hrel
    have h7 : q.len = N - j := by have := HN.out; rw [h3, F.len_app, h5] at this; omega
    obtain ⟨hA, hsl, hE4, hfc4, hz4⟩ := H4.out
    have hfcr := (hbw.cell (o := 0) (by omega)).trans hfc4
    have hzr := hbw.size
    cases q with
    | nil =>
      have hjL : N ≤ j := by simp only [F.len] at h7; omega
      rw [F.app_nil] at h3
      obtain rfl : p = P := h3.symm
      obtain ⟨a', cap', rfl, hcap', hsub', hcm⟩ := hG.slice
      have hl5 := HL.out w4.heap.size wr a' cap' fs1 hsub' hG.fresh hcap' hzr
      have hcl : (Φ (mapL (kidR Φ) p)).len ≤ 100000 := by have := HLL.out; rw [HPS.out.1] at this; exact this
      have hca := fun (W : World) (a : Option Addr) (cap : Nat) (fs : List Nat) => catAllOf W w4.heap.size (Φ (mapL (kidR Φ) p)) a cap fs hcl
      obtain ⟨⟨o6, n6, t6, k6⟩, hd6⟩ : ∃ d : D, catAll (Φ (mapL (kidR Φ) p)) = d := ⟨_, rfl⟩
      rw [hd6] at hca
      have hrow : rowD Φ o n t k = (o6, n6, t6, k6) := by show catAll (Φ (psD Φ o n t k)) = _; rw [HPS.out.1]; exact hd6
      have HROW := Lib.hid hrow
      obtain ⟨M, hM⟩ : ∃ M, (mapL (kidR Φ) p).len = M := ⟨_, rfl⟩
      rw [hM] at hl5 ⊢
      have HC := Lib.hid hca
      have HL5 := Lib.hid hl5
      have HB := Lib.hid hbw
      have HE4 := Lib.hid hE4
      clear hca hl5 hbw hE4 hG hA hsl hsub' hcap' hcm hd6 hrow hM hcl h3 h5 h7
      go_wp2_with (first
        | (go_at_fn g; refine HL5.out.mono ?_; rintro e5 w5 ⟨a5, cap5, f5, rfl, hc5, hs5, hfr5, hb5⟩; have HC5 := Lib.hid (HC.out w5 a5 cap5 f5 (Nat.le_trans hzr hb5.size) hs5 hfr5 hc5); have HB5 := Lib.hid (HB.out.trans hb5); obtain ⟨M5, hM5⟩ : ∃ M, (Φ (mapL (kidR Φ) p)).len = M := ⟨_, rfl⟩; rw [hM5] at HC5 ⊢; clear hc5 hs5 hfr5 hb5 hM5)
        | (go_at_call 136; refine HC5.out.mono ?_; rintro e6 w6 ⟨a6, cap6, f6, rfl, hc6, hs6, hfr6, hb6⟩; simp only at hc6 hs6 ⊢; have hE6 := HB5.out.trans hb6; obtain ⟨⟨z0, z1, z2, z3⟩, ⟨z4, z5, z6, z7⟩, z8⟩ := zbox_below HZ4.out hE6 (by omega); have H6 := Lib.hid (And.intro hc6 (And.intro hs6 (And.intro hfr6 hE6))); clear hc6 hs6 hfr6 hE6 hb6))
      refine bodyPost_ret (v := .agg #[.int .i64 o6, .int .i64 n6, .string t6, .slice a6 k6.len cap6]) (by simp [results, Try.results95, go_sem, z0, z1, z2, z3, z4, z5, z6, z7, z8]) rfl ?_
      obtain ⟨hc6, hs6, hfr6, hE6⟩ := H6.out
      rw [HROW.out]
      refine end_new2 (lo := w.heap.size + 1 + 1) (hi := w.heap.size + 3) (w3 := w6) hs6 hfr6 hc6 hz4 (by omega) (by omega) (HE4.out.trans hE6) ?_
      repeat (first | exact Touch.refl _ _ _ | refine Touch.setCell ?_ (by simp) (by simp) _)
    | cons o1 n1 t1 k1 r1 =>
      have hjL : j < N := by simp only [F.len] at h7; omega
      have hA' := hA.later hbw
      rw [h3] at hA'
      obtain ⟨a1, cap1, f1, c0, c1, c2, c3, hc1', hsub1, hin⟩ := part_at hA'
      rw [h5] at c0 c1 c2 c3
      have hd := fun (ob : Obj) => HK.out (wr.alloc ob) ((hE4.trans hbw).alloc _) (w.heap.size + 1) (by simp; omega) ((((Ext.refl wr).alloc ob).cell (o := 0) (by omega)).trans hfcr) p o1 n1 t1 k1 r1 a1 cap1 f1 h3 hsub1 (fun c hc => hsl.subset (hin c hc)) hc1'
      obtain ⟨K2, hK2⟩ : ∃ K, mapL (rowD Φ) k1 = K := ⟨_, rfl⟩
      rw [hK2] at hd
      obtain ⟨L1, hL1⟩ : ∃ L, k1.len = L := ⟨_, rfl⟩
      rw [hL1] at hd c3
      have HD := Lib.hid hd
      have HF := Lib.hid hK2
      have H := Lib.hid (And.intro h3 (And.intro h5 (And.intro hG hbw)))
      clear hd h3 h5 h7 hbw hG hA hA' hsl hE4 hK2 hsub1 hc1' hL1
      go_wp2_with (first
        | (go_at_call 129; refine (HD.out _).mono ?_; rintro e1 w1 ⟨a2, cap2, f2, rfl, hc2, hs2, hfr2, hb2⟩; have hstep := fun (ob : Obj) => copy_mid (w1 := w1) (ob := ob) H.out.2.2.1 hb2; have H2 := Lib.hid (And.intro hs2 (And.intro hfr2 (And.intro hb2 hc2))); clear hs2 hfr2 hb2 c0 c1 c2 c3; have HST := Lib.hid hstep; clear hstep)
        | (at_builtin; refine append_doc rfl (.tmp 15) (.tmp 19) 23 rfl Try.underlying23 HI.out.1 HI.out.2.1 HI.out.2.2.1 HI.out.2.2.2 rfl rfl (HST.out _).1 (d := w1.heap.size) (c := 1) rfl (cell_new w1 _ _ 0 _ rfl) (cell_new w1 _ _ 1 _ rfl) (cell_new w1 _ _ 2 _ rfl) (cell_new w1 _ _ 3 _ rfl) H2.out.2.2.2 (H2.out.1.below H2.out.2.1.lt ((Below.refl _ _).alloc (Nat.le_refl _) _)) (H2.out.2.1.below H2.out.2.1.lt ((Below.refl _ _).alloc (Nat.le_refl _) _)) (HST.out (.cells #[] 0)).2.1 (HST.out (.cells #[] 0)).2.2.1 (HST.out (.cells #[] 0)).2.2.2.1 (by rw [len_mapL]; have := H.out.2.1; omega) ?_; intro v' w2 fs' hG' hb' hg'))
      go_roundw
      case rel =>
        obtain ⟨h3, h5, hG, hbw⟩ := H.out
        have hch := copy_end H2.out.2.2.1 hb' hG.2.2.2
        refine ⟨j + 1, by omega, by go_num, ⟨p.app (.cons o1 n1 t1 k1 .nil), r1, fs', by rw [h3, F.app_assoc]; rfl, by rw [F.len_app, h5]; rfl, ?_, Below.trans hbw hch⟩⟩
        rw [mapL_app, show mapL (kidR Φ) (.cons o1 n1 t1 k1 .nil) = .cons o1 n1 t1 K2 .nil by rw [← HF.out]; rfl]
        exact hG'
      case measure => simp [intOf]; omega

/-- The contract of changeRows, at the documents of every list. -/
theorem crS {g : Nat} {lb : Array Value} {Φ : F → F} (R : ListFn g lb Φ) (m : Nat) : ∀ f : F, f.deep ≤ m → CrS g lb Φ f := by
  induction m with
  | zero =>
    intro f hf w o n t k p r a cap fs he
    rw [he, F.deep_app] at hf; simp only [F.deep] at hf; omega
  | succ m ih =>
    intro f hf w o n t k p r a cap fs he hn hcnt hs hfs hc
    have hk : k.deep ≤ m := by rw [he, F.deep_app] at hf; simp only [F.deep] at hf; omega
    have hn' : niceD (o, n, t, k) = true := by
      rw [he, nice_app, Bool.and_eq_true] at hn
      exact (Bool.and_eq_true_iff.1 hn.2).1
    rw [he, F.cnt_app] at hcnt
    simp only [F.cnt] at hcnt
    exact cr_step R w o n t k (fun f hf => ih f (Nat.le_trans hf hk)) hn' (by omega) a cap fs hs hfs hc

theorem changeRows {g : Nat} {lb : Array Value} {Φ : F → F} (R : ListFn g lb Φ) (w : World) (o n : Int) (t : ByteArray) (k : F) (hn : niceD (o, n, t, k) = true) (hcnt : k.cnt ≤ 10000) (a : Option Addr) (cap : Nat) (fs : List Nat) (hs : SubAt w a k fs) (hfs : ∀ c ∈ fs, c < w.heap.size) (hc : k.len ≤ cap) :
    Calls Try.prog 95 #[.agg #[.int .i64 o, .int .i64 n, .string t, .slice a k.len cap], .func (.func g) #[] lb] w (NewD w (rowD Φ o n t k)) :=
  cr_step R w o n t k (fun f _ => crS R _ f (Nat.le_refl _)) hn hcnt a cap fs hs hfs hc

end Go.Proofs.Ytafhefmjnjibdaa.Nf

