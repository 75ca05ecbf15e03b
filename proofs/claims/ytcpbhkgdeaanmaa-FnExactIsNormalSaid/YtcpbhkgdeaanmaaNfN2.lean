import Derived.Test.YtcpbhkgdeaanmaaNfN
import Derived.Test.YtcpbhkgdeaanmaaSameL
import Derived.Test.YtcpbhkgdeaanmaaSpecS
import Derived.Deep.RegionHeld3
/-
  IsNormal of the program and of the model.
-/
set_option linter.unusedVariables false
set_option linter.unusedSimpArgs false
namespace Go.Proofs.Ytcpbhkgdeaanmaa.Nf
open Go.RowKit P1 Copy CatD

def isB (o n : Int) (t : ByteArray) (k : F) : Bool := validD o n t k && sameD (noD (o, n, t, k)).1 (noD (o, n, t, k)).2.1 (noD (o, n, t, k)).2.2.1 (noD (o, n, t, k)).2.2.2 o n t k
theorem is_no {o n : Int} {t : ByteArray} {k : F} {d : D} (h : noRes o n t k = (false, d)) : isB o n t k = false := by
  unfold isB
  cases hv : validD o n t k with
  | false => rfl
  | true =>
    cases hs : sameD (noD (o, n, t, k)).1 (noD (o, n, t, k)).2.1 (noD (o, n, t, k)).2.2.1 (noD (o, n, t, k)).2.2.2 o n t k with
    | false => rfl
    | true =>
      obtain ⟨h1, h2, h3, h4⟩ := sameD_iff.1 hs
      have e : noD (o, n, t, k) = (o, n, t, k) := Prod.ext h1 (Prod.ext h2 (Prod.ext h3 h4))
      unfold noRes chR at h
      rw [e] at h
      simp only [hv, if_true] at h
      cases h
theorem is_yes {o n : Int} {t : ByteArray} {k : F} {d : D} (h : noRes o n t k = (true, d)) : isB o n t k = sameD d.1 d.2.1 d.2.2.1 d.2.2.2 o n t k := by
  obtain ⟨h1, h2, h3⟩ := ch_ok (show (chR (o, n, t, k) (noD (o, n, t, k))).1 = true by show (noRes o n t k).1 = true; rw [h])
  have e : noRes o n t k = (true, noD (o, n, t, k)) := h3
  rw [h] at e
  injection e with _ e
  have hv : validD o n t k = true := h1
  unfold isB
  rw [hv, ← e]; rfl

set_option maxRecDepth 100000 in
set_option maxHeartbeats 1600000 in
theorem implIsNormal (w : World) (o n : Int) (t : ByteArray) (k : F) (a : Option Addr) (cap : Nat) (fs : List Nat) (hs : SubAt w a k fs) (hfs : ∀ c ∈ fs, c < w.heap.size ∧ ∀ o, w.frozen? ⟨c, o, none⟩ = false) (hc : k.len ≤ cap) (hle : t.size + k.size ≤ 1048576) :
    Calls Try.prog 13 #[.agg #[.int .i64 o, .int .i64 n, .string t, .slice a k.len cap]] w fun e w' => e = .returned (.bool (isB o n t k)) ∧ Ext w w' := by
  have hat := fun (W : World) (e : Ext w W) => (show ∀ c ∈ fs, c < W.heap.size ∧ ∀ o, W.frozen? ⟨c, o, none⟩ = false from fun c hc => ⟨Nat.lt_of_lt_of_le (hfs c hc).1 e.size, fun x => (e.frozen (hfs c hc).1).trans ((hfs c hc).2 x)⟩)
  have hin := fun (W : World) (e : Ext w W) => implNormalDoc W o n t k a cap fs (e.sub hs (fun c hc => (hfs c hc).1)) (hat W e) hc hle
  obtain ⟨⟨ok, o2, n2, t2, k2⟩, hR⟩ : ∃ R, noRes o n t k = R := ⟨_, rfl⟩
  have hk2 : k2.size ≤ 2097152 := by have := no_size o n t k; rw [hR] at this; exact this
  rw [hR] at hin
  have hsame := fun (W : World) (e : Ext w W) (a2 : Option Addr) (cap2 : Nat) (f2 : List Nat) (h1 : SubAt W a2 k2 f2) (h2 : ∀ c ∈ f2, c < W.heap.size ∧ ∀ o, W.frozen? ⟨c, o, none⟩ = false) (h3 : k2.len ≤ cap2) =>
    (show Calls Try.prog 16 #[.agg #[.int .i64 o2, .int .i64 n2, .string t2, .slice a2 k2.len cap2], .agg #[.int .i64 o, .int .i64 n, .string t, .slice a k.len cap]] W fun e w' => e = .returned (.bool (sameD o2 n2 t2 k2 o n t k)) ∧ Below W.heap.size W w' from
      SameL.docSame W (o2, n2, t2, k2) (o, n, t, k) _ _ ⟨a2, cap2, f2, rfl, h3, h1, h2, hk2⟩ ⟨a, cap, fs, rfl, hc, e.sub hs (fun c hc => (hfs c hc).1), hat W e, by show k.size ≤ _; omega⟩)
  have HB : ok = true → isB o n t k = sameD o2 n2 t2 k2 o n t k := fun h => by rw [h] at hR; exact is_yes hR
  have HN : ok = false → isB o n t k = false := fun h => by rw [h] at hR; exact is_no hR
  obtain ⟨B, hB⟩ : ∃ B, isB o n t k = B := ⟨_, rfl⟩
  rw [hB] at HB HN ⊢
  have HB := Lib.hid HB
  have HN := Lib.hid HN
  have HI := Lib.hid hin
  have HS := Lib.hid hsame
  obtain ⟨L, hL⟩ : ∃ L, k.len = L := ⟨_, rfl⟩
  rw [hL] at HI HS ⊢
  clear hin hsame hat hs hfs hc hle hk2 hR hB hL
  go_enter Try.func13, Try.ntmps13
  go_wp2_with fail
  refine (HI.out _ ((Ext.refl w).alloc _)).mono ?_
  rintro e1 w1 ⟨a2, cap2, f2, rfl, hc2, hs2, hfr2, hb2⟩
  have hE1 : Ext w w1 := Ext.trans ((Ext.refl w).alloc _) hb2
  have x0 := (hb2.cell (p := ⟨w.heap.size, 0, none⟩) (by simp)).trans (cell_new w _ _ 0 _ rfl)
  have x1 := (hb2.cell (p := ⟨w.heap.size, 1, none⟩) (by simp)).trans (cell_new w _ _ 1 _ rfl)
  have x2 := (hb2.cell (p := ⟨w.heap.size, 2, none⟩) (by simp)).trans (cell_new w _ _ 2 _ rfl)
  have x3 := (hb2.cell (p := ⟨w.heap.size, 3, none⟩) (by simp)).trans (cell_new w _ _ 3 _ rfl)
  have hl1 : w.heap.size < w1.heap.size := by have := hb2.size; simp at this; omega
  have HC := Lib.hid (fun (ob : Obj) => HS.out (w1.alloc ob) (hE1.trans ((Ext.refl w1).alloc _)) a2 cap2 f2 (Ext.sub ((Ext.refl w1).alloc ob) hs2 hfr2.lt) (fun c hc => ⟨by have := (hfr2.2 c hc).2.1; simp; omega, fun x => (Ext.frozen ((Ext.refl w1).alloc ob) (hfr2.2 c hc).2.1).trans ((hfr2.2 c hc).2.2 x)⟩) hc2)
  have HE1 := Lib.hid hE1
  clear hc2 hs2 hfr2 hb2 hE1
  cases ok with
  | false =>
    have hb := HN.out rfl
    subst hb
    go_wp2_with fail
    go_ret
    exact ⟨rfl, Ext.trans HE1.out ((Ext.refl _).alloc _)⟩
  | true =>
    have hb := Lib.hid (HB.out rfl)
    go_wp2_with fail
    refine (HC.out _).mono ?_
    rintro e3 w3 ⟨rfl, hb3⟩
    have H3 := Lib.hid (Ext.trans HE1.out (Ext.trans ((Ext.refl _).alloc _) hb3))
    clear hb3
    go_wp2_with fail
    go_ret
    refine ⟨?_, H3.out⟩
    show Ending.returned (.bool (sameD o2 n2 t2 k2 o n t k)) = .returned (.bool B)
    rw [hb.out]

set_option maxRecDepth 100000 in
set_option maxHeartbeats 1600000 in
theorem specIsNormal (w : World) (o n : Int) (t : ByteArray) (k : F) (a : Option Addr) (cap : Nat) (fs : List Nat) (hs : SubAt w a k fs) (hfs : ∀ c ∈ fs, c < w.heap.size ∧ ∀ o, w.frozen? ⟨c, o, none⟩ = false) (hc : k.len ≤ cap) (hle : t.size + k.size ≤ 1048576) :
    Calls Try.prog 15 #[.agg #[.int .i64 o, .int .i64 n, .string t, .slice a k.len cap]] w fun e w' => e = .returned (.bool (isB o n t k)) ∧ Ext w w' := by
  have hl := F.len_le_size k
  have hft : k.Fits := fits_of_size (m := 1048576) (by unfold maxLen; omega) k (by omega)
  have hval := fun (W : World) (e : Ext w W) => SpecC.docValid W o n t k a cap fs (e.sub hs (fun c hc => (hfs c hc).1)) (fun c hc => Nat.lt_of_lt_of_le (hfs c hc).1 e.size) hc (by omega) hft (by unfold maxLen; omega)
  have hlt := fun (W : World) (e : Ext w W) => (show ∀ c ∈ fs, c < W.heap.size from fun c hc => Nat.lt_of_lt_of_le (hfs c hc).1 e.size)
  cases hv : validD o n t k with
  | false =>
    rw [hv] at hval
    rw [show isB o n t k = false by unfold isB; rw [hv]; rfl]
    have HV := Lib.hid hval
    obtain ⟨L, hL⟩ : ∃ L, k.len = L := ⟨_, rfl⟩
    rw [hL] at HV ⊢
    obtain ⟨W0, hW0⟩ : ∃ W, w.alloc (.cells #[.int .i64 o, .int .i64 n, .string t, .slice a L cap] 25) = W := ⟨_, rfl⟩
    have hE0 : Ext w W0 := by rw [← hW0]; exact (Ext.refl w).alloc _
    have hX0 := box_new' w 25 (.int .i64 o) (.int .i64 n) (.string t) (.slice a L cap)
    rw [hW0] at hX0
    have hl0 : w.heap.size < W0.heap.size := by rw [← hW0]; simp
    have HTW := Lib.hid (show ∀ W, Ext W0 W → W.cell? ⟨w.heap.size, 0, none⟩ = some (.int .i64 o) ∧ W.cell? ⟨w.heap.size, 1, none⟩ = some (.int .i64 n) ∧ W.cell? ⟨w.heap.size, 2, none⟩ = some (.string t) ∧ W.cell? ⟨w.heap.size, 3, none⟩ = some (.slice a L cap) from fun W e => box4 hX0 hl0 e)
    have HT0 := Lib.hid (HTW.out W0.drew (Ext.refl W0).drew)
    have HE0 := Lib.hid hE0
    clear hval hlt hs hfs hc hl hft hv hL hle hE0 hX0
    go_enter Try.func15, Try.ntmps15
    go_wp2_with fail
    try rw [hW0]
    clear hW0
    obtain ⟨x0, x1, x2, x3⟩ := HTW.out W0 (Ext.refl W0)
    go_region_law (first | (go_simp; go_at_call 51; refine (HV.out _ (by first | exact HE0.out | exact HE0.out.trans (Ext.refl W0).drew)).mono ?_; rintro e1 w1 ⟨rfl, hb1⟩; have q1 : Ext W0 w1 := (by first | exact hb1 | exact (Ext.refl W0).drew.trans hb1); clear hb1))
    all_goals
      go_wp2_with fail
      go_ret
      exact ⟨rfl, HE0.out.trans q1⟩
  | true =>
    rw [hv] at hval
    have hnor := fun (W : World) (e : Ext w W) => l7Normal W o n t k hv a cap fs (e.sub hs (fun c hc => (hfs c hc).1)) (hlt W e) hc
    obtain ⟨hn5, hc5⟩ := no_5 (d := (o, n, t, k)) hv
    have hfit := nice_fit hn5 hc5
    have hiB : isB o n t k = sameD (noD (o, n, t, k)).1 (noD (o, n, t, k)).2.1 (noD (o, n, t, k)).2.2.1 (noD (o, n, t, k)).2.2.2 o n t k := by unfold isB; rw [hv]; rfl
    obtain ⟨⟨o2, n2, t2, k2⟩, hd⟩ : ∃ d : D, noD (o, n, t, k) = d := ⟨_, rfl⟩
    rw [hd] at hnor hfit hiB
    simp only at hfit hiB
    have hl2 := F.len_le_size k2
    have hsame := fun (W : World) (e : Ext w W) (a2 : Option Addr) (cap2 : Nat) (f2 : List Nat) (h1 : SubAt W a2 k2 f2) (h2 : ∀ c ∈ f2, c < W.heap.size) (h3 : k2.len ≤ cap2) =>
      SpecS.docSame_any k2 k o2 n2 o n t2 t W a2 a cap2 cap f2 fs h1 (e.sub hs (fun c hc => (hfs c hc).1)) h2 (hlt W e) h3 hc (by unfold maxLen; omega) (by unfold maxLen; omega) (fits_of_size (m := 1048576) (by unfold maxLen; omega) k2 hfit.1) hft
    rw [hiB]
    obtain ⟨B, hB⟩ : ∃ B, sameD o2 n2 t2 k2 o n t k = B := ⟨_, rfl⟩
    rw [hB] at hsame ⊢
    have HV := Lib.hid hval
    have HN := Lib.hid hnor
    have HS := Lib.hid hsame
    obtain ⟨L, hL⟩ : ∃ L, k.len = L := ⟨_, rfl⟩
    rw [hL] at HV HN HS ⊢
    obtain ⟨W0, hW0⟩ : ∃ W, w.alloc (.cells #[.int .i64 o, .int .i64 n, .string t, .slice a L cap] 25) = W := ⟨_, rfl⟩
    have hE0 : Ext w W0 := by rw [← hW0]; exact (Ext.refl w).alloc _
    have hX0 := box_new' w 25 (.int .i64 o) (.int .i64 n) (.string t) (.slice a L cap)
    rw [hW0] at hX0
    have hl0 : w.heap.size < W0.heap.size := by rw [← hW0]; simp
    have HTW := Lib.hid (show ∀ W, Ext W0 W → W.cell? ⟨w.heap.size, 0, none⟩ = some (.int .i64 o) ∧ W.cell? ⟨w.heap.size, 1, none⟩ = some (.int .i64 n) ∧ W.cell? ⟨w.heap.size, 2, none⟩ = some (.string t) ∧ W.cell? ⟨w.heap.size, 3, none⟩ = some (.slice a L cap) from fun W e => box4 hX0 hl0 e)
    have HT0 := Lib.hid (HTW.out W0.drew (Ext.refl W0).drew)
    have HE0 := Lib.hid hE0
    clear hval hnor hsame hlt hs hfs hc hl hl2 hft hfit hv hL hle hd hB hiB hn5 hc5 hE0 hX0
    go_enter Try.func15, Try.ntmps15
    go_wp2_with fail
    try rw [hW0]
    clear hW0
    obtain ⟨x0, x1, x2, x3⟩ := HTW.out W0 (Ext.refl W0)
    go_region_held3 (fun w' => w'.cell? ⟨w.heap.size, 0, none⟩ = some (.int .i64 o) ∧ w'.cell? ⟨w.heap.size, 1, none⟩ = some (.int .i64 n) ∧ w'.cell? ⟨w.heap.size, 2, none⟩ = some (.string t) ∧ w'.cell? ⟨w.heap.size, 3, none⟩ = some (.slice a L cap))
      (first | (go_keep; done) | with_reducible exact HTW.out _ q3 | with_reducible exact HTW.out _ q2 | with_reducible exact HTW.out _ q1 | with_reducible exact HT0.out)
      (first
        | (go_at_call 51; refine (HV.out _ (by exact HE0.out.trans (Ext.refl W0).drew)).mono ?_; rintro e1 w1 ⟨rfl, hb1⟩; have q1 : Ext W0 w1 := (Ext.refl W0).drew.trans hb1; clear hb1)
        | (go_at_call 53; refine (HN.out _ (by exact HE0.out.trans q1)).mono ?_; rintro e2 w2 ⟨a2, cap2, f2, rfl, hc2, hs2, hfr2, hb2⟩; simp only at hc2 hs2 ⊢; have q2 : Ext W0 w2 := q1.trans hb2; have H2 := Lib.hid (HS.out w2 (HE0.out.trans q2) a2 cap2 f2 hs2 hfr2.lt hc2); clear hc2 hs2 hfr2 hb2)
        | (go_at_call 52; refine H2.out.mono ?_; rintro e3 w3 ⟨rfl, hb3⟩; have q3 : Ext W0 w3 := q2.trans hb3; clear hb3))
    go_wp2_with fail
    go_ret
    exact ⟨rfl, HE0.out.trans q3⟩

end Go.Proofs.Ytcpbhkgdeaanmaa.Nf

