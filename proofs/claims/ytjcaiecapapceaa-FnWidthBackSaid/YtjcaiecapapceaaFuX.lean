import Derived.Test.YtjcaiecapapceaaNfX
/-
 Texts of a row joined, as a plain function, and rows that are turned to the right; nothing here speaks of the program.
-/
set_option linter.unusedVariables false
set_option linter.unusedSimpArgs false
set_option maxRecDepth 100000
set_option maxHeartbeats 3200000
namespace Go.Proofs.Ytjcaiecapapceaa.Nf
open P1
def fits (d : D) (o : Int) (t : ByteArray) : Bool := d.1 == 2 && o == 2 && decide (d.2.2.1.size + t.size ≤ 12)
def fz : D → F → F
 | d, .nil => consD d .nil
 | d, .cons o n t k r => if fits d o t = true then fz (d.1, d.2.1, d.2.2.1 ++ t, d.2.2.2) r else consD d (fz (o, n, t, k) r)
def fzR : F → F
 | .nil => .nil
 | .cons o n t k r => fz (o, n, t, k) r
theorem fz_yes {d : D} {o n : Int} {t : ByteArray} {k r : F} (h : fits d o t = true) : fz d (.cons o n t k r) = fz (d.1, d.2.1, d.2.2.1 ++ t, d.2.2.2) r := by rw [fz, if_pos h]
theorem fz_no {d : D} {o n : Int} {t : ByteArray} {k r : F} (h : fits d o t = false) : fz d (.cons o n t k r) = consD d (fz (o, n, t, k) r) := by rw [fz, if_neg (by rw [h]; decide)]
theorem fits_iff {d : D} {o : Int} {t : ByteArray} : fits d o t = true ↔ d.1 = 2 ∧ o = 2 ∧ d.2.2.1.size + t.size ≤ 12 := by
 unfold fits
 rw [Bool.and_eq_true, Bool.and_eq_true, beq_iff_eq, beq_iff_eq, decide_eq_true_eq, and_assoc]
theorem tv_join {a b : ByteArray} (ha : tv a.data.toList = true) (hb : tv b.data.toList = true) (h : a.size + b.size ≤ 12) : tv (a ++ b).data.toList = true := by
 have h1 := tv_len ha
 have h2 := tv_len hb
 have e : (a ++ b).data.toList = a.data.toList ++ b.data.toList := by rw [ByteArray.data_append, Array.toList_append]
 have s1 : a.data.toList.length = a.size := Array.length_toList
 have s2 : b.data.toList.length = b.size := Array.length_toList
 rw [tv_of h1.1 h1.2] at ha
 rw [tv_of h2.1 h2.2] at hb
 rw [e, tv_of (by rw [List.length_append]; omega) (by rw [List.length_append]; omega), List.all_append, ha, hb]; rfl
theorem nice_join {d : D} {o n : Int} {t : ByteArray} {k : F} (hd : niceD d = true) (h : niceD (o, n, t, k) = true) (hf : fits d o t = true) : niceD (d.1, d.2.1, d.2.2.1 ++ t, d.2.2.2) = true := by
 obtain ⟨o0, n0, t0, k0⟩ := d
 obtain ⟨h1, h2, h3⟩ := fits_iff.1 hf
 simp only at h1 h3
 subst h1; subst h2
 unfold niceD nodeB textB at hd h ⊢
 simp only [Bool.and_eq_true, if_pos rfl] at hd h ⊢
 exact ⟨⟨⟨hd.1.1.1, tv_join hd.1.1.2 h.1.1.2 h3⟩, hd.1.2⟩, hd.2⟩
theorem fz_keep : ∀ (f : F) (d : D), niceD d = true → nice f = true → nice (fz d f) = true ∧ (fz d f).cnt + (fz d f).len ≤ 1 + d.2.2.2.cnt + f.cnt + (f.len + 1) ∧ fz d f ≠ .nil := by
 intro f
 induction f with
 | nil =>
   intro d hd _
   refine ⟨?_, ?_, by intro e; cases e⟩
   ·show (niceD d && nice .nil) = true; rw [hd]; rfl
   ·show 1 + d.2.2.2.cnt + 0 + (0 + 1) ≤ _; omega
 | cons o n t k r _ ih =>
   intro d hd h
   have hD : niceD (o, n, t, k) = true := by simp only [nice, Bool.and_eq_true] at h; exact Bool.and_eq_true_iff.2 h.1
   have hr : nice r = true := by simp only [nice, Bool.and_eq_true] at h; exact h.2
   by_cases hf : fits d o t = true
   ·rw [fz_yes hf]
    obtain ⟨h1, h2, h3⟩ := ih _ (nice_join hd hD hf) hr
    refine ⟨h1, ?_, h3⟩
    show _ ≤ 1 + d.2.2.2.cnt + (1 + k.cnt + r.cnt) + (r.len + 1 + 1)
    have : ((d.1, d.2.1, d.2.2.1 ++ t, d.2.2.2) : D).2.2.2.cnt = d.2.2.2.cnt := rfl
    omega
   ·rw [fz_no (by simpa using hf)]
    obtain ⟨h1, h2, h3⟩ := ih (o, n, t, k) hD hr
    refine ⟨?_, ?_, by intro e; cases e⟩
    ·show (niceD d && nice (fz (o, n, t, k) r)) = true; rw [hd, h1]; rfl
    ·show 1 + d.2.2.2.cnt + (fz (o, n, t, k) r).cnt + ((fz (o, n, t, k) r).len + 1) ≤ 1 + d.2.2.2.cnt + (1 + k.cnt + r.cnt) + (r.len + 1 + 1)
     have : ((o, n, t, k) : D).2.2.2.cnt = k.cnt := rfl
     omega
theorem fzR_keep {f : F} (h : nice f = true) (hf : f ≠ .nil) : nice (fzR f) = true ∧ (fzR f).cnt + (fzR f).len ≤ f.cnt + f.len ∧ fzR f ≠ .nil := by
 cases f with
 | nil => exact absurd rfl hf
 | cons o n t k r =>
   have hD : niceD (o, n, t, k) = true := by simp only [nice, Bool.and_eq_true] at h; exact Bool.and_eq_true_iff.2 h.1
   have hr : nice r = true := by simp only [nice, Bool.and_eq_true] at h; exact h.2
   exact fz_keep r (o, n, t, k) hD hr
theorem fz_len : ∀ (f : F) (d : D), 1 ≤ (fz d f).len ∧ (fz d f).len ≤ f.len + 1 := by
 intro f
 induction f with
 | nil => intro d; exact ⟨Nat.le_refl _, Nat.le_refl _⟩
 | cons o n t k r _ ih =>
   intro d
   by_cases hf : fits d o t = true
   ·rw [fz_yes hf]
    have := ih (d.1, d.2.1, d.2.2.1 ++ t, d.2.2.2)
    simp only [F.len]; omega
   ·rw [fz_no (by simpa using hf)]
    have := ih (o, n, t, k)
    simp only [consD, F.len]; omega
theorem parts_catAll : ∀ P : F, noCat P = true → P ≠ .nil → parts0 (consD (catAll P) .nil) = P := by
 intro P
 induction P with
 | nil => intro _ h; exact absurd rfl h
 | cons o n t k r _ ih =>
   intro h _
   rw [noCat, Bool.and_eq_true] at h
   have h7 : o ≠ 7 := by simpa using h.1
   by_cases hr : r.len = 0
   ·have := F.len_eq_zero hr
    subst this
    show (ptD o n t k).app (parts0 .nil) = _
    unfold ptD
    rw [if_neg h7]; rfl
   ·have e : catAll (.cons o n t k r) = (7, 0, ⟨#[]⟩, .cons o n t k (consD (catAll r) .nil)) := by show (if r.len = 0 then _ else _) = _; rw [if_neg hr]
    rw [e]
    show (ptD 7 0 ⟨#[]⟩ (.cons o n t k (consD (catAll r) .nil))).app .nil = _
    rw [F.app_nil]
    show (ptD o n t k).app (parts0 (consD (catAll r) .nil)) = _
    rw [ih h.2 (by intro e; rw [e] at hr; exact hr rfl)]
    unfold ptD
    rw [if_neg h7]; rfl
theorem ptD_catAll {P : F} (h : noCat P = true) (hP : P ≠ .nil) : ptD (catAll P).1 (catAll P).2.1 (catAll P).2.2.1 (catAll P).2.2.2 = P := by
 have h1 := parts_catAll P h hP
 have e : parts0 (consD (catAll P) .nil) = (ptD (catAll P).1 (catAll P).2.1 (catAll P).2.2.1 (catAll P).2.2.2).app .nil := rfl
 rw [e, F.app_nil] at h1
 exact h1
theorem noCat_map (g : F → F) (f : F) : noCat (mapL (kidR g) f) = noCat f := by
 induction f with
 | nil => rfl
 | cons o n t k r _ ih => show ((o != 7) && noCat (mapL (kidR g) r)) = _; rw [ih]; rfl
theorem pt_noCat (o n : Int) (t : ByteArray) (k : F) : noCat (ptD o n t k) = true := by
 have h := parts_noCat (.cons o n t k .nil)
 have e : parts0 (.cons o n t k .nil) = (ptD o n t k).app .nil := rfl
 rw [e, F.app_nil] at h
 exact h
theorem ps_noCat (g : F → F) (o n : Int) (t : ByteArray) (k : F) : noCat (psD g o n t k) = true := by rw [ps_parts, noCat_map, pt_noCat]
theorem pt_ne {o n : Int} {t : ByteArray} {k : F} (h : niceD (o, n, t, k) = true) : ptD o n t k ≠ .nil := by
 intro e
 have h1 := parts_len (.cons o n t k .nil) (by rw [show nice (.cons o n t k .nil) = (niceD (o, n, t, k) && nice .nil) from rfl, h]; rfl)
 have e1 : parts0 (.cons o n t k .nil) = (ptD o n t k).app .nil := rfl
 rw [e1, F.app_nil, e] at h1
 simp [F.len] at h1
theorem ps_ne (g : F → F) {o n : Int} {t : ByteArray} {k : F} (h : niceD (o, n, t, k) = true) : psD g o n t k ≠ .nil := by
 intro e
 have h2 : (psD g o n t k).len = (ptD o n t k).len := by rw [ps_parts, len_mapL]
 rw [e] at h2
 exact pt_ne h (F.len_eq_zero h2.symm)
theorem row_turned (Φ : F → F) (g : F → F) (hg : ∀ P, noCat P = true → P ≠ .nil → noCat (g P) = true ∧ g P ≠ .nil) (hΦ : ∀ P, Φ (mapL (kidR Φ) (g P)) = Φ (mapL (kidR Φ) P)) : ∀ f : F, nice f = true →
  mapL (rowD Φ) (mapL (rowD g) f) = mapL (rowD Φ) f ∧ mapL (kidR Φ) (mapL (kidR g) (parts0 f)) = mapL (kidR Φ) (parts0 f) := by
 intro f
 induction f with
 | nil => intro _; exact ⟨rfl, rfl⟩
 | cons o n t k r ihk ihr =>
   intro h
   have hD : niceD (o, n, t, k) = true := by simp only [nice, Bool.and_eq_true] at h; exact Bool.and_eq_true_iff.2 h.1
   have hr : nice r = true := by simp only [nice, Bool.and_eq_true] at h; exact h.2
   obtain ⟨a1, a2⟩ := ihk (nice_kids hD).2
   obtain ⟨b1, b2⟩ := ihr hr
   have hpt : mapL (kidR Φ) (mapL (kidR g) (ptD o n t k)) = mapL (kidR Φ) (ptD o n t k) := by
    unfold ptD
    split
    ·exact a2
    ·show consD (kidR Φ o n t (mapL (rowD g) k)) .nil = consD (kidR Φ o n t k) .nil
     unfold kidR
     rw [a1]
   refine ⟨?_, ?_⟩
   ·show consD (rowD Φ (rowD g o n t k).1 (rowD g o n t k).2.1 (rowD g o n t k).2.2.1 (rowD g o n t k).2.2.2) (mapL (rowD Φ) (mapL (rowD g) r)) = consD (rowD Φ o n t k) (mapL (rowD Φ) r)
    rw [b1]
    congr 1
    have hq := hg (psD g o n t k) (ps_noCat g o n t k) (ps_ne g hD)
    have e1 : psD Φ (rowD g o n t k).1 (rowD g o n t k).2.1 (rowD g o n t k).2.2.1 (rowD g o n t k).2.2.2 = mapL (kidR Φ) (g (psD g o n t k)) := by
     rw [ps_parts]
     show mapL (kidR Φ) (ptD (catAll (g (psD g o n t k))).1 (catAll (g (psD g o n t k))).2.1 (catAll (g (psD g o n t k))).2.2.1 (catAll (g (psD g o n t k))).2.2.2) = _
     rw [ptD_catAll hq.1 hq.2]
    show catAll (Φ (psD Φ (rowD g o n t k).1 (rowD g o n t k).2.1 (rowD g o n t k).2.2.1 (rowD g o n t k).2.2.2)) = catAll (Φ (psD Φ o n t k))
    rw [e1, hΦ, ps_parts g, hpt, ← ps_parts]
   ·rw [parts0_cons, mapL_app, mapL_app, mapL_app, b2, hpt]
theorem fuse_right (Φ : F → F) : ∀ f : F, nice f = true → mapL (rowD Φ) (mapL (rowD (fun f => f)) f) = mapL (rowD Φ) f ∧ mapL (kidR Φ) (mapL (kidR (fun f => f)) (parts0 f)) = mapL (kidR Φ) (parts0 f) :=
 row_turned Φ (fun f => f) (fun P h1 h2 => ⟨h1, h2⟩) (fun P => rfl)
theorem cat_fits : ∀ f : F, nice f = true → f ≠ .nil → niceD (catAll f) = true ∧ (catAll f).2.2.2.cnt + 2 = f.cnt + f.len := by
 intro f
 induction f with
 | nil => intro _ h; exact absurd rfl h
 | cons o n t k r _ ih =>
   intro h _
   have hD : niceD (o, n, t, k) = true := by simp only [nice, Bool.and_eq_true] at h; exact Bool.and_eq_true_iff.2 h.1
   have hr : nice r = true := by simp only [nice, Bool.and_eq_true] at h; exact h.2
   by_cases he : r.len = 0
   ·have := F.len_eq_zero he
    subst this
    rw [show catAll (.cons o n t k .nil) = (o, n, t, k) from rfl]
    exact ⟨hD, by simp only [F.cnt, F.len]; omega⟩
   ·obtain ⟨h1, h2⟩ := ih hr (by intro e; rw [e] at he; exact he rfl)
    have e : catAll (.cons o n t k r) = (7, 0, ⟨#[]⟩, .cons o n t k (consD (catAll r) .nil)) := by show (if r.len = 0 then _ else _) = _; rw [if_neg he]
    rw [e]
    have hk : nice (.cons o n t k (consD (catAll r) .nil)) = true := by
     show (niceD (o, n, t, k) && (niceD (catAll r) && nice .nil)) = true
     rw [hD, h1]; rfl
    refine ⟨?_, ?_⟩
    ·show (nodeB 7 0 ⟨#[]⟩ 2 && nice (.cons o n t k (consD (catAll r) .nil))) = true
     rw [hk, Bool.and_true]; decide
    ·show 1 + k.cnt + (1 + (catAll r).2.2.2.cnt + 0) + 2 = 1 + k.cnt + r.cnt + (r.len + 1)
     omega
def RowOk (Φ : F → F) : Prop := ∀ P, nice P = true → P ≠ .nil → nice (Φ P) = true ∧ (Φ P).cnt + (Φ P).len ≤ P.cnt + P.len ∧ Φ P ≠ .nil
theorem row_keep {Φ : F → F} (hΦ : RowOk Φ) : ∀ f : F, nice f = true → nice (pr Φ f).1 = true ∧ nice (pr Φ f).2 = true ∧ (pr Φ f).1.cnt + (pr Φ f).1.len ≤ f.cnt + f.len ∧ (pr Φ f).2.cnt ≤ f.cnt := by
 intro f
 induction f with
 | nil => intro _; exact ⟨rfl, rfl, Nat.le_refl _, Nat.le_refl _⟩
 | cons o n t k r ihk ihr =>
   intro h
   have hD : niceD (o, n, t, k) = true := by simp only [nice, Bool.and_eq_true] at h; exact Bool.and_eq_true_iff.2 h.1
   have hr : nice r = true := by simp only [nice, Bool.and_eq_true] at h; exact h.2
   obtain ⟨a1, a2, a3, a4⟩ := ihk (nice_kids hD).2
   obtain ⟨b1, b2, b3, b4⟩ := ihr hr
   have hps : nice (psD Φ o n t k) = true ∧ (psD Φ o n t k).cnt + (psD Φ o n t k).len ≤ k.cnt + 2 := by
    unfold psD
    split
    ·rename_i h7
     obtain ⟨x, y, hxy⟩ := kids_two hD h7
     have e2 : k.len = 2 := by rw [hxy]; rfl
     exact ⟨a1, by omega⟩
    ·refine ⟨?_, by simp only [F.cnt, F.len]; omega⟩
     have hl : (pr Φ k).2.len = k.len := by rw [pr_map, len_mapL]
     show (nodeB o n t (pr Φ k).2.len && nice (pr Φ k).2 && nice .nil) = true
     rw [hl, a2]
     have h1 : nodeB o n t k.len = true := by unfold niceD at hD; exact (Bool.and_eq_true_iff.1 hD).1
     rw [h1]; rfl
   obtain ⟨d1, d2, d3⟩ := hΦ _ hps.1 (ps_ne Φ hD)
   obtain ⟨c1, c2⟩ := cat_fits _ d1 d3
   rw [pr_cons]
   refine ⟨by rw [nice_app, hps.1, b1]; rfl, ?_, ?_, ?_⟩
   ·show (niceD (rowD Φ o n t k) && nice (pr Φ r).2) = true
    rw [b2, Bool.and_true]; exact c1
   ·show ((psD Φ o n t k).app (pr Φ r).1).cnt + ((psD Φ o n t k).app (pr Φ r).1).len ≤ 1 + k.cnt + r.cnt + (r.len + 1)
    rw [F.cnt_app, F.len_app]; omega
   ·show 1 + (catAll (Φ (psD Φ o n t k))).2.2.2.cnt + (pr Φ r).2.cnt ≤ 1 + k.cnt + r.cnt
    omega
theorem row_parts {Φ : F → F} (hΦ : RowOk Φ) {o n : Int} {t : ByteArray} {k : F} (h : niceD (o, n, t, k) = true) : nice (psD Φ o n t k) = true ∧ (psD Φ o n t k).cnt + (psD Φ o n t k).len ≤ k.cnt + 2 := by
 obtain ⟨h1, _, h3, _⟩ := row_keep hΦ (.cons o n t k .nil) (by rw [show nice (.cons o n t k .nil) = (niceD (o, n, t, k) && nice .nil) from rfl, h]; rfl)
 rw [pr_cons, show (pr Φ .nil).1 = .nil from rfl, F.app_nil] at h1 h3
 simp only [F.cnt, F.len] at h3
 exact ⟨h1, by omega⟩
theorem row_nice {Φ : F → F} (hΦ : RowOk Φ) {o n : Int} {t : ByteArray} {k : F} (h : niceD (o, n, t, k) = true) : niceD (rowD Φ o n t k) = true ∧ (rowD Φ o n t k).2.2.2.cnt ≤ k.cnt := by
 obtain ⟨h1, h2⟩ := row_parts hΦ h
 obtain ⟨d1, d2, d3⟩ := hΦ _ h1 (ps_ne Φ h)
 obtain ⟨h3, h4⟩ := cat_fits _ d1 d3
 exact ⟨h3, by show (catAll (Φ (psD Φ o n t k))).2.2.2.cnt ≤ _; omega⟩
theorem fzR_ok : RowOk fzR := fun P h hP => fzR_keep h hP
end Go.Proofs.Ytjcaiecapapceaa.Nf
namespace Go.Proofs.Ytjcaiecapapceaa.Nf
open P1 Flat Wid ChP
end Go.Proofs.Ytjcaiecapapceaa.Nf
namespace Go.Proofs.Ytjcaiecapapceaa.Nf
open Go.RowKit P1 Copy
theorem own_put {w : World} {lo g n cap i : Nat} {T : TypeId} {xs : List Value} (h : w.ownsRow lo T 4 (.slice (some ⟨g, 0, none⟩) n cap) n xs) (u : Value) :
  (w.setCell ⟨g, i, none⟩ u).ownsRow lo T 4 (.slice (some ⟨g, 0, none⟩) n cap) n (xs.set i u) := by
 obtain ⟨h1, h2⟩ := h
 rcases h2 with ⟨h, _⟩ | ⟨g', cap', cur, e, hb, hg, hn, hm, hs, ht⟩
 ·cases h
 ·injection e with e1 e2 e3
  injection e1 with e1
  injection e1 with e1
  subst e1; subst e3
  refine ⟨by rw [List.length_set]; exact h1, .inr ⟨g, cap, cur.set! i u, rfl, hb, set_at hg i u, hn, hm, by simp [hs], ?_⟩⟩
  rw [← ht, Array.set!_eq_setIfInBounds, Array.toList_setIfInBounds, List.take_set]
theorem Sh.put {w : World} {o n : Int} {t : ByteArray} {k : F} (t2 : ByteArray) : ∀ (p : F) (xs : List Value) (gs : List Nat), Sh w (p.app (.cons o n t k .nil)) xs gs → Sh w (p.app (.cons o n t2 k .nil)) (xs.set (p.len * 4 + 2) (.string t2)) gs := by
 intro p
 induction p with
 | nil =>
   rintro xs gs ⟨a, cap, f1, f2, ys, rfl, hc, hs, hr, rfl⟩
   exact ⟨a, cap, f1, f2, ys, rfl, hc, hs, hr, rfl⟩
 | cons o' n' t' k' q _ ih =>
   rintro xs gs ⟨a, cap, f1, f2, ys, rfl, hc, hs, hr, rfl⟩
   refine ⟨a, cap, f1, f2, ys.set (q.len * 4 + 2) (.string t2), ?_, hc, hs, ih ys f2 hr, rfl⟩
   rw [show (F.cons o' n' t' k' q).len * 4 + 2 = q.len * 4 + 2 + 1 + 1 + 1 + 1 by simp only [F.len]; omega]
   rfl
theorem PtAt.put {w0 w : World} {lo g cap N : Nat} {p : F} {o n : Int} {t : ByteArray} {k : F} {gs : List Nat} (h : PtAt w0 lo (.slice (some ⟨g, 0, none⟩) (N + 1) cap) (p.app (.cons o n t k .nil)) gs w) (hN : p.len = N) (t2 : ByteArray) :
  PtAt w0 lo (.slice (some ⟨g, 0, none⟩) (N + 1) cap) (p.app (.cons o n t2 k .nil)) gs (w.setCell ⟨g, N * 4 + 2, none⟩ (.string t2)) := by
 obtain ⟨xs, h1, h2⟩ := h
 have e1 : (p.app (.cons o n t k .nil)).len = N + 1 := by rw [F.len_app, hN]; rfl
 have e2 : (p.app (.cons o n t2 k .nil)).len = N + 1 := by rw [F.len_app, hN]; rfl
 rw [e1] at h1
 subst hN
 exact ⟨_, by rw [e2]; exact own_put h1 _, Sh.put t2 p xs gs h2⟩
theorem append_part {P : Program} {ops : Array Oper} {rest : List Oper} {op : Oper} {ac : Act} {Q : Exit → Act → World → Prop} {w : World} (hgd : op.guard = none) (s x : Operand) (t : TypeId)
  (ho : op.op = .call { callee := .builtin .append, args := #[s, x], argTypes := #[t, t] }) {i : TypeInfo} {z : Value} (ht : P.underlying t = some (.slice 25)) (hi : P.info? 25 = some i) (hz : i.zero = some z) (h4 : i.size = 4) (h56 : i.bytes = 56) (hzs : z.cells.size = 4)
  {w0 : World} {lo N : Nat} {v : Value} {f : F} {gs : List Nat} (hsv : ac.eval s = v) (A : PtAt w0 lo v f gs w) (hN : f.len = N) {d c : Nat} {o n : Int} {tx : ByteArray} {k : F} {a : Option Addr} {cap : Nat} {f1 : List Nat} (hx : ac.eval x = .slice (some ⟨d, 0, none⟩) 1 c)
  (c0 : w.cell? ⟨d, 0, none⟩ = some (.int .i64 o)) (c1 : w.cell? ⟨d, 1, none⟩ = some (.int .i64 n)) (c2 : w.cell? ⟨d, 2, none⟩ = some (.string tx)) (c3 : w.cell? ⟨d, 3, none⟩ = some (.slice a k.len cap)) (hc : k.len ≤ cap) (hs : SubAt w0 a k f1) (hl : N ≤ 100000) (hlo : lo ≤ w.heap.size)
  (h : ∀ g' cap' w', PtAt w0 lo (.slice (some ⟨g', 0, none⟩) (N + 1) cap') (f.app (.cons o n tx k .nil)) (gs ++ f1) w' → Below lo w w' → w.grownBy w' v.ownBlock → lo ≤ g' → g' < w'.heap.size → wpList P ops Q rest (ac.put op.dst (.slice (some ⟨g', 0, none⟩) (N + 1) cap')) w') : wpList P ops Q (op :: rest) ac w := by
 obtain ⟨xs, hown, hsh⟩ := A
 subst hN
 have hnews : ∀ j u, [Value.int .i64 o, .int .i64 n, .string tx, .slice a k.len cap][j]? = some u → w.cell? ((⟨d, 0, none⟩ : Addr).add j) = some u := by
  intro j u hu
  rw [add_at, Nat.zero_add]
  match j, hu with
  | 0, hu => simp at hu; rw [← hu]; exact c0
  | 1, hu => simp at hu; rw [← hu]; exact c1
  | 2, hu => simp at hu; rw [← hu]; exact c2
  | 3, hu => simp at hu; rw [← hu]; exact c3
  | j + 4, hu => simp at hu
 refine wpList_append_lies w hgd s x t ho lo 25 i z 4 56 ht hi hz h4 h56 hzs (by omega) v f.len xs hsv hown ⟨d, 0, none⟩ 1 c _ hx rfl hnews (by simp [Value.oneCell']) (by omega) (by unfold maxLen; omega) (by omega) hlo w.heap.size rfl ?_
 intro g' cap' w' h1 h2 h3 h4'
 have hbel : Below lo w w' := ⟨h2.os, h2.tape, h2.output, h2.size, fun q hq => h2.block q (by omega) (fun e => by have := hown.lt q e.symm; omega)⟩
 have hle : (f.app (.cons o n tx k .nil)).len = f.len + 1 := by rw [F.len_app]; rfl
 have hone : Sh w0 (.cons o n tx k .nil) [Value.int .i64 o, .int .i64 n, .string tx, .slice a k.len cap] f1 := ⟨a, cap, f1, [], [], rfl, hc, hs, ⟨rfl, rfl⟩, by simp⟩
 refine h g' cap' w' ⟨_, by rw [hle]; exact h1, hone.app hsh⟩ hbel h2 ?_ h4'
 rcases h3 with h3 | h3
 ·exact (hown.lt g' h3).1
 ·omega
theorem row_of_sh {w : World} {g : Nat} : ∀ (f : F) (xs : List Value) (gs : List Nat) (off : Nat), Sh w f xs gs → (∀ j u, xs[j]? = some u → w.cell? ⟨g, off + j, none⟩ = some u) → RowAt w f g off gs := by
 intro f
 induction f with
 | nil => rintro xs gs off ⟨rfl, rfl⟩ _; exact rfl
 | cons o n t k r _ ih =>
   rintro xs gs off ⟨a, cap, f1, f2, ys, rfl, hc, hs, hr, rfl⟩ hcell
   exact RowAt.cons_iff.2 ⟨a, cap, f1, f2, hcell 0 _ rfl, hcell 1 _ rfl, hcell 2 _ rfl, hcell 3 _ rfl, hc, hs, ih ys f2 (off + 4) hr (fun j u hu => by rw [show off + 4 + j = off + (j + 4) by omega]; exact hcell (j + 4) u (by simpa using hu)), rfl⟩
theorem Sh.below {w w' : World} {B : Nat} (kb : Below B w w') : ∀ (f : F) (xs : List Value) (gs : List Nat), Sh w f xs gs → (∀ c ∈ gs, c < B) → Sh w' f xs gs := by
 intro f
 induction f with
 | nil => rintro xs gs h _; exact h
 | cons o n t k r _ ih =>
   rintro xs gs ⟨a, cap, f1, f2, ys, rfl, hc, hs, hr, rfl⟩ hB
   exact ⟨a, cap, f1, f2, ys, rfl, hc, hs.below (fun c hc => hB c (by simp [hc])) kb, ih ys f2 hr (fun c hc => hB c (by simp [hc])), rfl⟩
theorem PtAt.sub {w0 w : World} {lo g cap : Nat} {f : F} {gs : List Nat} (h : PtAt w0 lo (.slice (some ⟨g, 0, none⟩) f.len cap) f gs w) (kb : Below lo w0 w) (hgs : ∀ c ∈ gs, c < lo) (hn : f ≠ .nil) :
  SubAt w (some ⟨g, 0, none⟩) f (g :: gs) ∧ (∀ o, w.frozen? ⟨g, o, none⟩ = false) ∧ g < w.heap.size ∧ lo ≤ g ∧ f.len ≤ cap := by
 obtain ⟨xs, h1, h2⟩ := h
 have hlt := h1.lt g rfl
 have hfz : (∀ o, w.frozen? ⟨g, o, none⟩ = false) ∧ f.len ≤ cap := by
  rcases h1.2 with ⟨h, _⟩ | ⟨g', cap', cur, e, hb, hg, hn, hm, hs, ht⟩
  ·cases h
  ·injection e with e1 e2 e3
   injection e1 with e1
   injection e1 with e1
   subst e1; subst e3
   exact ⟨fun o => frozen_of_row w _ _ _ _ hg, hn⟩
 refine ⟨.inr ⟨g, 0, gs, rfl, hn, rfl, row_of_sh f xs gs 0 (Sh.below kb f xs gs h2 hgs) (fun j u hu => ?_)⟩, hfz.1, hlt.2, hlt.1, hfz.2⟩
 have := h1.cells (g := g) rfl j u hu
 rw [add_at] at this
 exact this
end Go.Proofs.Ytjcaiecapapceaa.Nf
namespace Go.Proofs.Ytjcaiecapapceaa.Nf
open Go.RowKit P1 Copy
theorem PtAt.fz {w0 w : World} {lo g n cap : Nat} {f : F} {gs : List Nat} (h : PtAt w0 lo (.slice (some ⟨g, 0, none⟩) n cap) f gs w) (o : Nat) : w.frozen? ⟨g, o, none⟩ = false := by
 obtain ⟨xs, h1, _⟩ := h
 rcases h1.2 with ⟨h, _⟩ | ⟨g', cap', cur, e, hb, hg, hn, hm, hs, ht⟩
 ·cases h
 ·injection e with e1 e2 e3
  injection e1 with e1
  injection e1 with e1
  subst e1
  exact frozen_of_row w _ _ _ _ hg
theorem ext_dn (w : World) : ∀ n, Ext w (w.drewN n)
 | 0 => Ext.refl w
 | n + 1 => (ext_dn w n).drew
structure Halt (p : Prop) : Prop where out : p
def FuMid (w : World) (P rest : F) (b off : Nat) (fs : List Nat) (j : Nat) (v : Value) (wr : World) : Prop := ∃ (q : F) (o n : Int) (t : ByteArray) (k p g : F) (G cap : Nat) (gs f2 : List Nat),
 rest = p.app g ∧ p.len = j ∧ fzR P = q.app (fz (o, n, t, k) g) ∧ v = .slice (some ⟨G, 0, none⟩) (q.len + 1) cap ∧ w.heap.size ≤ G ∧ G < wr.heap.size ∧ PtAt w w.heap.size v (q.app (.cons o n t k .nil)) gs wr ∧ RowAt w g b (off + j * 4) f2 ∧ (gs ++ f2).Sublist fs ∧ q.len ≤ j ∧ niceD (o, n, t, k) = true ∧ nice g = true ∧ Ext w wr
theorem FuMid.join {w wr w' : World} {P rest : F} {b off : Nat} {fs : List Nat} {j Q : Nat} {q p r : F} {o n o2 n2 : Int} {t t2 : ByteArray} {k k2 : F} {G cap : Nat} {gs f2 : List Nat} (h1 : rest = p.app (.cons o2 n2 t2 k2 r)) (h2 : p.len = j) (h3 : fzR P = q.app (fz (o, n, t, k) (.cons o2 n2 t2 k2 r))) (hG1 : w.heap.size ≤ G) (hG2 : G < wr.heap.size)
  (hA : PtAt w w.heap.size (.slice (some ⟨G, 0, none⟩) (Q + 1) cap) (q.app (.cons o n t k .nil)) gs wr) (hQ : q.len = Q) (hR : RowAt w (.cons o2 n2 t2 k2 r) b (off + j * 4) f2) (hsub : (gs ++ f2).Sublist fs) (hql : q.len ≤ j) (hD : niceD (o, n, t, k) = true) (hn : nice (.cons o2 n2 t2 k2 r) = true) (hE : Ext w wr) (hf : fits (o, n, t, k) o2 t2 = true) (he : Ext (wr.setCell ⟨G, Q * 4 + 2, none⟩ (.string (t ++ t2))) w') :
  FuMid w P rest b off fs (j + 1) (.slice (some ⟨G, 0, none⟩) (Q + 1) cap) w' := by
 have hD2 : niceD (o2, n2, t2, k2) = true := by simp only [nice, Bool.and_eq_true] at hn; exact Bool.and_eq_true_iff.2 hn.1
 have hr' : nice r = true := by simp only [nice, Bool.and_eq_true] at hn; exact hn.2
 obtain ⟨a2, c2, g1, g2, _, _, _, _, _, _, hrr, rfl⟩ := RowAt.cons_iff.1 hR
 subst hQ
 rw [fz_yes hf] at h3
 have hz := he.size
 simp only [World.size_setCell] at hz
 refine ⟨q, o, n, t ++ t2, k, p.app (.cons o2 n2 t2 k2 .nil), r, G, cap, gs, g2, by rw [h1, F.app_assoc]; rfl, by rw [F.len_app, h2]; rfl, h3, rfl, hG1, Nat.lt_of_lt_of_le hG2 hz, (hA.put rfl (t ++ t2)).later he, ?_, (List.Sublist.trans ((List.Sublist.refl gs).append (List.sublist_append_right g1 g2)) hsub), by omega, nice_join hD hD2 hf, hr', ?_⟩
 ·rw [show off + (j + 1) * 4 = off + j * 4 + 4 by omega]; exact hrr
 ·exact (Below.setCell hE (p := ⟨G, q.len * 4 + 2, none⟩) hG1 _).trans (he.mono (by simp; exact hE.size))
theorem FuMid.more {w w' : World} {P rest : F} {b off : Nat} {fs : List Nat} {j Q : Nat} {q p r : F} {o n o2 n2 : Int} {t t2 : ByteArray} {k k2 : F} {G cap : Nat} {gs f1 f2 : List Nat} (h1 : rest = p.app (.cons o2 n2 t2 k2 r)) (h2 : p.len = j) (h3 : fzR P = q.app (fz (o, n, t, k) (.cons o2 n2 t2 k2 r))) (hG1 : w.heap.size ≤ G) (hG2 : G < w'.heap.size)
  (hA : PtAt w w.heap.size (.slice (some ⟨G, 0, none⟩) (Q + 1 + 1) cap) ((q.app (.cons o n t k .nil)).app (.cons o2 n2 t2 k2 .nil)) (gs ++ f1) w') (hQ : q.len = Q) (hR : RowAt w r b (off + j * 4 + 4) f2) (hsub : (gs ++ (f1 ++ f2)).Sublist fs) (hql : q.len ≤ j) (hn : nice (.cons o2 n2 t2 k2 r) = true) (hE : Ext w w') (hf : fits (o, n, t, k) o2 t2 = false) :
  FuMid w P rest b off fs (j + 1) (.slice (some ⟨G, 0, none⟩) (Q + 1 + 1) cap) w' := by
 have hD2 : niceD (o2, n2, t2, k2) = true := by simp only [nice, Bool.and_eq_true] at hn; exact Bool.and_eq_true_iff.2 hn.1
 have hr' : nice r = true := by simp only [nice, Bool.and_eq_true] at hn; exact hn.2
 subst hQ
 rw [fz_no hf] at h3
 have hl : (q.app (.cons o n t k .nil)).len = q.len + 1 := by rw [F.len_app]; rfl
 refine ⟨q.app (.cons o n t k .nil), o2, n2, t2, k2, p.app (.cons o2 n2 t2 k2 .nil), r, G, cap, gs ++ f1, f2, by rw [h1, F.app_assoc]; rfl, by rw [F.len_app, h2]; rfl, by rw [h3, F.app_assoc]; rfl, by rw [hl], hG1, hG2, hA, ?_, by rw [List.append_assoc]; exact hsub, by rw [hl]; omega, hD2, hr', hE⟩
 rw [show off + (j + 1) * 4 = off + j * 4 + 4 by omega]; exact hR
end Go.Proofs.Ytjcaiecapapceaa.Nf
namespace Go.Proofs.Ytjcaiecapapceaa.Nf
open Go.RowKit P1 Copy CatD
end Go.Proofs.Ytjcaiecapapceaa.Nf
namespace Go.Proofs.Ytjcaiecapapceaa.Nf
open Go.RowKit P1 Copy
def SpOut (lo : Nat) (w : World) (v : Value) (fs0 : List Nat) (p : F) (e : Ending) (w' : World) : Prop := ∃ (v' : Value) (fs : List Nat), e = .returned v' ∧ Grow w' 25 lo v' p fs ∧ Below lo w w' ∧
 (∀ q, q < w.heap.size → some q ≠ v.ownBlock → q ∉ fs0 → w'.heap[q]? = w.heap[q]?) ∧ (∀ q ∈ fs, some q = v.ownBlock ∨ q ∈ fs0 ∨ w.heap.size ≤ q) ∧ (∀ q, v'.ownBlock = some q → q ∈ fs)
theorem own_mem {w : World} {T : TypeId} {lo : Nat} {v : Value} {p : F} {fs : List Nat} (h : Grow w T lo v p fs) (hp : p ≠ .nil) : ∀ q, v.ownBlock = some q → q ∈ fs := by
 intro q hq
 rcases h.2.1 with ⟨h, _⟩ | ⟨b, cap, f', rfl, _, rfl, _⟩
 ·exact absurd h hp
 ·simp only [Value.ownBlock, Option.some.injEq] at hq
  subst hq; simp
theorem app_ne {p : F} {o n : Int} {t : ByteArray} {k r : F} : p.app (.cons o n t k r) ≠ .nil := by
 intro e
 have := congrArg F.len e
 rw [F.len_app] at this
 simp only [F.len] at this
 omega
theorem spine_one (w : World) (lo : Nat) (v : Value) (p : F) (fs0 : List Nat) (o n : Int) (t : ByteArray) (k k2 : F) (h7 : o ≠ 7) (hG : Grow w 25 lo v p fs0) (hl : p.len ≤ 100000) (a : Option Addr) (cap : Nat)
  (ih : ∀ W : World, Ext w W → Calls Try.prog 135 #[.agg #[.int .i64 o, .int .i64 n, .string t, .slice a k.len cap]] W (NewD W (o, n, t, k2))) :
  Calls Try.prog 119 #[v, .agg #[.int .i64 o, .int .i64 n, .string t, .slice a k.len cap]] w (SpOut lo w v fs0 (p.app (.cons o n t k2 .nil))) := by
 obtain ⟨i0, hi, hz0, hz1, hz2⟩ := info_parts To.info
 have HI := Lib.hid (And.intro hi (And.intro hz0 (And.intro hz1 hz2)))
 obtain ⟨L, hL⟩ : ∃ L, k.len = L := ⟨_, rfl⟩
 rw [hL] at ih ⊢
 have q7 : (o != 7) = true := by simpa using h7
 have HD := Lib.hid (fun ob => ih (w.alloc ob) ((Ext.refl w).alloc ob))
 have H := Lib.hid (And.intro hG hl)
 have hlo := hG.2.2.2
 clear ih hi hz0 hz1 hz2 hL h7 hG hl
 go_enter Try.func119, Try.ntmps119
 go_wp2_with (first
  | (go_at_call 135; refine (HD.out _).mono ?_; rintro e1 w1 ⟨a2, cap2, f2, rfl, hc2, hs2, hfr2, hb2⟩; simp only at hc2 hs2 ⊢; have hstep := fun (ob : Obj) => copy_mid (w1 := w1) (ob := ob) H.out.1 hb2; have H2 := Lib.hid (And.intro hs2 (And.intro hfr2 (And.intro hb2 hc2))); clear hs2 hfr2 hb2 hc2; have HST := Lib.hid hstep; clear hstep)
  | (at_builtin; refine append_doc2 rfl (.tmp 8) (.tmp 11) 23 rfl Try.underlying23 HI.out.1 HI.out.2.1 HI.out.2.2.1 HI.out.2.2.2 rfl rfl (HST.out _).1 (d := w1.heap.size) (c := 1) rfl (cell_new w1 _ _ 0 _ rfl) (cell_new w1 _ _ 1 _ rfl) (cell_new w1 _ _ 2 _ rfl) (cell_new w1 _ _ 3 _ rfl) H2.out.2.2.2 (H2.out.1.below H2.out.2.1.lt ((Below.refl _ _).alloc (Nat.le_refl _) _)) (H2.out.2.1.below H2.out.2.1.lt ((Below.refl _ _).alloc (Nat.le_refl _) _)) (HST.out (.cells #[] 0)).2.1 (HST.out (.cells #[] 0)).2.2.1 (HST.out (.cells #[] 0)).2.2.2.1 (by have := H.out.2; omega) ?_; intro v' w2 fs' hG' hb' hg' hm'))
 go_ret
 have hz1 := H2.out.2.2.1.size
 simp only [World.size_alloc] at hz1
 refine ⟨v', fs', rfl, hG', copy_end H2.out.2.2.1 hb' hlo, fun q hq hne _ => ?_, fun q hq => ?_, own_mem hG' app_ne⟩
 ·refine (hg'.block q (by simp; omega) hne).trans ((Below.heap_alloc _ _ _ (by omega)).trans ((H2.out.2.2.1.block q (by simp; omega)).trans (Below.heap_alloc _ _ _ hq)))
 ·rcases hm' q hq with h | h | h | h
  ·exact .inl h
  ·exact .inr (.inl h)
  ·have := (H2.out.2.1.2 q h).1; simp only [World.size_alloc] at this; exact .inr (.inr (by omega))
  ·simp only [World.size_alloc] at h; exact .inr (.inr (by omega))
theorem SpOut.step {lo : Nat} {w w1 w2 : World} {v v1 : Value} {fs0 fs1 : List Nat} {p : F} {e : Ending} (hm : ∀ q ∈ fs1, some q = v.ownBlock ∨ q ∈ fs0 ∨ w.heap.size ≤ q) (ho : ∀ q, v1.ownBlock = some q → q ∈ fs1) (hk : ∀ q, q < w.heap.size → some q ≠ v.ownBlock → q ∉ fs0 → w1.heap[q]? = w.heap[q]?) (hb : Below lo w w1)
  (h : SpOut lo w1 v1 fs1 p e w2) : SpOut lo w v fs0 p e w2 := by
 obtain ⟨v', fs, h1, h2, h3, h4, h5, h6⟩ := h
 have hz := hb.size
 refine ⟨v', fs, h1, h2, hb.trans h3, fun q hq hne hni => ?_, fun q hq => ?_, h6⟩
 ·have hni1 : q ∉ fs1 := fun h => by
   rcases hm q h with h | h | h
   ·exact hne h
   ·exact hni h
   ·omega
  exact (h4 q (Nat.lt_of_lt_of_le hq hz) (fun e => hni1 (ho q e.symm)) hni1).trans (hk q hq hne hni)
 ·rcases h5 q hq with h | h | h
  ·exact hm q (ho q h.symm)
  ·exact hm q h
  ·exact .inr (.inr (by omega))
theorem spine_two (w : World) (lo : Nat) (v : Value) (p : F) (fs0 : List Nat) (n : Int) (t : ByteArray) (o1 n1 : Int) (t1 : ByteArray) (k1 : F) (o2 n2 : Int) (t2 : ByteArray) (k2 : F) (P1 P2 : F) (hG : Grow w 25 lo v p fs0)
  (ih1 : ∀ (W : World) (v : Value) (fs0 : List Nat) (a : Option Addr) (cap : Nat) (fs : List Nat), Grow W 25 lo v p fs0 → SubAt W a k1 fs → (∀ c ∈ fs, c < lo) → k1.len ≤ cap → Calls Try.prog 119 #[v, .agg #[.int .i64 o1, .int .i64 n1, .string t1, .slice a k1.len cap]] W (SpOut lo W v fs0 (p.app P1)))
  (ih2 : ∀ (W : World) (v : Value) (fs0 : List Nat) (a : Option Addr) (cap : Nat) (fs : List Nat), Grow W 25 lo v (p.app P1) fs0 → SubAt W a k2 fs → (∀ c ∈ fs, c < lo) → k2.len ≤ cap → Calls Try.prog 119 #[v, .agg #[.int .i64 o2, .int .i64 n2, .string t2, .slice a k2.len cap]] W (SpOut lo W v fs0 ((p.app P1).app P2)))
  (a : Option Addr) (cap : Nat) (fs : List Nat) (hs : SubAt w a (.cons o1 n1 t1 k1 (.cons o2 n2 t2 k2 .nil)) fs) (hfs : ∀ c ∈ fs, c < lo) (hc : 2 ≤ cap) :
  Calls Try.prog 119 #[v, .agg #[.int .i64 7, .int .i64 n, .string t, .slice a 2 cap]] w (SpOut lo w v fs0 ((p.app P1).app P2)) := by
 have hlo := hG.2.2.2
 rcases hs with ⟨h, _⟩ | ⟨b, off, f', rfl, _, rfl, hrow⟩
 ·cases h
 have hb0 : b < lo := hfs b (by simp)
 obtain ⟨a1, c1, f1, a2, c2, f2, x0, x1, x2, x3, y0, y1, y2, y3, hc1, hc2, hs1, hs2, rfl⟩ := pair_at hrow
 have H1 := Lib.hid (fun (W : World) (v : Value) (fs0 : List Nat) (e : Below lo w W) (g : Grow W 25 lo v p fs0) => ih1 W v fs0 a1 c1 f1 g (hs1.below (fun c hc => hfs c (by simp [hc])) e) (fun c hc => hfs c (by simp [hc])) hc1)
 have H2 := Lib.hid (fun (W : World) (v : Value) (fs0 : List Nat) (e : Below lo w W) (g : Grow W 25 lo v (p.app P1) fs0) => ih2 W v fs0 a2 c2 f2 g (hs2.below (fun c hc => hfs c (by simp [hc])) e) (fun c hc => hfs c (by simp [hc])) hc2)
 obtain ⟨L1, hL1⟩ : ∃ L, k1.len = L := ⟨_, rfl⟩
 obtain ⟨L2, hL2⟩ : ∃ L, k2.len = L := ⟨_, rfl⟩
 rw [hL1] at x3 H1
 rw [hL2] at y3 H2
 have h8 : Eight8 b off (.int .i64 o1) (.int .i64 n1) (.string t1) (.slice a1 L1 c1) (.int .i64 o2) (.int .i64 n2) (.string t2) (.slice a2 L2 c2) w := ⟨x0, x1, x2, x3, y0, y1, y2, y3⟩
 have H8 := Lib.hid (show ∀ (W : World), Below lo w W → Eight8 b off (.int .i64 o1) (.int .i64 n1) (.string t1) (.slice a1 L1 c1) (.int .i64 o2) (.int .i64 n2) (.string t2) (.slice a2 L2 c2) W from fun W e => by
  obtain ⟨h0, h1, h2, h3, h4, h5, h6, h7⟩ := h8
  exact ⟨(e.cell (p := ⟨_, _, _⟩) hb0).trans h0, (e.cell (p := ⟨_, _, _⟩) hb0).trans h1, (e.cell (p := ⟨_, _, _⟩) hb0).trans h2, (e.cell (p := ⟨_, _, _⟩) hb0).trans h3, (e.cell (p := ⟨_, _, _⟩) hb0).trans h4, (e.cell (p := ⟨_, _, _⟩) hb0).trans h5, (e.cell (p := ⟨_, _, _⟩) hb0).trans h6, (e.cell (p := ⟨_, _, _⟩) hb0).trans h7⟩)
 have HB0 := Lib.hid (And.intro hb0 (And.intro hlo hG))
 have HW := Lib.hid (show ∀ x, Below lo w (w.alloc x) from fun x => (Below.refl lo w).alloc hlo x)
 have hb : b < w.heap.size := Nat.lt_of_lt_of_le hb0 hlo
 have HBX := Lib.hid (show (∀ q, v.ownBlock = some q → q ≠ w.heap.size) ∧ w.heap.size ∉ fs0 from ⟨fun q hq => by have := (hG.own_lt q hq).2; omega, fun h => by have := (hG.fresh.2 _ h).2.1; omega⟩)
 clear hfs hrow hs1 hs2 hc1 hc2 ih1 ih2 h8 hL1 hL2 hG hb0
 go_enter Try.func119, Try.ntmps119
 go_wp2_with fail
 go_region_law (first
  | (go_simp; go_at_call 119; refine (H2.out _ v1 fs1 ((HW.out _).trans HQ1.out.2.2.2.2) HQ1.out.1).mono ?_; rintro e2 w2 ⟨v2, fs2, rfl, hS2⟩; have HS2 := Lib.hid hS2; clear hS2)
  | (go_simp; go_at_call 119; refine (H1.out _ v fs0 (by first | exact (HW.out _).drew | exact HW.out _) (by first | exact (HB0.out.2.2.alloc _).drew | exact HB0.out.2.2.alloc _)).mono ?_; rintro e1 w1 ⟨v1, fs1, rfl, hG1, hB1, hk1, hm1, ho1⟩; have q01 : Below lo (w.alloc (.cells #[.int .i64 7, .int .i64 n, .string t, .slice (some ⟨b, off, none⟩) 2 cap] 25)) w1 := (by first | exact hB1 | exact (Below.refl _ _).drew.trans hB1); have hkk : ∀ q, q < (w.alloc (.cells #[.int .i64 7, .int .i64 n, .string t, .slice (some ⟨b, off, none⟩) 2 cap] 25)).heap.size → some q ≠ v.ownBlock → q ∉ fs0 → w1.heap[q]? = (w.alloc (.cells #[.int .i64 7, .int .i64 n, .string t, .slice (some ⟨b, off, none⟩) 2 cap] 25)).heap[q]? := hk1; have hmm : ∀ q ∈ fs1, some q = v.ownBlock ∨ q ∈ fs0 ∨ (w.alloc (.cells #[.int .i64 7, .int .i64 n, .string t, .slice (some ⟨b, off, none⟩) 2 cap] 25)).heap.size ≤ q := hm1; have z3 := (World.cell?_of_block (a := ⟨w.heap.size, 3, none⟩) (hkk w.heap.size (by simp) (fun e => HBX.out.1 _ e.symm rfl) HBX.out.2)).trans (World.cell?_alloc_new _ _ _ _); simp at z3; obtain ⟨x0, x1, x2, x3, y0, y1, y2, y3⟩ := H8.out w1 ((HW.out _).trans q01); have hb' := Nat.lt_of_lt_of_le HB0.out.1 (Nat.le_trans HB0.out.2.1 ((HW.out _).trans q01).size); have hl1 : w.heap.size < w1.heap.size := (by have := q01.size; simp at this; omega); have HQ1 := Lib.hid (And.intro hG1 (And.intro hmm (And.intro ho1 (And.intro hkk q01)))); clear hG1 hB1 hk1 hm1 ho1 hkk hmm q01))
 all_goals
  go_wp2_with fail
  go_ret
  refine SpOut.step (w1 := w1) (v1 := v1) (fs1 := fs1) (fun q hq => ?_) HQ1.out.2.2.1 (fun q hq hne hni => ?_) ((HW.out _).trans HQ1.out.2.2.2.2) ⟨v2, fs2, rfl, HS2.out⟩
  ·rcases HQ1.out.2.1 q hq with h | h | h
   ·exact .inl h
   ·exact .inr (.inl h)
   ·simp only [World.size_alloc] at h; exact .inr (.inr (by omega))
  ·exact (HQ1.out.2.2.2.1 q (by simp; omega) hne hni).trans (Below.heap_alloc _ _ _ hq)
def RiOne (m : Nat) : Prop := ∀ (W : World) (o n : Int) (t : ByteArray) (k : F) (a : Option Addr) (cap : Nat) (fs : List Nat), o ≠ 7 → k.deep ≤ m → niceD (o, n, t, k) = true → k.cnt ≤ 10000 → SubAt W a k fs → (∀ c ∈ fs, c < W.heap.size) → k.len ≤ cap →
 Calls Try.prog 135 #[.agg #[.int .i64 o, .int .i64 n, .string t, .slice a k.len cap]] W (NewD W (o, n, t, (pr (fun f => f) k).2))
theorem spine {m : Nat} (R1 : RiOne m) (M : Nat) : M ≤ m → ∀ (w : World) (lo : Nat) (v : Value) (p : F) (fs0 : List Nat) (o n : Int) (t : ByteArray) (k : F) (a : Option Addr) (cap : Nat) (fs : List Nat), k.deep ≤ M → niceD (o, n, t, k) = true → k.cnt ≤ 10000 → p.len + (psD (fun f => f) o n t k).len ≤ 100000 → Grow w 25 lo v p fs0 → SubAt w a k fs → (∀ c ∈ fs, c < lo) → k.len ≤ cap →
  Calls Try.prog 119 #[v, .agg #[.int .i64 o, .int .i64 n, .string t, .slice a k.len cap]] w (SpOut lo w v fs0 (p.app (psD (fun f => f) o n t k))) := by
 induction M with
 | zero =>
   intro _ w lo v p fs0 o n t k a cap fs hd hn hcnt hl hG hs hfs hc
   by_cases h7 : o = 7
   ·obtain ⟨x, y, rfl⟩ := kids_two hn h7
    simp only [consD, F.deep] at hd
    omega
   ·have e : psD (fun f => f) o n t k = .cons o n t (pr (fun f => f) k).2 .nil := by unfold psD; rw [if_neg h7]
    rw [e]
    exact spine_one w lo v p fs0 o n t k _ h7 hG (by omega) a cap (fun W hW => R1 W o n t k a cap fs h7 (by omega) hn hcnt (hW.sub hs (fun c hc => Nat.lt_of_lt_of_le (hfs c hc) hG.2.2.2)) (fun c hc => Nat.lt_of_lt_of_le (hfs c hc) (Nat.le_trans hG.2.2.2 hW.size)) hc)
 | succ M ih =>
   intro hM w lo v p fs0 o n t k a cap fs hd hn hcnt hl hG hs hfs hc
   by_cases h7 : o = 7
   ·subst h7
    have hnk := (nice_kids hn).2
    obtain ⟨⟨o1, n1, t1, k1⟩, ⟨o2, n2, t2, k2⟩, rfl⟩ := kids_two hn rfl
    have hk1 : niceD (o1, n1, t1, k1) = true := by simp only [consD, nice, Bool.and_eq_true] at hnk; exact Bool.and_eq_true_iff.2 hnk.1
    have hk2 : niceD (o2, n2, t2, k2) = true := by simp only [consD, nice, Bool.and_eq_true] at hnk; exact Bool.and_eq_true_iff.2 hnk.2.1
    have e : psD (fun f => f) 7 n t (consD (o1, n1, t1, k1) (consD (o2, n2, t2, k2) .nil)) = (psD (fun f => f) o1 n1 t1 k1).app (psD (fun f => f) o2 n2 t2 k2) := by
     show (psD (fun f => f) o1 n1 t1 k1).app ((psD (fun f => f) o2 n2 t2 k2).app .nil) = _
     rw [F.app_nil]
    rw [e, F.len_app] at hl
    simp only [consD, F.deep, F.cnt] at hd hcnt
    rw [e, ← F.app_assoc]
    exact spine_two w lo v p fs0 n t o1 n1 t1 k1 o2 n2 t2 k2 _ _ hG
     (fun W v fs0 a cap fs g hs hfs hc => ih (by omega) W lo v p fs0 o1 n1 t1 k1 a cap fs (by omega) hk1 (by omega) (by omega) g hs hfs hc)
     (fun W v fs0 a cap fs g hs hfs hc => ih (by omega) W lo v _ fs0 o2 n2 t2 k2 a cap fs (by omega) hk2 (by omega) (by rw [F.len_app]; omega) g hs hfs hc) a cap fs hs hfs hc
   ·have e : psD (fun f => f) o n t k = .cons o n t (pr (fun f => f) k).2 .nil := by unfold psD; rw [if_neg h7]
    rw [e]
    exact spine_one w lo v p fs0 o n t k _ h7 hG (by omega) a cap (fun W hW => R1 W o n t k a cap fs h7 (by omega) hn hcnt (hW.sub hs (fun c hc => Nat.lt_of_lt_of_le (hfs c hc) hG.2.2.2)) (fun c hc => Nat.lt_of_lt_of_le (hfs c hc) (Nat.le_trans hG.2.2.2 hW.size)) hc)
end Go.Proofs.Ytjcaiecapapceaa.Nf
namespace Go.Proofs.Ytjcaiecapapceaa.Nf
open Go.RowKit P1 Copy CatD
def RiS (f : F) : Prop := ∀ (w : World) (o n : Int) (t : ByteArray) (k : F) (p r : F) (a : Option Addr) (cap : Nat) (fs : List Nat), f = p.app (.cons o n t k r) → nice f = true → f.cnt ≤ 10000 → SubAt w a k fs → (∀ c ∈ fs, c < w.heap.size) → k.len ≤ cap →
 Calls Try.prog 135 #[.agg #[.int .i64 o, .int .i64 n, .string t, .slice a k.len cap]] w (NewD w (rowD (fun f => f) o n t k))
theorem ri_one (w : World) (o n : Int) (t : ByteArray) (k : F) (ih : RiS k) (hn : niceD (o, n, t, k) = true) (hcnt : k.cnt ≤ 10000) (a : Option Addr) (cap : Nat) (fs : List Nat) (hs : SubAt w a k fs) (hfs : ∀ c ∈ fs, c < w.heap.size) (hc : k.len ≤ cap) (h7 : o ≠ 7) :
  Calls Try.prog 135 #[.agg #[.int .i64 o, .int .i64 n, .string t, .slice a k.len cap]] w (NewD w (o, n, t, mapL (rowD (fun f => f)) k)) := by
 have hnk : nice k = true := (nice_kids hn).2
 obtain ⟨φ, hφφ⟩ : ∃ φ, rowD (fun f => f) = φ := ⟨_, rfl⟩
 have ih := fun (w : World) (o n : Int) (t : ByteArray) (k1 : F) (p r : F) (a : Option Addr) (cap : Nat) (fs : List Nat) (h : k = p.app (.cons o n t k1 r)) => ih w o n t k1 p r a cap fs h hnk hcnt
 rw [hφφ] at ih
 rw [hφφ]
 have q7 : (o == 7) = false := by rw [beq_eq_false_iff_ne]; exact h7
 obtain ⟨i0, hi, hz0, hz1, hz2⟩ := info_parts To.info
 obtain ⟨L, hL⟩ : ∃ L, k.len = L := ⟨_, rfl⟩
 rw [hL] at hc ⊢
 have HL := Lib.hid hL
 have HML := Lib.hid (show (mapL φ k).len = L by rw [len_mapL, hL])
 have hL4 : L ≤ 4194304 := by have := F.len_le_cnt k; omega
 clear hL
 have hsub : 0 < L → ∃ b off f', a = some ⟨b, off, none⟩ ∧ RowAt w k b off f' ∧ b < w.heap.size ∧ ∀ c ∈ f', c < w.heap.size := by
  intro h0
  rcases hs with ⟨rfl, rfl⟩ | ⟨b, off, f', rfl, hnil, rfl, hrow⟩
  ·have := HL.out; simp only [F.len] at this; omega
  ·exact ⟨b, off, f', rfl, hrow, hfs b (by simp), fun c hc => hfs c (by simp [hc])⟩
 have HSUB := Lib.hid hsub
 have IH := Lib.hid ih
 have HI := Lib.hid (And.intro hi (And.intro hz0 (And.intro hz1 hz2)))
 have HST := Lib.hid (kd_start w o n t (.slice a L cap) φ k 25)
 clear hsub hs hfs ih hi hz0 hz1 hz2 hnk hn hcnt
 go_enter Try.func135, Try.ntmps135
 go_wp2_with fail
 go_loopw [6, 7] (fun v i wr => KdAt w o n t (.slice a L cap) φ k v i wr) (fun _ i _ => L - (intOf i).toNat)
 case atStart => exact HST.out
 case round =>
  obtain ⟨j, p, g, fs1, rfl, h3, h5, hG, hbw, hfv, hzb⟩ := hrel
  have h7 : g.len = L - j := by have := HL.out; rw [h3, F.len_app, h5] at this; omega
  have hjL0 : j ≤ L := by have := HL.out; rw [h3, F.len_app, h5] at this; omega
  obtain ⟨x0, x1, x2, x3⟩ := hfv
  have hsz0 : w.heap.size + 1 < wr.heap.size := hzb.2.2
  cases g with
  | nil =>
    have hjL : L = j := by simp only [F.len] at h7; omega
    subst hjL
    rw [F.app_nil] at h3
    subst h3
    obtain ⟨a', cap', rfl, hcap', hsub', hcm⟩ := hG.slice
    obtain ⟨⟨z0, z1, z2, z3⟩, ⟨z4, z5, z6, z7⟩, z8⟩ := hzb
    have HQ := Lib.hid (And.intro hsub' (And.intro hG.fresh (And.intro hbw hcap')))
    clear hG hbw hsub' h7 hcm hcap' h5 hjL0
    rw [HML.out]
    have hsubK := HQ.out.1
    have hl0 : w.heap.size < wr.heap.size := by omega
    have HZB := Lib.hid (show ZBox wr (w.heap.size + 1) from ⟨⟨z0, z1, z2, z3⟩, ⟨z4, z5, z6, z7⟩, z8⟩)
    go_wp2_with (first
     | (go_at_call 122; refine (specEmpty _ _ _ _ _ _ _).mono ?_; rintro e1 w3 ⟨rfl, rfl⟩)
     | (go_at_call 79; refine (specMap _ _ _ _ _ _ _ _ _ _).mono ?_; rintro e1 w3 ⟨rfl, hb3⟩; have q3 : Ext wr w3 := (by first | exact hb3 | exact ((Ext.refl wr).alloc _).trans hb3 | exact (((Ext.refl wr).alloc _).alloc _).trans hb3); obtain ⟨⟨z0, z1, z2, z3⟩, ⟨z4, z5, z6, z7⟩, z8⟩ := HZB.out.ext q3))
    refine bodyPost_ret (v := .agg #[.int .i64 o, .int .i64 n, .string t, .slice a' L cap']) (by simp [results, Try.results135, go_sem, z0, z1, z2, z3, z4, z5, z6, z7, z8, hl0]) rfl ?_
    obtain ⟨hs9, hF9, _, hc9⟩ := HQ.out
    refine end_but (x := w.heap.size + 1) (lo := w.heap.size + 2) (w3 := wr) HML.out hs9 hF9 hc9 (by omega) (by omega) HQ.out.2.2.1 (by repeat (first | exact But.of_below q3 | exact But.refl _ _ _ | refine But.setCell ?_ (Or.inl (by rfl)) _ | refine But.alloc ?_ (by simp) _))
  | cons o1 n1 t1 k1 r1 =>
    have hjL : j < L := by simp only [F.len] at h7; omega
    obtain ⟨b, off, f', rfl, hrow, hbB, hfB⟩ := HSUB.out (by omega)
    rw [h3] at hrow
    obtain ⟨a1, cap1, f1, c0, c1, c2, c3, hc1', hsub1, hin⟩ := row_at hrow
    rw [h5] at c0 c1 c2 c3
    rw [← hbw.cell (p := ⟨_, _, _⟩) hbB] at c0 c1 c2 c3
    have hd := fun (W1 : World) (hw1 : Ext wr W1) => IH.out W1 o1 n1 t1 k1 p r1 a1 cap1 f1 h3 (hsub1.below (fun c hc => hfB c (hin c hc)) (hbw.trans (hw1.mono hbw.size))) (fun c hc => Nat.lt_of_lt_of_le (hfB c (hin c hc)) (Nat.le_trans hbw.size hw1.size)) hc1'
    obtain ⟨⟨o2, n2, t2, k2⟩, hφ⟩ : ∃ d : D, φ o1 n1 t1 k1 = d := ⟨_, rfl⟩
    rw [hφ] at hd
    have HD := Lib.hid hd
    have H := Lib.hid (And.intro h3 (And.intro h5 (And.intro hG (And.intro hbw hzb))))
    have HF := Lib.hid hφ
    have i0' : (0 : Int) ≤ (j : Int) := Int.natCast_nonneg _
    have i1 : (j : Int) < (L : Int) := by omega
    have HX := Lib.hid (show Four w.heap.size (.int .i64 o) (.int .i64 n) (.string t) (.slice (some ⟨b, off, none⟩) L cap) wr from ⟨x0, x1, x2, x3⟩)
    clear hd h3 h5 h7 hbw hrow hG hφ hzb
    go_wp2_with (first
     | (go_at_call 135; refine (HD.out _ (by exact Ext.refl _)).mono ?_; rintro e1 w1 ⟨a2, cap2, f2, rfl, hc2, hs2, hfr2, hb2⟩; have HST2 := Lib.hid (fun ob => mid_d (ob := ob) H.out.2.2.1 hb2); have H2 := Lib.hid (And.intro hs2 (And.intro hfr2 (And.intro hb2 hc2))); clear hs2 hfr2 hb2 hc2 c0 c1 c2 c3)
     | (at_builtin; refine append_doc rfl (.tmp 42) (.tmp 49) 23 rfl Try.underlying23 HI.out.1 HI.out.2.1 HI.out.2.2.1 HI.out.2.2.2 rfl rfl (HST2.out _).1 (d := w1.heap.size) (c := 1) rfl (cell_new w1 _ _ 0 _ rfl) (cell_new w1 _ _ 1 _ rfl) (cell_new w1 _ _ 2 _ rfl) (cell_new w1 _ _ 3 _ rfl) H2.out.2.2.2 (H2.out.1.below H2.out.2.1.lt ((Below.refl _ _).alloc (Nat.le_refl _) _)) (H2.out.2.1.below H2.out.2.1.lt ((Below.refl _ _).alloc (Nat.le_refl _) _)) (HST2.out (.cells #[] 0)).2.1 (HST2.out (.cells #[] 0)).2.2.1 (HST2.out (.cells #[] 0)).2.2.2.1 (by rw [len_mapL]; have := H.out.2.1; omega) ?_; intro v' w2 fs' hG' hb' hg'))
    go_roundw
    case rel =>
     obtain ⟨h3, h5, hG, hbw, hzb⟩ := H.out
     have hch := mid_end H2.out.2.2.1 hb' hG.2.2.2
     refine ⟨j + 1, p.app (.cons o1 n1 t1 k1 .nil), r1, fs', by go_num, by rw [h3, F.app_assoc]; rfl, by rw [F.len_app, h5]; rfl, ?_, hbw.trans (hch.mono (by omega)), HX.out.below hch (by omega), zbox_below hzb hch (by omega)⟩
     rw [mapL_app, show mapL φ (.cons o1 n1 t1 k1 .nil) = .cons o2 n2 t2 k2 .nil by rw [mapL, HF.out]; rfl]
     exact hG'
    case measure => simp [intOf]; omega
theorem ri_oneOf {m : Nat} (ih : ∀ f : F, f.deep ≤ m → RiS f) : RiOne m := by
 intro W o n t k a cap fs h7 hd hn hc hs hfs hcap
 rw [pr_map]
 exact ri_one W o n t k (ih k hd) hn hc a cap fs hs hfs hcap h7
end Go.Proofs.Ytjcaiecapapceaa.Nf
namespace Go.Proofs.Ytjcaiecapapceaa.Nf
open Go.RowKit P1 Copy CatD
structure RpI (w1 : World) (lo : Nat) (p : F) (d : D) (b J : Nat) (p' g : F) (a : Option Addr) (c : Nat) (fp fJ : List Nat) (A : World) : Prop where
 split : p = p'.app g
 row : RowAt w1 p' b 0 fp
 var : DVar A J (catOn g d) a c
 sub : SubAt A a (catOn g d).2.2.2 fJ
 cap : (catOn g d).2.2.2.len ≤ c
 fresh : Fresh lo A (fp ++ fJ)
 old : ∀ q ∈ fp, q < w1.heap.size
 apart : ∀ q ∈ fJ, q ≠ J
 ext : Ext w1 A
theorem RpI.round {w1 W X : World} {lo b J cJ c1 b2 : Nat} {p p1 p' g k1 kJ : F} {d : D} {aJ a1 : Option Addr} {fp f1 fJ : List Nat} {o1 n1 oJ nJ : Int} {t1 tJ : ByteArray} (h : RpI w1 lo p d b J p' g aJ cJ (fp ++ f1) fJ W) (hp : p' = p1.app (.cons o1 n1 t1 k1 .nil)) (hrow : RowAt w1 p1 b 0 fp)
  (hJ : w1.heap.size ≤ J) (hlo : lo ≤ w1.heap.size) (hd : catOn g d = (oJ, nJ, tJ, kJ)) (hz : W.heap.size ≤ X.heap.size) (hXo : ∀ q, q < W.heap.size → q ≠ J → X.heap[q]? = W.heap[q]?) (hXJ : X.heap[J]? = some (.cells #[.int .i64 7, .int .i64 0, .string ⟨#[]⟩, .slice (some ⟨b2, 0, none⟩) 2 2] 25 (0, 0))) (hXe : Ext w1 X)
  (hr2 : RowAt X (.cons o1 n1 t1 k1 (.cons oJ nJ tJ kJ .nil)) b2 0 (f1 ++ fJ)) (hb2 : W.heap.size ≤ b2) (hb2' : b2 < X.heap.size) (hf2 : ∀ o, X.frozen? ⟨b2, o, none⟩ = false) :
  RpI w1 lo p d b J p1 (.cons o1 n1 t1 k1 g) (some ⟨b2, 0, none⟩) 2 fp (b2 :: (f1 ++ fJ)) X := by
 have hfr := h.fresh
 have hJW : J < W.heap.size := (Array.getElem?_eq_some_iff.1 h.var).1
 have hall : ∀ q ∈ (fp ++ f1) ++ fJ, q < W.heap.size ∧ q ≠ J := fun q hq => ⟨(hfr.2 q hq).2.1, by
  rcases List.mem_append.1 hq with hq | hq
  ·have := h.old q hq; omega
  ·exact h.apart q hq⟩
 refine ⟨by rw [h.split, hp, F.app_assoc]; rfl, hrow, hXJ, ?_, Nat.le_refl 2, ⟨?_, fun q hq => ?_⟩, fun q hq => h.old q (by simp [hq]), ?_, hXe⟩
 ·show SubAt X _ (.cons o1 n1 t1 k1 (consD (catOn g d) .nil)) _
  rw [hd]
  exact .inr ⟨b2, 0, f1 ++ fJ, rfl, (by intro e; cases e), rfl, hr2⟩
 ·rw [List.perm_middle.nodup_iff, List.nodup_cons]
  have hnd := hfr.1
  rw [List.append_assoc] at hnd
  exact ⟨fun hm => by have := (hall _ (by rw [List.append_assoc]; exact hm)).1; omega, hnd⟩
 ·rcases (show q = b2 ∨ q ∈ (fp ++ f1) ++ fJ by simp at hq ⊢; rcases hq with hq | hq | hq | hq <;> simp [hq]) with rfl | hq
  ·exact ⟨by have := Ext.size h.ext; omega, hb2', hf2⟩
  ·exact ⟨(hfr.2 q hq).1, by have := (hall q hq).1; omega, fun x => (World.frozen?_of_block (w := W) (hXo q (hall q hq).1 (hall q hq).2)).trans ((hfr.2 q hq).2.2 x)⟩
 ·intro q hq
  rcases List.mem_cons.1 hq with rfl | hq
  ·omega
  ·rcases List.mem_append.1 hq with hq | hq
   ·have := h.old q (by simp [hq]); omega
   ·exact h.apart q hq
theorem ri_pair (w : World) (n : Int) (t : ByteArray) (k : F) (a : Option Addr) (cap : Nat) (lo : Nat) (p : F) (o9 n9 : Int) (t9 : ByteArray) (k9 : F) (hlo : lo = w.heap.size + 1 + 1) (hl : p.len ≤ 100000)
  (ih : ∀ (W : World) (v : Value), Ext w W → Grow W 25 lo v .nil [] → Calls Try.prog 119 #[v, .agg #[.int .i64 7, .int .i64 n, .string t, .slice a k.len cap]] W (SpOut lo W v [] (p.app (.cons o9 n9 t9 k9 .nil)))) :
  Calls Try.prog 135 #[.agg #[.int .i64 7, .int .i64 n, .string t, .slice a k.len cap]] w (NewD w (catOn p (o9, n9, t9, k9))) := by
 obtain ⟨L, hL⟩ : ∃ L, k.len = L := ⟨_, rfl⟩
 rw [hL] at ih ⊢
 have HIH := Lib.hid (fun x y z => ih (((w.alloc x).alloc y).alloc (.cells z 25)) (.slice (some ⟨w.heap.size + 1 + 1, 0, none⟩) 0 0) ((((Ext.refl w).alloc _).alloc _).alloc _))
 have HZ := Lib.hid (fun x => zbox_second w x 25)
 clear ih hL
 go_enter Try.func135, Try.ntmps135
 go_wp2_with fail
 have hgm := fun (x y : Obj) => (show Grow (((w.alloc x).alloc y).alloc (.cells #[] 25)) 25 lo (.slice (some ⟨w.heap.size + 1 + 1, 0, none⟩) 0 0) .nil [] from by
  have h := Grow.made ((w.alloc x).alloc y) 25 lo (by rw [hlo]; simp)
  have e : ((w.alloc x).alloc y).heap.size = w.heap.size + 1 + 1 := by simp
  rw [e] at h; exact h)
 refine (HIH.out _ _ #[] (hgm _ _)).mono ?_
 rintro e1 w1 ⟨v1, fs1, rfl, hG1, hB1, _, _, _⟩
 have HZ1 := Lib.hid (zbox_below (HZ.out _) (((Below.refl lo _).alloc (by rw [hlo]; simp) _).trans hB1) (by omega))
 have hE1 : Ext w w1 := Below.trans ((((Ext.refl w).alloc _).alloc _).alloc _) (hB1.mono (by omega))
 obtain ⟨b, cb, f', rfl, hfs, hrow⟩ : ∃ b c f', v1 = .slice (some ⟨b, 0, none⟩) (p.app (.cons o9 n9 t9 k9 .nil)).len c ∧ fs1 = b :: f' ∧ RowAt w1 (p.app (.cons o9 n9 t9 k9 .nil)) b 0 f' := by
  rcases hG1.2.1 with ⟨h, _⟩ | ⟨b, c, f', h1, _, h2, h3⟩
  ·exact absurd h app_ne
  ·exact ⟨b, c, f', h1, h2, h3⟩
 subst hfs
 have hfr := hG1.fresh
 obtain ⟨fp, f2, hr1, hr2, rfl⟩ := RowAt.app_iff.1 hrow
 obtain ⟨N, hN⟩ : ∃ N, p.len = N := ⟨_, rfl⟩
 rw [hN, Nat.mul_comm 4, Nat.zero_add] at hr2
 obtain ⟨a9, c9, g1, g2, d0, d1, d2, d3, hc9, hs9, hg2, rfl⟩ := RowAt.cons_iff.1 hr2
 have hg2' : g2 = [] := hg2
 subst hg2'
 rw [List.append_nil] at hfr
 rw [show (p.app (.cons o9 n9 t9 k9 .nil)).len = N + 1 by rw [F.len_app, hN]; rfl]
 obtain ⟨L9, hL9⟩ : ∃ L, k9.len = L := ⟨_, rfl⟩
 rw [hL9] at d3
 have i0 : (0 : Int) ≤ (N : Int) := Int.natCast_nonneg _
 have i1 : (N : Int) < ((N + 1 : Nat) : Int) := by omega
 have i2 : ((N + 1 : Nat) : Int) - 1 = (N : Int) := by omega
 have i3 : ((N + 1 : Nat) : Int) - 2 = (N : Int) - 1 := by omega
 have hN1 : N ≤ 100000 := by omega
 have hE0 := Lib.hid (show w.heap.size + 1 + 1 ≤ w1.heap.size ∧ True from ⟨by have h := hB1.size; simp at h; omega, trivial⟩)
 have hbl : b < w1.heap.size := (hfr.2 b (by simp)).2.1
 have H1 := Lib.hid (And.intro hr1 (And.intro hs9 (And.intro hc9 (And.intro hfr (And.intro hL9 hN)))))
 clear hr1 hs9 hc9 hfr hL9 hrow hr2 hG1 hB1 hN
 have hvar := fun (W : World) => World.alloc_heap_new W (.cells #[.int .i64 o9, .int .i64 n9, .string t9, .slice a9 L9 c9] 25)
 go_wp2_with fail
 go_loopw [5] (fun i wr => ∃ (q : Nat) (p' g : F) (aJ : Option Addr) (cJ : Nat) (fp' fJ : List Nat), q ≤ N ∧ i = .int .i64 ((q : Int) - 1) ∧ p'.len = q ∧ RpI w1 lo p (o9, n9, t9, k9) b w1.heap.size p' g aJ cJ fp' fJ wr) (fun i _ => (intOf i + 1).toNat)
 case atStart =>
  obtain ⟨hr1, hs9, hc9, hfr, hL9, hN⟩ := H1.out
  refine ⟨N, p, .nil, a9, c9, fp, g1, Nat.le_refl _, by rw [show (N : Int) + 1 - 2 = (N : Int) - 1 by omega], hN, (F.app_nil p).symm, hr1, ?_, hs9.below (fun c hc => (hfr.2 c (by simp [hc])).2.1) ((Ext.refl w1).alloc _), hc9, ?_, fun q hq => (hfr.2 q (by simp [hq])).2.1, fun q hq => by have := (hfr.2 q (by simp [hq])).2.1; omega, (Ext.refl w1).alloc _⟩
  ·subst hL9; exact hvar w1
  ·exact Fresh.below (lo := lo) ⟨(List.nodup_cons.1 hfr.1).2, fun q hq => hfr.2 q (by simp at hq ⊢; simp [hq])⟩ (fun c hc => (hfr.2 c (by simp at hc ⊢; simp [hc])).2.1) ((Ext.refl w1).alloc _)
 case round =>
  obtain ⟨q, p', g, aJ, cJ, fp', fJ, hq, rfl, hql, hI⟩ := hrel
  cases q with
  | zero =>
    have hp' : p' = .nil := F.len_eq_zero hql
    subst hp'
    obtain rfl : p = g := hI.split
    obtain ⟨⟨oJ, nJ, tJ, kJ⟩, hdJ⟩ : ∃ d : D, catOn p (o9, n9, t9, k9) = d := ⟨_, rfl⟩
    have hv := hI.var
    rw [hdJ] at hv
    have hv' : wr.heap[w1.heap.size]? = some (.cells #[.int .i64 oJ, .int .i64 nJ, .string tJ, .slice aJ kJ.len cJ] 25 (0, 0)) := hv
    have x0 : wr.cell? ⟨w1.heap.size, 0, none⟩ = some (.int .i64 oJ) := by simp [World.cell?, hv']
    have x1 : wr.cell? ⟨w1.heap.size, 1, none⟩ = some (.int .i64 nJ) := by simp [World.cell?, hv']
    have x2 : wr.cell? ⟨w1.heap.size, 2, none⟩ = some (.string tJ) := by simp [World.cell?, hv']
    have x3 : wr.cell? ⟨w1.heap.size, 3, none⟩ = some (.slice aJ kJ.len cJ) := by simp [World.cell?, hv']
    obtain ⟨⟨z0, z1, z2, z3⟩, ⟨z4, z5, z6, z7⟩, z8⟩ := HZ1.out.ext hI.ext
    have HH := Lib.hid (And.intro hI (And.intro hdJ hE1))
    rw [show ((0 : Nat) : Int) - 1 = -1 by omega]
    clear hI hdJ hv hv' hE1
    go_wp2_with fail
    refine bodyPost_ret (v := .agg #[.int .i64 oJ, .int .i64 nJ, .string tJ, .slice aJ kJ.len cJ]) (by simp [results, Try.results135, go_sem, z0, z1, z2, z3, z4, z5, z6, z7, z8]) rfl ?_
    obtain ⟨hI, hdJ, hE1⟩ := HH.out
    have hsub := hI.sub
    have hcp := hI.cap
    rw [hdJ] at hsub hcp ⊢
    refine end_new2 (lo := w.heap.size + 1) (hi := w.heap.size + 2) (B := lo) (w3 := wr) hsub ⟨(List.nodup_append.1 hI.fresh.1).2.1, fun q hq => hI.fresh.2 q (by simp [hq])⟩ hcp (by omega) (by omega) (by omega) (hE1.trans hI.ext) ?_
    repeat (first | exact Touch.refl _ _ _ | refine Touch.setCell ?_ (by simp) (by simp) _)
  | succ q =>
    obtain ⟨p1, o1, n1, t1, k1, r1, hsp, hpl⟩ := F.at_len p' q (by omega)
    have hr0 : r1 = .nil := F.len_eq_zero (by have := congrArg F.len hsp; rw [F.len_app] at this; simp only [F.len] at this; omega)
    subst hr0
    have hrow' := hI.row
    rw [hsp] at hrow'
    obtain ⟨fpp, f2, hrp, hr2, rfl⟩ := RowAt.app_iff.1 hrow'
    rw [hpl, Nat.mul_comm 4, Nat.zero_add] at hr2
    obtain ⟨a1, c1, f1, g2, e0, e1, e2, e3, hc1, hs1, hg2, rfl⟩ := RowAt.cons_iff.1 hr2
    have hg2' : g2 = [] := hg2
    subst hg2'
    rw [List.append_nil] at hI
    rw [← hI.ext.cell hbl] at e0 e1 e2 e3
    obtain ⟨⟨oJ, nJ, tJ, kJ⟩, hdJ⟩ : ∃ d : D, catOn g (o9, n9, t9, k9) = d := ⟨_, rfl⟩
    have hv := hI.var
    have hsub := hI.sub
    have hcp := hI.cap
    rw [hdJ] at hv hsub hcp
    have hv' : wr.heap[w1.heap.size]? = some (.cells #[.int .i64 oJ, .int .i64 nJ, .string tJ, .slice aJ kJ.len cJ] 25 (0, 0)) := hv
    have hJl : w1.heap.size < wr.heap.size := (Array.getElem?_eq_some_iff.1 hv').1
    have x0 : wr.cell? ⟨w1.heap.size, 0, none⟩ = some (.int .i64 oJ) := by simp [World.cell?, hv']
    have x1 : wr.cell? ⟨w1.heap.size, 1, none⟩ = some (.int .i64 nJ) := by simp [World.cell?, hv']
    have x2 : wr.cell? ⟨w1.heap.size, 2, none⟩ = some (.string tJ) := by simp [World.cell?, hv']
    have x3 : wr.cell? ⟨w1.heap.size, 3, none⟩ = some (.slice aJ kJ.len cJ) := by simp [World.cell?, hv']
    have hs1r := subAt_same hs1 (B := wr) (fun c hc => hI.ext.block c (hI.old c (by simp [hc])))
    have HC := Lib.hid (fun (W : World) (e : Ext wr W) => Draw2.l1Cat W o1 n1 t1 k1 a1 c1 f1 oJ nJ tJ kJ aJ cJ fJ (e.sub hs1r (fun c hc => (hI.fresh.2 c (by simp [hc])).2.1)) (e.sub hsub (fun c hc => (hI.fresh.2 c (by simp [hc])).2.1)) (fun c hc => Nat.lt_of_lt_of_le (hI.fresh.2 c (by simp [hc])).2.1 e.size) (fun c hc => Nat.lt_of_lt_of_le (hI.fresh.2 c (by simp [hc])).2.1 e.size) hc1 hcp)
    obtain ⟨M1, hM1⟩ : ∃ M, k1.len = M := ⟨_, rfl⟩
    obtain ⟨MJ, hMJ⟩ : ∃ M, kJ.len = M := ⟨_, rfl⟩
    rw [hM1] at e3 HC
    rw [hMJ] at x3 HC hv'
    have HV := Lib.hid hv'
    have HH := Lib.hid (And.intro hI (And.intro hdJ (And.intro hsp (And.intro hpl hrp))))
    have hbr : b < wr.heap.size := Nat.lt_of_lt_of_le hbl hI.ext.size
    have j0 : (0 : Int) ≤ (q : Int) := Int.natCast_nonneg _
    have j1 : (q : Int) < (N : Int) + 1 := by omega
    rw [show ((q + 1 : Nat) : Int) - 1 = (q : Int) by omega]
    clear hI hdJ hv hv' hsub hcp hsp hpl hrp hs1 hs1r hrow' hr2 hg2 hE1 hM1 hMJ
    go_wp2_with fail
    go_region_law (go_simp; go_at_call 73; refine (HC.out _ (by first | exact (Ext.refl wr).drew | exact Ext.refl wr)).mono ?_; rintro e9 w2 ⟨b2, rfl, hb1, hb2, hrow2, hfz2, hB2⟩; have q2 : Ext wr w2 := (by first | exact hB2 | exact (Ext.refl wr).drew.trans hB2); have hv2 := (q2.block _ hJl).trans HV.out; have y0 : w2.cell? ⟨w1.heap.size, 0, none⟩ = some (.int .i64 oJ) := (by simp [World.cell?, hv2]); have y1 : w2.cell? ⟨w1.heap.size, 1, none⟩ = some (.int .i64 nJ) := (by simp [World.cell?, hv2]); have y2 : w2.cell? ⟨w1.heap.size, 2, none⟩ = some (.string tJ) := (by simp [World.cell?, hv2]); have y3 : w2.cell? ⟨w1.heap.size, 3, none⟩ = some (.slice aJ MJ cJ) := (by simp [World.cell?, hv2]); have z0 : w2.frozen? ⟨w1.heap.size, 0, none⟩ = false := (by simp [World.frozen?, hv2]); have z1 : w2.frozen? ⟨w1.heap.size, 1, none⟩ = false := (by simp [World.frozen?, hv2]); have z2 : w2.frozen? ⟨w1.heap.size, 2, none⟩ = false := (by simp [World.frozen?, hv2]); have z3 : w2.frozen? ⟨w1.heap.size, 3, none⟩ = false := (by simp [World.frozen?, hv2]); have H2 := Lib.hid (And.intro hb1 (And.intro hb2 (And.intro hrow2 (And.intro hfz2 (And.intro q2 hv2))))); clear hb1 hb2 hrow2 hfz2 hB2 hv2)
    all_goals
     go_wp2_with fail
     go_roundw
     case rel =>
      obtain ⟨hI, hdJ, hsp, hpl, hrp⟩ := HH.out
      obtain ⟨hb1, hb2, hrow2, hfz2, q2, hv2⟩ := H2.out
      have hXJ := set_four hv2 (.int .i64 7) (.int .i64 0) (.string ⟨#[]⟩) (.slice (some ⟨b2, 0, none⟩) 2 2)
      have hXo : ∀ i, i ≠ w1.heap.size → ((((w2.setCell ⟨w1.heap.size, 0, none⟩ (.int .i64 7)).setCell ⟨w1.heap.size, 1, none⟩ (.int .i64 0)).setCell ⟨w1.heap.size, 2, none⟩ (.string ⟨#[]⟩)).setCell ⟨w1.heap.size, 3, none⟩ (.slice (some ⟨b2, 0, none⟩) 2 2)).heap[i]? = w2.heap[i]? := fun i hi =>
       (((Below.heap_setCell _ _ _ i hi).trans (Below.heap_setCell _ _ _ i hi)).trans (Below.heap_setCell _ _ _ i hi)).trans (Below.heap_setCell _ _ _ i hi)
      have hb1' : wr.heap.size ≤ b2 := hb1
      have hap : ∀ c ∈ f1 ++ fJ, c ≠ w1.heap.size := fun c hc => by
       rcases List.mem_append.1 hc with hc | hc
       ·have := hI.old c (by simp [hc]); omega
       ·exact hI.apart c hc
      refine ⟨q, p1, .cons o1 n1 t1 k1 g, _, _, fpp, b2 :: (f1 ++ fJ), by omega, rfl, hpl, hI.round (a1 := a1) (c1 := c1) hsp hrp (Nat.le_refl _) (by have := hE0.out.1; omega) hdJ (by simp; exact q2.size) (fun i hi hne => (hXo i hne).trans (q2.block i hi)) hXJ ?_ ?_ hb1' (by simp; exact hb2) ?_⟩
      ·exact ((((Below.setCell (hI.ext.trans q2) (p := ⟨w1.heap.size, 0, none⟩) (by simp) _).setCell (p := ⟨w1.heap.size, 1, none⟩) (by simp) _).setCell (p := ⟨w1.heap.size, 2, none⟩) (by simp) _).setCell (p := ⟨w1.heap.size, 3, none⟩) (by simp) _)
      ·exact hrow2.congr' (fun o' _ _ => World.cell?_of_block (w := w2) (a := ⟨b2, o', none⟩) (hXo b2 (by omega))) (fun c hc o' => World.cell?_of_block (w := w2) (a := ⟨c, o', none⟩) (hXo c (hap c hc)))
      ·exact fun o' => (World.frozen?_of_block (w := w2) (a := ⟨b2, o', none⟩) (hXo b2 (by omega))).trans (hfz2 o')
     case measure => first | (simp [intOf]; done) | (simp [intOf]; omega)
end Go.Proofs.Ytjcaiecapapceaa.Nf
namespace Go.Proofs.Ytjcaiecapapceaa.Nf
open Go.RowKit P1 Copy CatD
theorem ri_doc (w : World) (o n : Int) (t : ByteArray) (k : F) (ih : ∀ f : F, f.deep ≤ k.deep → RiS f) (hn : niceD (o, n, t, k) = true) (hcnt : k.cnt ≤ 10000) (a : Option Addr) (cap : Nat) (fs : List Nat) (hs : SubAt w a k fs) (hfs : ∀ c ∈ fs, c < w.heap.size) (hc : k.len ≤ cap) :
  Calls Try.prog 135 #[.agg #[.int .i64 o, .int .i64 n, .string t, .slice a k.len cap]] w (NewD w (rowD (fun f => f) o n t k)) := by
 by_cases h7 : o = 7
 ·subst h7
  have hl := (ri_parts hn).2
  obtain ⟨p, o9, n9, t9, k9, hsn⟩ := snoc_of (psD (fun f => f) 7 n t k) (ps_pos _ hn)
  have e : rowD (fun f => f) 7 n t k = catOn p (o9, n9, t9, k9) := by
   show catAll (psD (fun f => f) 7 n t k) = _
   rw [hsn, show F.cons o9 n9 t9 k9 .nil = consD (o9, n9, t9, k9) .nil from rfl, catAll_snoc]
  have hpl : p.len ≤ (psD (fun f => f) 7 n t k).len := by rw [hsn, F.len_app]; omega
  rw [e]
  refine ri_pair w n t k a cap (w.heap.size + 1 + 1) p o9 n9 t9 k9 rfl (by omega) (fun W v e g => ?_)
  have h := spine (ri_oneOf ih) k.deep (Nat.le_refl _) W (w.heap.size + 1 + 1) v .nil [] 7 n t k a cap fs (Nat.le_refl _) hn hcnt (by simp only [F.len]; omega) g (e.sub hs hfs) (fun c hc => by have := hfs c hc; omega) hc
  rw [hsn] at h
  exact h
 ·have e : rowD (fun f => f) o n t k = (o, n, t, mapL (rowD (fun f => f)) k) := by
   show catAll (psD (fun f => f) o n t k) = _
   unfold psD
   rw [if_neg h7, pr_map]; rfl
  rw [e]
  exact ri_one w o n t k (ih k (Nat.le_refl _)) hn hcnt a cap fs hs hfs hc h7
theorem riS (m : Nat) : ∀ f : F, f.deep ≤ m → RiS f := by
 induction m with
 | zero =>
   intro f hf w o n t k p r a cap fs he
   rw [he, F.deep_app] at hf; simp only [F.deep] at hf; omega
 | succ m ih =>
   intro f hf w o n t k p r a cap fs he hn hcnt hs hfs hc
   have hk : k.deep ≤ m := by rw [he, F.deep_app] at hf; simp only [F.deep] at hf; omega
   have hn' : niceD (o, n, t, k) = true := by
    rw [he, nice_app, Bool.and_eq_true] at hn
    exact (Bool.and_eq_true_iff.1 hn.2).1
   rw [he, F.cnt_app] at hcnt
   simp only [F.cnt] at hcnt
   exact ri_doc w o n t k (fun f hf => ih f (Nat.le_trans hf hk)) hn' (by omega) a cap fs hs hfs hc
end Go.Proofs.Ytjcaiecapapceaa.Nf
namespace Go.Proofs.Ytjcaiecapapceaa.Nf
open Go.RowKit P1 Copy CatD
theorem end_lo {w w3 w4 : World} {lo x : Nat} {o n : Int} {t : ByteArray} {k : F} {a : Option Addr} {cap : Nat} {fs : List Nat} (hs : SubAt w3 a k fs) (hF : Fresh lo w3 fs) (hc : k.len ≤ cap) (hx : ∀ q ∈ fs, q ≠ x) (hw : w.heap.size ≤ x) (hb : Ext w w3) (ht : Touch x (x + 1) w3 w4) :
  LoOut lo w (o, n, t, k) (.returned (.agg #[.int .i64 o, .int .i64 n, .string t, .slice a k.len cap])) w4 :=
 ⟨a, cap, fs, rfl, hc, ht.sub hs (fun c h => by have := hx c h; omega), ht.fresh hF (fun c h => by have := hx c h; omega), ht.below hb hw⟩
theorem specOf (w : World) (lo : Nat) (p : F) (o9 n9 : Int) (t9 : ByteArray) (k9 : F) (b cap : Nat) (gs : List Nat) (hl : p.len ≤ 100000) (hlo : lo ≤ w.heap.size) (hrow : RowAt w (p.app (.cons o9 n9 t9 k9 .nil)) b 0 gs) (hfr : Fresh lo w (b :: gs)) :
  Calls Try.prog 120 #[.slice (some ⟨b, 0, none⟩) (p.len + 1) cap] w (LoOut lo w (catOn p (o9, n9, t9, k9))) := by
 have HZ0 := Lib.hid (ZBox.alloc w 25)
 obtain ⟨fp, f2, hr1, hr2, rfl⟩ := RowAt.app_iff.1 hrow
 obtain ⟨N, hN⟩ : ∃ N, p.len = N := ⟨_, rfl⟩
 rw [hN, Nat.mul_comm 4, Nat.zero_add] at hr2
 rw [hN]
 obtain ⟨a9, c9, g1, g2, d0, d1, d2, d3, hc9, hs9, hg2, rfl⟩ := RowAt.cons_iff.1 hr2
 have hg2' : g2 = [] := hg2
 subst hg2'
 rw [List.append_nil] at hfr
 obtain ⟨L9, hL9⟩ : ∃ L, k9.len = L := ⟨_, rfl⟩
 rw [hL9] at d3
 have i0 : (0 : Int) ≤ (N : Int) := Int.natCast_nonneg _
 have i1 : (N : Int) < ((N + 1 : Nat) : Int) := by omega
 have i2 : ((N + 1 : Nat) : Int) - 1 = (N : Int) := by omega
 have i3 : ((N + 1 : Nat) : Int) - 2 = (N : Int) - 1 := by omega
 have i4 : (N : Int) + 1 - 1 = (N : Int) := by omega
 have i5 : (N : Int) + 1 - 2 = (N : Int) - 1 := by omega
 have i6 : (N : Int) < (N : Int) + 1 := by omega
 have i7 : ¬ ((N : Int) + 1 = 0) := by omega
 have i8 : ((N : Int) + 1 == 0) = false := by rw [beq_eq_false_iff_ne]; omega
 have hN1 : N ≤ 100000 := by omega
 have hbl : b < w.heap.size := (hfr.2 b (by simp)).2.1
 have hbl1 : b < (w.alloc (.cells #[.int .i64 0, .int .i64 0, .string ⟨#[]⟩, .slice none 0 0] 25)).heap.size := by simp; omega
 have H1 := Lib.hid (And.intro hr1 (And.intro hs9 (And.intro hc9 (And.intro hfr (And.intro hL9 hN)))))
 clear hr1 hs9 hc9 hfr hL9 hrow hr2 hN
 have hvar := (show ∀ (x y : Obj), ((w.alloc x).alloc y).heap[w.heap.size + 1]? = some y from fun x y => by have := World.alloc_heap_new (w.alloc x) y; simp only [World.size_alloc] at this; exact this)
 go_enter Try.func120, Try.ntmps120
 go_wp2_with fail
 go_loopw [4] (fun i wr => ∃ (q : Nat) (p' g : F) (aJ : Option Addr) (cJ : Nat) (fp' fJ : List Nat), q ≤ N ∧ i = .int .i64 ((q : Int) - 1) ∧ p'.len = q ∧ RpI (w.alloc (.cells #[.int .i64 0, .int .i64 0, .string ⟨#[]⟩, .slice none 0 0] 25)) lo p (o9, n9, t9, k9) b (w.heap.size + 1) p' g aJ cJ fp' fJ wr ∧ ∀ q ∈ fp' ++ fJ, q ≠ w.heap.size) (fun i _ => (intOf i + 1).toNat)
 case atStart =>
  obtain ⟨hr1, hs9, hc9, hfr, hL9, hN⟩ := H1.out
  have hlt : ∀ c ∈ b :: (fp ++ g1), c < w.heap.size := fun c hc => (hfr.2 c hc).2.1
  refine ⟨N, p, .nil, a9, c9, fp, g1, Nat.le_refl _, by first | rfl | (rw [i5]) | (rw [i3]), hN, ⟨(F.app_nil p).symm, hr1.below (hlt b (by simp)) (fun c hc => hlt c (by simp [hc])) ((Ext.refl w).alloc _), ?_, hs9.below (fun c hc => hlt c (by simp [hc])) (((Ext.refl w).alloc _).alloc _), hc9, ?_, fun q hq => by have := hlt q (by simp [hq]); simp; omega, fun q hq => by have := hlt q (by simp [hq]); omega, (Ext.refl _).alloc _⟩, fun q hq => by have := hlt q (by simp at hq ⊢; simp [hq]); omega⟩
  ·subst hL9; exact hvar _ _
  ·exact Fresh.below (lo := lo) ⟨(List.nodup_cons.1 hfr.1).2, fun q hq => hfr.2 q (by simp at hq ⊢; simp [hq])⟩ (fun c hc => hlt c (by simp at hc ⊢; simp [hc])) (((Ext.refl w).alloc _).alloc _)
 case round =>
  obtain ⟨q, p', g, aJ, cJ, fp', fJ, hq, rfl, hql, hI, hap0⟩ := hrel
  have HAP := Lib.hid hap0
  clear hap0
  cases q with
  | zero =>
    have hp' : p' = .nil := F.len_eq_zero hql
    subst hp'
    obtain rfl : p = g := hI.split
    obtain ⟨⟨oJ, nJ, tJ, kJ⟩, hdJ⟩ : ∃ d : D, catOn p (o9, n9, t9, k9) = d := ⟨_, rfl⟩
    have hv := hI.var
    rw [hdJ] at hv
    have hv' : wr.heap[w.heap.size + 1]? = some (.cells #[.int .i64 oJ, .int .i64 nJ, .string tJ, .slice aJ kJ.len cJ] 25 (0, 0)) := hv
    have x0 : wr.cell? ⟨w.heap.size + 1, 0, none⟩ = some (.int .i64 oJ) := by simp [World.cell?, hv']
    have x1 : wr.cell? ⟨w.heap.size + 1, 1, none⟩ = some (.int .i64 nJ) := by simp [World.cell?, hv']
    have x2 : wr.cell? ⟨w.heap.size + 1, 2, none⟩ = some (.string tJ) := by simp [World.cell?, hv']
    have x3 : wr.cell? ⟨w.heap.size + 1, 3, none⟩ = some (.slice aJ kJ.len cJ) := by simp [World.cell?, hv']
    obtain ⟨⟨z0, z1, z2, z3⟩, ⟨z4, z5, z6, z7⟩, z8⟩ := HZ0.out.ext hI.ext
    have HH := Lib.hid (And.intro hI hdJ)
    rw [show ((0 : Nat) : Int) - 1 = -1 by omega]
    clear hI hdJ hv hv'
    go_wp2_with fail
    refine bodyPost_ret (v := .agg #[.int .i64 oJ, .int .i64 nJ, .string tJ, .slice aJ kJ.len cJ]) (by simp [results, Try.results120, go_sem, z0, z1, z2, z3, z4, z5, z6, z7, z8]) rfl ?_
    obtain ⟨hI, hdJ⟩ := HH.out
    have hsub := hI.sub
    have hcp := hI.cap
    rw [hdJ] at hsub hcp ⊢
    refine end_lo (x := w.heap.size) hsub ⟨(List.nodup_append.1 hI.fresh.1).2.1, fun q hq => hI.fresh.2 q (by simp [hq])⟩ hcp (fun q hq => HAP.out q (by simp [hq])) (Nat.le_refl _) (Ext.trans ((Ext.refl w).alloc _) hI.ext) ?_
    repeat (first | exact Touch.refl _ _ _ | refine Touch.setCell ?_ (by simp) (by simp) _)
  | succ q =>
    obtain ⟨p1, o1, n1, t1, k1, r1, hsp, hpl⟩ := F.at_len p' q (by omega)
    have hr0 : r1 = .nil := F.len_eq_zero (by have := congrArg F.len hsp; rw [F.len_app] at this; simp only [F.len] at this; omega)
    subst hr0
    have hrow' := hI.row
    rw [hsp] at hrow'
    obtain ⟨fpp, f2, hrp, hr2, rfl⟩ := RowAt.app_iff.1 hrow'
    rw [hpl, Nat.mul_comm 4, Nat.zero_add] at hr2
    obtain ⟨a1, c1, f1, g2, e0, e1, e2, e3, hc1, hs1, hg2, rfl⟩ := RowAt.cons_iff.1 hr2
    have hg2' : g2 = [] := hg2
    subst hg2'
    rw [List.append_nil] at hI
    rw [← hI.ext.cell hbl1] at e0 e1 e2 e3
    obtain ⟨⟨oJ, nJ, tJ, kJ⟩, hdJ⟩ : ∃ d : D, catOn g (o9, n9, t9, k9) = d := ⟨_, rfl⟩
    have hv := hI.var
    have hsub := hI.sub
    have hcp := hI.cap
    rw [hdJ] at hv hsub hcp
    have hv' : wr.heap[w.heap.size + 1]? = some (.cells #[.int .i64 oJ, .int .i64 nJ, .string tJ, .slice aJ kJ.len cJ] 25 (0, 0)) := hv
    have hJl : w.heap.size + 1 < wr.heap.size := (Array.getElem?_eq_some_iff.1 hv').1
    have x0 : wr.cell? ⟨w.heap.size + 1, 0, none⟩ = some (.int .i64 oJ) := by simp [World.cell?, hv']
    have x1 : wr.cell? ⟨w.heap.size + 1, 1, none⟩ = some (.int .i64 nJ) := by simp [World.cell?, hv']
    have x2 : wr.cell? ⟨w.heap.size + 1, 2, none⟩ = some (.string tJ) := by simp [World.cell?, hv']
    have x3 : wr.cell? ⟨w.heap.size + 1, 3, none⟩ = some (.slice aJ kJ.len cJ) := by simp [World.cell?, hv']
    have hs1r := subAt_same hs1 (B := wr) (fun c hc => hI.ext.block c (hI.old c (by simp [hc])))
    have HC := Lib.hid (fun (W : World) (e : Ext wr W) => Draw2.l1Cat W o1 n1 t1 k1 a1 c1 f1 oJ nJ tJ kJ aJ cJ fJ (e.sub hs1r (fun c hc => (hI.fresh.2 c (by simp [hc])).2.1)) (e.sub hsub (fun c hc => (hI.fresh.2 c (by simp [hc])).2.1)) (fun c hc => Nat.lt_of_lt_of_le (hI.fresh.2 c (by simp [hc])).2.1 e.size) (fun c hc => Nat.lt_of_lt_of_le (hI.fresh.2 c (by simp [hc])).2.1 e.size) hc1 hcp)
    obtain ⟨M1, hM1⟩ : ∃ M, k1.len = M := ⟨_, rfl⟩
    obtain ⟨MJ, hMJ⟩ : ∃ M, kJ.len = M := ⟨_, rfl⟩
    rw [hM1] at e3 HC
    rw [hMJ] at x3 HC hv'
    have HV := Lib.hid hv'
    have HH := Lib.hid (And.intro hI (And.intro hdJ (And.intro hsp (And.intro hpl hrp))))
    have hbr : b < wr.heap.size := Nat.lt_of_lt_of_le hbl1 hI.ext.size
    have j0 : (0 : Int) ≤ (q : Int) := Int.natCast_nonneg _
    have j1 : (q : Int) < (N : Int) + 1 := by omega
    rw [show ((q + 1 : Nat) : Int) - 1 = (q : Int) by omega]
    clear hI hdJ hv hv' hsub hcp hsp hpl hrp hs1 hs1r hrow' hr2 hg2 hM1 hMJ
    go_wp2_with fail
    go_region_law (go_simp; go_at_call 73; refine (HC.out _ (by first | exact (Ext.refl wr).drew | exact Ext.refl wr)).mono ?_; rintro e9 w2 ⟨b2, rfl, hb1, hb2, hrow2, hfz2, hB2⟩; have q2 : Ext wr w2 := (by first | exact hB2 | exact (Ext.refl wr).drew.trans hB2); have hv2 := (q2.block _ hJl).trans HV.out; have y0 : w2.cell? ⟨w.heap.size + 1, 0, none⟩ = some (.int .i64 oJ) := (by simp [World.cell?, hv2]); have y1 : w2.cell? ⟨w.heap.size + 1, 1, none⟩ = some (.int .i64 nJ) := (by simp [World.cell?, hv2]); have y2 : w2.cell? ⟨w.heap.size + 1, 2, none⟩ = some (.string tJ) := (by simp [World.cell?, hv2]); have y3 : w2.cell? ⟨w.heap.size + 1, 3, none⟩ = some (.slice aJ MJ cJ) := (by simp [World.cell?, hv2]); have z0 : w2.frozen? ⟨w.heap.size + 1, 0, none⟩ = false := (by simp [World.frozen?, hv2]); have z1 : w2.frozen? ⟨w.heap.size + 1, 1, none⟩ = false := (by simp [World.frozen?, hv2]); have z2 : w2.frozen? ⟨w.heap.size + 1, 2, none⟩ = false := (by simp [World.frozen?, hv2]); have z3 : w2.frozen? ⟨w.heap.size + 1, 3, none⟩ = false := (by simp [World.frozen?, hv2]); have H2 := Lib.hid (And.intro hb1 (And.intro hb2 (And.intro hrow2 (And.intro hfz2 (And.intro q2 hv2))))); clear hb1 hb2 hrow2 hfz2 hB2 hv2)
    all_goals
     go_wp2_with fail
     go_roundw
     case rel =>
      obtain ⟨hI, hdJ, hsp, hpl, hrp⟩ := HH.out
      obtain ⟨hb1, hb2, hrow2, hfz2, q2, hv2⟩ := H2.out
      have hXJ := set_four hv2 (.int .i64 7) (.int .i64 0) (.string ⟨#[]⟩) (.slice (some ⟨b2, 0, none⟩) 2 2)
      have hXo : ∀ i, i ≠ w.heap.size + 1 → ((((w2.setCell ⟨w.heap.size + 1, 0, none⟩ (.int .i64 7)).setCell ⟨w.heap.size + 1, 1, none⟩ (.int .i64 0)).setCell ⟨w.heap.size + 1, 2, none⟩ (.string ⟨#[]⟩)).setCell ⟨w.heap.size + 1, 3, none⟩ (.slice (some ⟨b2, 0, none⟩) 2 2)).heap[i]? = w2.heap[i]? := fun i hi =>
       (((Below.heap_setCell _ _ _ i hi).trans (Below.heap_setCell _ _ _ i hi)).trans (Below.heap_setCell _ _ _ i hi)).trans (Below.heap_setCell _ _ _ i hi)
      have hb1' : wr.heap.size ≤ b2 := hb1
      have hap : ∀ c ∈ f1 ++ fJ, c ≠ w.heap.size + 1 := fun c hc => by
       rcases List.mem_append.1 hc with hc | hc
       ·have := hI.old c (by simp [hc]); simp only [World.size_alloc] at this; omega
       ·exact hI.apart c hc
      refine ⟨q, p1, .cons o1 n1 t1 k1 g, _, _, fpp, b2 :: (f1 ++ fJ), by omega, rfl, hpl, hI.round (a1 := a1) (c1 := c1) hsp hrp (by simp) (by simp; omega) hdJ (by simp; exact q2.size) (fun i hi hne => (hXo i hne).trans (q2.block i hi)) hXJ ?_ ?_ hb1' (by simp; exact hb2) ?_, fun c hc => ?_⟩
      ·exact ((((Below.setCell (hI.ext.trans q2) (p := ⟨w.heap.size + 1, 0, none⟩) (by simp) _).setCell (p := ⟨w.heap.size + 1, 1, none⟩) (by simp) _).setCell (p := ⟨w.heap.size + 1, 2, none⟩) (by simp) _).setCell (p := ⟨w.heap.size + 1, 3, none⟩) (by simp) _)
      ·exact hrow2.congr' (fun o' _ _ => World.cell?_of_block (w := w2) (a := ⟨b2, o', none⟩) (hXo b2 (by omega))) (fun c hc o' => World.cell?_of_block (w := w2) (a := ⟨c, o', none⟩) (hXo c (hap c hc)))
      ·exact fun o' => (World.frozen?_of_block (w := w2) (a := ⟨b2, o', none⟩) (hXo b2 (by omega))).trans (hfz2 o')
      ·rcases List.mem_append.1 hc with hc | hc
       ·exact HAP.out c (by simp [hc])
       ·rcases List.mem_cons.1 hc with rfl | hc
        ·have := hJl; omega
        ·rcases List.mem_append.1 hc with hc | hc
         ·exact HAP.out c (by simp [hc])
         ·exact HAP.out c (by simp [hc])
     case measure => first | (simp [intOf]; done) | (simp [intOf]; omega)
end Go.Proofs.Ytjcaiecapapceaa.Nf
namespace Go.Proofs.Ytjcaiecapapceaa.Nf
open Go.RowKit P1 Copy CatD
def RowZ (lo : Nat) (w : World) (f : F) (e : Ending) (w' : World) : Prop := ∃ (g cap : Nat) (gs : List Nat), e = .returned (.slice (some ⟨g, 0, none⟩) f.len cap) ∧ RowAt w' f g 0 gs ∧ Fresh lo w' (g :: gs) ∧ Ext w w'
theorem FuMid.outZ {w wr : World} {P q : F} {lo G cap : Nat} {o n : Int} {t : ByteArray} {k : F} {gs fs : List Nat} (h3 : fzR P = q.app (fz (o, n, t, k) .nil)) (hA : PtAt w w.heap.size (.slice (some ⟨G, 0, none⟩) (q.len + 1) cap) (q.app (.cons o n t k .nil)) gs wr) (hsub : gs.Sublist fs) (hfr : Fresh lo w fs) (hlo : lo ≤ w.heap.size) (hE : Ext w wr) :
  RowZ lo w (fzR P) (.returned (.slice (some ⟨G, 0, none⟩) (q.len + 1) cap)) wr := by
 have e : fzR P = q.app (.cons o n t k .nil) := h3
 have hl : (q.app (.cons o n t k .nil)).len = q.len + 1 := by rw [F.len_app]; rfl
 rw [e]
 rw [← hl] at hA ⊢
 have hgs : ∀ c ∈ gs, c < w.heap.size := fun c hc => hfr.lt c (hsub.subset hc)
 have hne : q.app (.cons o n t k .nil) ≠ .nil := by intro e; have := congrArg F.len e; rw [hl] at this; simp [F.len] at this
 obtain ⟨s1, s2, s3, s4, s5⟩ := hA.sub hE hgs hne
 have hrow : RowAt wr (q.app (.cons o n t k .nil)) G 0 gs := by
  rcases s1 with ⟨h, _⟩ | ⟨b, off, f', e1, _, e2, h⟩
  ·exact absurd h hne
  ·injection e1 with e1
   injection e1 with e1 e3 _
   injection e2 with _ e2
   subst e1; subst e3; subst e2
   exact h
 refine ⟨_, cap, gs, rfl, hrow, ⟨List.nodup_cons.2 ⟨fun h => by have := hgs G h; omega, hsub.nodup hfr.1⟩, fun c hc => ?_⟩, hE⟩
 rcases List.mem_cons.1 hc with rfl | hc
 ·exact ⟨by omega, s3, s2⟩
 ·have h1 := hfr.2 c (hsub.subset hc)
  exact ⟨h1.1, Nat.lt_of_lt_of_le h1.2.1 hE.size, fun o => (World.frozen?_of_block (w := w) (hE.block c h1.2.1)).trans (h1.2.2 o)⟩
theorem FuMid.first {w wr : World} {o1 n1 : Int} {t1 : ByteArray} {k1 rest : F} {b off G cap : Nat} {f1 fr : List Nat} (hn : nice (.cons o1 n1 t1 k1 rest) = true) (hA : PtAt w w.heap.size (.slice (some ⟨G, 0, none⟩) (0 + 1) cap) (.cons o1 n1 t1 k1 .nil) f1 wr) (hG1 : w.heap.size ≤ G) (hG2 : G < wr.heap.size) (hr : RowAt w rest b off fr) (hE : Ext w wr) :
  FuMid w (.cons o1 n1 t1 k1 rest) rest b off (f1 ++ fr) 0 (.slice (some ⟨G, 0, none⟩) (0 + 1) cap) wr := by
 have hD : niceD (o1, n1, t1, k1) = true := by simp only [nice, Bool.and_eq_true] at hn; exact Bool.and_eq_true_iff.2 hn.1
 have hr' : nice rest = true := by simp only [nice, Bool.and_eq_true] at hn; exact hn.2
 exact ⟨.nil, o1, n1, t1, k1, .nil, rest, G, cap, f1, fr, rfl, rfl, rfl, rfl, hG1, hG2, hA, by rw [Nat.zero_mul]; exact hr, List.Sublist.refl _, Nat.le_refl _, hD, hr', hE⟩
def FuAny (w : World) (P rest : F) (b off : Nat) (fs : List Nat) (T : TypeId) (J : Nat) (v : Value) (wr : World) : Prop := (J = 0 ∧ v = .slice (some ⟨w.heap.size, 0, none⟩) 0 0 ∧ wr = w.alloc (.cells #[] T)) ∨ ∃ j, J = j + 1 ∧ FuMid w P rest b (off + 4) fs j v wr
theorem specFuse (w : World) (lo : Nat) (o1 n1 : Int) (t1 : ByteArray) (k1 rest : F) (b off cap : Nat) (fs : List Nat) (hn : nice (.cons o1 n1 t1 k1 rest) = true) (hl : rest.len ≤ 100000) (hr : RowAt w (.cons o1 n1 t1 k1 rest) b off fs) (hb : b < w.heap.size) (hfr : Fresh lo w fs) (hlo : lo ≤ w.heap.size) :
  Calls Try.prog 121 #[.slice (some ⟨b, off, none⟩) (rest.len + 1) cap] w (RowZ lo w (fz (o1, n1, t1, k1) rest)) := by
 obtain ⟨i0, hi, hz0, hz1, hz2⟩ := info_parts To.info
 have HI := Lib.hid (And.intro hi (And.intro hz0 (And.intro hz1 hz2)))
 obtain ⟨a1, c1, f1, fr, d0, d1, d2, d3, hc1, hs1, hrr, rfl⟩ := RowAt.cons_iff.1 hr
 obtain ⟨L1, hL1⟩ : ∃ L, k1.len = L := ⟨_, rfl⟩
 obtain ⟨N, hN⟩ : ∃ N, rest.len = N := ⟨_, rfl⟩
 rw [hL1] at d3
 rw [hN] at hl ⊢
 have H0 := Lib.hid (And.intro hn (And.intro hr (And.intro hb (And.intro hfr (And.intro hlo (And.intro hc1 (And.intro hs1 (And.intro hrr (And.intro hL1 hN)))))))))
 clear hn hr hfr hc1 hs1 hrr hL1 hN hi hz0 hz1 hz2
 go_enter Try.func121, Try.ntmps121
 go_wp2_with fail
 go_loopw [3, 4] (fun v i wr => ∃ J : Nat, J ≤ N + 1 ∧ i = .int .i64 J ∧ FuAny w (.cons o1 n1 t1 k1 rest) rest b off (f1 ++ fr) 25 J v wr) (fun _ i _ => N + 1 - (intOf i).toNat)
 case atStart => exact ⟨0, Nat.zero_le _, rfl, .inl ⟨rfl, rfl, rfl⟩⟩
 case round =>
  obtain ⟨J, hJ, rfl, hany⟩ := hrel
  obtain ⟨hn, hr, hb, hfr, hlo, hc1, hs1, hrr, hL1, hN⟩ := H0.out
  rcases hany with ⟨rfl, rfl, rfl⟩ | ⟨j, rfl, q, o, n, t, k, p, g, G, capG, gs, f2, h1, h2, h3, rfl, hG1, hG2, hA, hR, hsub, hql, hD, hng, hE⟩
  ·have HZ := Lib.hid (And.intro hn (And.intro hrr (And.intro hs1 (And.intro hc1 hL1))))
   have x0 := ((Ext.refl w).alloc (.cells #[] 25)).cell (o := off) hb |>.trans d0
   have x1 := ((Ext.refl w).alloc (.cells #[] 25)).cell (o := off + 1) hb |>.trans d1
   have x2 := ((Ext.refl w).alloc (.cells #[] 25)).cell (o := off + 2) hb |>.trans d2
   have x3 := ((Ext.refl w).alloc (.cells #[] 25)).cell (o := off + 3) hb |>.trans d3
   have hE1 : Ext w (w.alloc (.cells #[] 25)) := (Ext.refl w).alloc _
   have hA0 : PtAt w w.heap.size (.slice (some ⟨w.heap.size, 0, none⟩) 0 0) .nil [] (w.alloc (.cells #[] 25)) := ⟨[], w.ownsRow_made #[] 0 (Nat.le_refl _) (by simp [maxLen]) rfl, rfl, rfl⟩
   obtain ⟨W1, hW1⟩ : ∃ W, w.alloc (.cells #[] 25) = W := ⟨_, rfl⟩
   rw [hW1] at x0 x1 x2 x3 hE1 hA0 ⊢
   have hbW : b < W1.heap.size := Nat.lt_of_lt_of_le hb hE1.size
   have i1 : (0 : Int) < (N : Int) + 1 := by omega
   have HA0 := Lib.hid (And.intro hA0 hE1)
   clear hW1 hA0 hE1 d0 d1 d2 d3 hn hr hfr hlo hc1 hs1 hrr hL1 hN
   go_wp2_with fail
   go_quiet (fail)
   obtain ⟨V, hV⟩ : ∃ V, W1.drewN nq = V := ⟨_, rfl⟩
   have hEV : Ext W1 V := by rw [← hV]; exact ext_dn _ _
   rw [hV]
   have y0 := (hEV.cell hbW).trans x0
   have y1 := (hEV.cell hbW).trans x1
   have y2 := (hEV.cell hbW).trans x2
   have y3 := (hEV.cell hbW).trans x3
   have hbV : b < V.heap.size := Nat.lt_of_lt_of_le hbW hEV.size
   have HV := Lib.hid hEV
   clear hV hEV x0 x1 x2 x3
   go_wp2_with (at_builtin; refine Halt.out ?_)
   refine ⟨?_⟩
   obtain ⟨hA, hE⟩ := HA0.out
   obtain ⟨hn, hrr, hs1, hc1, hL1⟩ := HZ.out
   subst hL1
   have hAp := hA.later (Ext.trans HV.out ((Ext.refl V).alloc (.cells #[.int .i64 o1, .int .i64 n1, .string t1, .slice a1 k1.len c1] 25)))
   have hzz : w.heap.size ≤ (V.alloc (.cells #[.int .i64 o1, .int .i64 n1, .string t1, .slice a1 k1.len c1] 25)).heap.size := by have := hE.size; have := HV.out.size; simp; omega
   refine append_part rfl (.tmp 65) (.tmp 70) 23 rfl Try.underlying23 HI.out.1 HI.out.2.1 HI.out.2.2.1 HI.out.2.2.2 rfl rfl hAp (show F.nil.len = 0 from rfl) rfl (cell_new V _ _ 0 _ rfl) (cell_new V _ _ 1 _ rfl) (cell_new V _ _ 2 _ rfl) (cell_new V _ _ 3 _ rfl) hc1 hs1 (by omega) hzz ?_
   intro G' cap' w' hA' hB' hg' hG1' hG2'
   have hEE : Ext w w' := Below.trans (hE.trans (Ext.trans HV.out ((Ext.refl V).alloc _))) hB'
   have HQ := Lib.hid (And.intro hEE hA')
   clear hA hE hc1 hs1 hAp hzz hA' hB' hg' hEE hn hrr y0 y1 y2 y3
   go_wp2_with fail
   go_roundw
   case rel =>
    obtain ⟨hn, hrr, hs1, hc1, hL1⟩ := HZ.out
    exact ⟨1, by omega, rfl, .inr ⟨0, rfl, FuMid.first hn HQ.out.2 hG1' hG2' hrr HQ.out.1⟩⟩
   case measure => first | (simp [intOf]; done) | (simp [intOf]; omega)
  ·have h7 : g.len = N - j := by have := hN; rw [h1, F.len_app, h2] at this; omega
   have hjN0 : j ≤ N := by omega
   obtain ⟨Q, hQ⟩ : ∃ Q, q.len = Q := ⟨_, rfl⟩
   obtain ⟨J, hJJ⟩ : ∃ J, j + 1 = J := ⟨_, rfl⟩
   rw [hJJ] at hJ ⊢
   rw [show off + 4 + j * 4 = off + J * 4 by omega] at hR
   rw [hQ] at hA hql ⊢
   have hq1 : Q ≤ 100000 := by omega
   cases g with
   | nil =>
     have hjN : J = N + 1 := by simp only [F.len] at h7; omega
     have HZ := Lib.hid (And.intro h3 (And.intro hA (And.intro hsub (And.intro hE (And.intro hQ (And.intro hfr hlo))))))
     have hR' : f2 = [] := hR
     have HF2 := Lib.hid hR'
     rw [hjN]
     have i5 : ((N + 1 : Nat) : Int) = (N : Int) + 1 := by omega
     clear h3 hA hR hR' hsub hE hn hr hfr hlo hc1 hs1 hrr hL1 hN h1 h2 h7 hD hng hQ hJJ hjN hJ
     go_wp2_with fail
     go_ret
     obtain ⟨h3, hA, hsub, hE, hQ, hfr, hlo⟩ := HZ.out
     rw [HF2.out, List.append_nil] at hsub
     rw [← hQ] at hA ⊢
     exact FuMid.outZ (P := .cons o1 n1 t1 k1 rest) h3 hA hsub hfr hlo hE
   | cons o2 n2 t2 k2 r =>
     have hjN : j < N := by simp only [F.len] at h7; omega
     obtain ⟨a2, c2, g1, g2, e0, e1, e2, e3, hc2, hs2, hrr2, rfl⟩ := RowAt.cons_iff.1 hR
     rw [← hE.cell hb] at e0 e1 e2 e3
     have hA' : PtAt w w.heap.size (.slice (some ⟨G, 0, none⟩) (q.app (.cons o n t k .nil)).len capG) (q.app (.cons o n t k .nil)) gs wr := by
      rw [show (q.app (.cons o n t k .nil)).len = Q + 1 by rw [F.len_app, hQ]; rfl]; exact hA
     obtain ⟨a0, c0, f0, y0, y1, y2, y3, _⟩ := part_at hA'
     rw [hQ] at y0 y1 y2 y3
     have ht1 : t.size ≤ 12 := nice_text (Bool.and_eq_true_iff.1 hD).1
     have hD2 : niceD (o2, n2, t2, k2) = true := by simp only [nice, Bool.and_eq_true] at hng; exact Bool.and_eq_true_iff.2 hng.1
     have ht2 : t2.size ≤ 12 := nice_text (Bool.and_eq_true_iff.1 hD2).1
     obtain ⟨L2, hL2⟩ : ∃ L, k2.len = L := ⟨_, rfl⟩
     rw [hL2] at e3
     have hbw : b < wr.heap.size := Nat.lt_of_lt_of_le hb hE.size
     have hR9 : RowAt w (.cons o2 n2 t2 k2 r) b (off + 4 + j * 4) (g1 ++ g2) := by rw [show off + 4 + j * 4 = off + J * 4 by omega]; exact hR
     have hrr9 : RowAt w r b (off + 4 + j * 4 + 4) g2 := by rw [show off + 4 + j * 4 + 4 = off + J * 4 + 4 by omega]; exact hrr2
     have HZ := Lib.hid (And.intro h1 (And.intro h2 (And.intro h3 (And.intro hA (And.intro hR9 (And.intro hsub (And.intro hD (And.intro hng (And.intro hE (And.intro hQ (And.intro hc2 (And.intro hs2 (And.intro hrr9 (And.intro hL2 hql))))))))))))))
     have HJ := Lib.hid hJJ
     have i5 : (0 : Int) ≤ (J : Int) := Int.natCast_nonneg _
     have i6 : (J : Int) < (N : Int) + 1 := by omega
     have i7 : (0 : Int) ≤ (Q : Int) := Int.natCast_nonneg _
     have i8 : (Q : Int) < (Q : Int) + 1 := by omega
     clear h1 h2 h3 hA hA' hR hR9 hsub hD hng hD2 hE hQ hc2 hs2 hrr2 hrr9 hL2 hql hn hr hfr hlo hc1 hs1 hrr hL1 hN h7 hJJ d0 d1 d2 d3
     have hway : (o2 ≠ 2) ∨ (o2 = 2 ∧ o ≠ 2) ∨ (o2 = 2 ∧ o = 2 ∧ ¬ (t.size + t2.size ≤ 12)) ∨ (o2 = 2 ∧ o = 2 ∧ t.size + t2.size ≤ 12) := by omega
     have hwr : IntKind.i64.wrap ((t.size : Int) + (t2.size : Int)) = (t.size : Int) + (t2.size : Int) := IntWalk.i64_in _ ⟨by omega, by omega⟩
     rcases hway with hw | ⟨hw, hw2⟩ | ⟨hw, hw2, hw3⟩ | ⟨hw, hw2, hw3⟩
     ·have b1 : (o2 == 2) = false := by simpa using hw
      have b2 : (o2 != 2) = true := by simpa using hw
      go_wp2_with fail
      go_quiet (fail)
      obtain ⟨V, hV⟩ : ∃ V, wr.drewN nq = V := ⟨_, rfl⟩
      have hEV : Ext wr V := by rw [← hV]; exact ext_dn _ _
      rw [hV]
      have x0 := (hEV.cell hbw).trans e0
      have x1 := (hEV.cell hbw).trans e1
      have x2 := (hEV.cell hbw).trans e2
      have x3 := (hEV.cell hbw).trans e3
      have hbV : b < V.heap.size := Nat.lt_of_lt_of_le hbw hEV.size
      have HV := Lib.hid hEV
      clear hV hEV e0 e1 e2 e3
      clear y0 y1 y2 y3
      go_wp2_with (at_builtin; refine Halt.out ?_)
      refine ⟨?_⟩
      obtain ⟨_, _, _, hA, _, _, _, _, hE, hQ, hc2, hs2, _, hL2, _⟩ := HZ.out
      subst hL2
      have hAp := hA.later (Ext.trans HV.out ((Ext.refl V).alloc (.cells #[.int .i64 o2, .int .i64 n2, .string t2, .slice a2 k2.len c2] 25)))
      have hln : (q.app (.cons o n t k .nil)).len = Q + 1 := by rw [F.len_app, hQ]; rfl
      have hzz : w.heap.size ≤ (V.alloc (.cells #[.int .i64 o2, .int .i64 n2, .string t2, .slice a2 k2.len c2] 25)).heap.size := by have := hE.size; have := HV.out.size; simp; omega
      refine append_part rfl (.tmp 65) (.tmp 70) 23 rfl Try.underlying23 HI.out.1 HI.out.2.1 HI.out.2.2.1 HI.out.2.2.2 rfl rfl hAp hln rfl (cell_new V _ _ 0 _ rfl) (cell_new V _ _ 1 _ rfl) (cell_new V _ _ 2 _ rfl) (cell_new V _ _ 3 _ rfl) hc2 hs2 (by omega) hzz ?_
      clear hA hE hQ hc2 hs2 hAp hzz hln
      intro G' cap' w' hA' hB' hg' hG1' hG2'
      go_wp2_with fail
      go_roundw
      case rel =>
       obtain ⟨h1, h2, h3, hA, hR, hsub, hD, hng, hE, hQ, hc2, hs2, hrr2, hL2, hql⟩ := HZ.out
       have hJJ := HJ.out
       refine ⟨J + 1, by omega, by go_num, .inr ⟨j + 1, by omega, FuMid.more h1 h2 h3 hG1' hG2' hA' hQ hrr2 hsub (by omega) hng ?_ (by rw [← Bool.not_eq_true, fits_iff]; rintro ⟨_, h, _⟩; exact hw h)⟩⟩
       exact Below.trans (hE.trans (Ext.trans HV.out ((Ext.refl V).alloc _))) hB'
      case measure => have hJJ := HJ.out; simp [intOf]; omega
     ·subst hw
      have b1 : (o == 2) = false := by simpa using hw2
      have b2 : (o != 2) = true := by simpa using hw2
      go_wp2_with fail
      go_quiet (fail)
      obtain ⟨V, hV⟩ : ∃ V, wr.drewN nq = V := ⟨_, rfl⟩
      have hEV : Ext wr V := by rw [← hV]; exact ext_dn _ _
      rw [hV]
      have x0 := (hEV.cell hbw).trans e0
      have x1 := (hEV.cell hbw).trans e1
      have x2 := (hEV.cell hbw).trans e2
      have x3 := (hEV.cell hbw).trans e3
      have hbV : b < V.heap.size := Nat.lt_of_lt_of_le hbw hEV.size
      have HV := Lib.hid hEV
      clear hV hEV e0 e1 e2 e3
      clear y0 y1 y2 y3
      go_wp2_with (at_builtin; refine Halt.out ?_)
      refine ⟨?_⟩
      obtain ⟨_, _, _, hA, _, _, _, _, hE, hQ, hc2, hs2, _, hL2, _⟩ := HZ.out
      subst hL2
      have hAp := hA.later (Ext.trans HV.out ((Ext.refl V).alloc (.cells #[.int .i64 2, .int .i64 n2, .string t2, .slice a2 k2.len c2] 25)))
      have hln : (q.app (.cons o n t k .nil)).len = Q + 1 := by rw [F.len_app, hQ]; rfl
      have hzz : w.heap.size ≤ (V.alloc (.cells #[.int .i64 2, .int .i64 n2, .string t2, .slice a2 k2.len c2] 25)).heap.size := by have := hE.size; have := HV.out.size; simp; omega
      refine append_part rfl (.tmp 65) (.tmp 70) 23 rfl Try.underlying23 HI.out.1 HI.out.2.1 HI.out.2.2.1 HI.out.2.2.2 rfl rfl hAp hln rfl (cell_new V _ _ 0 _ rfl) (cell_new V _ _ 1 _ rfl) (cell_new V _ _ 2 _ rfl) (cell_new V _ _ 3 _ rfl) hc2 hs2 (by omega) hzz ?_
      clear hA hE hQ hc2 hs2 hAp hzz hln
      intro G' cap' w' hA' hB' hg' hG1' hG2'
      go_wp2_with fail
      go_roundw
      case rel =>
       obtain ⟨h1, h2, h3, hA, hR, hsub, hD, hng, hE, hQ, hc2, hs2, hrr2, hL2, hql⟩ := HZ.out
       have hJJ := HJ.out
       refine ⟨J + 1, by omega, by go_num, .inr ⟨j + 1, by omega, FuMid.more h1 h2 h3 hG1' hG2' hA' hQ hrr2 hsub (by omega) hng ?_ (by rw [← Bool.not_eq_true, fits_iff]; rintro ⟨h, _, _⟩; exact hw2 h)⟩⟩
       exact Below.trans (hE.trans (Ext.trans HV.out ((Ext.refl V).alloc _))) hB'
      case measure => have hJJ := HJ.out; simp [intOf]; omega
     ·subst hw; subst hw2
      have b1 : decide ((t.size : Int) + (t2.size : Int) ≤ 12) = false := by rw [decide_eq_false_iff_not]; omega
      have b2 : decide (t.size + t2.size ≤ 12) = false := by rw [decide_eq_false_iff_not]; omega
      go_wp2_with fail
      go_quiet (fail)
      obtain ⟨V, hV⟩ : ∃ V, wr.drewN nq = V := ⟨_, rfl⟩
      have hEV : Ext wr V := by rw [← hV]; exact ext_dn _ _
      rw [hV]
      have x0 := (hEV.cell hbw).trans e0
      have x1 := (hEV.cell hbw).trans e1
      have x2 := (hEV.cell hbw).trans e2
      have x3 := (hEV.cell hbw).trans e3
      have hbV : b < V.heap.size := Nat.lt_of_lt_of_le hbw hEV.size
      have HV := Lib.hid hEV
      clear hV hEV e0 e1 e2 e3
      clear y0 y1 y2 y3
      go_wp2_with (at_builtin; refine Halt.out ?_)
      refine ⟨?_⟩
      obtain ⟨_, _, _, hA, _, _, _, _, hE, hQ, hc2, hs2, _, hL2, _⟩ := HZ.out
      subst hL2
      have hAp := hA.later (Ext.trans HV.out ((Ext.refl V).alloc (.cells #[.int .i64 2, .int .i64 n2, .string t2, .slice a2 k2.len c2] 25)))
      have hln : (q.app (.cons 2 n t k .nil)).len = Q + 1 := by rw [F.len_app, hQ]; rfl
      have hzz : w.heap.size ≤ (V.alloc (.cells #[.int .i64 2, .int .i64 n2, .string t2, .slice a2 k2.len c2] 25)).heap.size := by have := hE.size; have := HV.out.size; simp; omega
      refine append_part rfl (.tmp 65) (.tmp 70) 23 rfl Try.underlying23 HI.out.1 HI.out.2.1 HI.out.2.2.1 HI.out.2.2.2 rfl rfl hAp hln rfl (cell_new V _ _ 0 _ rfl) (cell_new V _ _ 1 _ rfl) (cell_new V _ _ 2 _ rfl) (cell_new V _ _ 3 _ rfl) hc2 hs2 (by omega) hzz ?_
      clear hA hE hQ hc2 hs2 hAp hzz hln
      intro G' cap' w' hA' hB' hg' hG1' hG2'
      go_wp2_with fail
      go_roundw
      case rel =>
       obtain ⟨h1, h2, h3, hA, hR, hsub, hD, hng, hE, hQ, hc2, hs2, hrr2, hL2, hql⟩ := HZ.out
       have hJJ := HJ.out
       refine ⟨J + 1, by omega, by go_num, .inr ⟨j + 1, by omega, FuMid.more h1 h2 h3 hG1' hG2' hA' hQ hrr2 hsub (by omega) hng ?_ (by rw [← Bool.not_eq_true, fits_iff]; rintro ⟨_, _, h⟩; exact hw3 h)⟩⟩
       exact Below.trans (hE.trans (Ext.trans HV.out ((Ext.refl V).alloc _))) hB'
      case measure => have hJJ := HJ.out; simp [intOf]; omega
     ·subst hw; subst hw2
      have b1 : decide ((t.size : Int) + (t2.size : Int) ≤ 12) = true := by rw [decide_eq_true_eq]; omega
      have b2 : decide (t.size + t2.size ≤ 12) = true := by rw [decide_eq_true_eq]; omega
      go_wp2_with fail
      go_quiet (fail)
      obtain ⟨V, hV⟩ : ∃ V, wr.drewN nq = V := ⟨_, rfl⟩
      have hEV : Ext wr V := by rw [← hV]; exact ext_dn _ _
      rw [hV]
      have x0 := (hEV.cell hbw).trans e0
      have x1 := (hEV.cell hbw).trans e1
      have x2 := (hEV.cell hbw).trans e2
      have x3 := (hEV.cell hbw).trans e3
      have hbV : b < V.heap.size := Nat.lt_of_lt_of_le hbw hEV.size
      have HV := Lib.hid hEV
      clear hV hEV e0 e1 e2 e3
      have yz : V.frozen? ⟨G, Q * 4 + 2, none⟩ = false := (HZ.out.2.2.2.1.later HV.out).fz _
      have yy := (HV.out.cell (o := Q * 4 + 2) hG2).trans y2
      have hGV : G < V.heap.size := Nat.lt_of_lt_of_le hG2 HV.out.size
      have hsum : ¬ (9223372036854775807 < t.size + t2.size) := by omega
      clear y0 y1 y2 y3
      go_wp2_with fail
      go_region
      all_goals
       go_wp2_with fail
       go_roundw
       case rel =>
        obtain ⟨h1, h2, h3, hA, hR, hsub, hD, hng, hE, hQ, hc2, hs2, hrr2, hL2, hql⟩ := HZ.out
        have hJJ := HJ.out
        refine ⟨J + 1, by omega, by go_num, .inr ⟨j + 1, by omega, FuMid.join (wr := V) h1 h2 h3 hG1 (Nat.lt_of_lt_of_le hG2 HV.out.size) (hA.later HV.out) hQ hR hsub (by omega) hD hng (hE.trans HV.out) (fits_iff.2 ⟨rfl, rfl, hw3⟩) ?_⟩⟩
        exact (Ext.refl _).drew
       case measure => have hJJ := HJ.out; simp [intOf]; omega
end Go.Proofs.Ytjcaiecapapceaa.Nf
namespace Go.Proofs.Ytjcaiecapapceaa.Nf
open Go.RowKit P1 Copy CatD
def TxS (f : F) : Prop := ∀ (w : World) (o n : Int) (t : ByteArray) (k : F) (p r : F) (a : Option Addr) (cap : Nat) (fs : List Nat), f = p.app (.cons o n t k r) → nice f = true → f.cnt ≤ 10000 → SubAt w a k fs → (∀ c ∈ fs, c < w.heap.size) → k.len ≤ cap →
 Calls Try.prog 86 #[.agg #[.int .i64 o, .int .i64 n, .string t, .slice a k.len cap]] w (NewD w (rowD fzR o n t k))
theorem tx_one (w : World) (o n : Int) (t : ByteArray) (k : F) (ih : TxS k) (hn : niceD (o, n, t, k) = true) (hcnt : k.cnt ≤ 10000) (a : Option Addr) (cap : Nat) (fs : List Nat) (hs : SubAt w a k fs) (hfs : ∀ c ∈ fs, c < w.heap.size) (hc : k.len ≤ cap) (h7 : o ≠ 7) :
  Calls Try.prog 86 #[.agg #[.int .i64 o, .int .i64 n, .string t, .slice a k.len cap]] w (NewD w (o, n, t, mapL (rowD fzR) k)) := by
 have hnk : nice k = true := (nice_kids hn).2
 obtain ⟨φ, hφφ⟩ : ∃ φ, rowD fzR = φ := ⟨_, rfl⟩
 have ih := fun (w : World) (o n : Int) (t : ByteArray) (k1 : F) (p r : F) (a : Option Addr) (cap : Nat) (fs : List Nat) (h : k = p.app (.cons o n t k1 r)) => ih w o n t k1 p r a cap fs h hnk hcnt
 rw [hφφ] at ih
 rw [hφφ]
 have q7 : (o == 7) = false := by rw [beq_eq_false_iff_ne]; exact h7
 obtain ⟨i0, hi, hz0, hz1, hz2⟩ := info_parts To.info
 obtain ⟨L, hL⟩ : ∃ L, k.len = L := ⟨_, rfl⟩
 rw [hL] at hc ⊢
 have HL := Lib.hid hL
 have HML := Lib.hid (show (mapL φ k).len = L by rw [len_mapL, hL])
 have hL4 : L ≤ 4194304 := by have := F.len_le_cnt k; omega
 clear hL
 have hsub : 0 < L → ∃ b off f', a = some ⟨b, off, none⟩ ∧ RowAt w k b off f' ∧ b < w.heap.size ∧ ∀ c ∈ f', c < w.heap.size := by
  intro h0
  rcases hs with ⟨rfl, rfl⟩ | ⟨b, off, f', rfl, hnil, rfl, hrow⟩
  ·have := HL.out; simp only [F.len] at this; omega
  ·exact ⟨b, off, f', rfl, hrow, hfs b (by simp), fun c hc => hfs c (by simp [hc])⟩
 have HSUB := Lib.hid hsub
 have IH := Lib.hid ih
 have HI := Lib.hid (And.intro hi (And.intro hz0 (And.intro hz1 hz2)))
 have HST := Lib.hid (kd_start w o n t (.slice a L cap) φ k 25)
 clear hsub hs hfs ih hi hz0 hz1 hz2 hnk hn hcnt
 go_enter Try.func86, Try.ntmps86
 go_wp2_with fail
 go_loopw [6, 7] (fun v i wr => KdAt w o n t (.slice a L cap) φ k v i wr) (fun _ i _ => L - (intOf i).toNat)
 case atStart => exact HST.out
 case round =>
  obtain ⟨j, p, g, fs1, rfl, h3, h5, hG, hbw, hfv, hzb⟩ := hrel
  have h7 : g.len = L - j := by have := HL.out; rw [h3, F.len_app, h5] at this; omega
  have hjL0 : j ≤ L := by have := HL.out; rw [h3, F.len_app, h5] at this; omega
  obtain ⟨x0, x1, x2, x3⟩ := hfv
  have hsz0 : w.heap.size + 1 < wr.heap.size := hzb.2.2
  cases g with
  | nil =>
    have hjL : L = j := by simp only [F.len] at h7; omega
    subst hjL
    rw [F.app_nil] at h3
    subst h3
    obtain ⟨a', cap', rfl, hcap', hsub', hcm⟩ := hG.slice
    obtain ⟨⟨z0, z1, z2, z3⟩, ⟨z4, z5, z6, z7⟩, z8⟩ := hzb
    have HQ := Lib.hid (And.intro hsub' (And.intro hG.fresh (And.intro hbw hcap')))
    clear hG hbw hsub' h7 hcm hcap' h5 hjL0
    rw [HML.out]
    have hsubK := HQ.out.1
    have hl0 : w.heap.size < wr.heap.size := by omega
    have HZB := Lib.hid (show ZBox wr (w.heap.size + 1) from ⟨⟨z0, z1, z2, z3⟩, ⟨z4, z5, z6, z7⟩, z8⟩)
    go_wp2_with (first
     | (go_at_call 122; refine (specEmpty _ _ _ _ _ _ _).mono ?_; rintro e1 w3 ⟨rfl, rfl⟩)
     | (go_at_call 79; refine (specMap _ _ _ _ _ _ _ _ _ _).mono ?_; rintro e1 w3 ⟨rfl, hb3⟩; have q3 : Ext wr w3 := (by first | exact hb3 | exact ((Ext.refl wr).alloc _).trans hb3 | exact (((Ext.refl wr).alloc _).alloc _).trans hb3); obtain ⟨⟨z0, z1, z2, z3⟩, ⟨z4, z5, z6, z7⟩, z8⟩ := HZB.out.ext q3))
    refine bodyPost_ret (v := .agg #[.int .i64 o, .int .i64 n, .string t, .slice a' L cap']) (by simp [results, Try.results86, go_sem, z0, z1, z2, z3, z4, z5, z6, z7, z8, hl0]) rfl ?_
    obtain ⟨hs9, hF9, _, hc9⟩ := HQ.out
    refine end_but (x := w.heap.size + 1) (lo := w.heap.size + 2) (w3 := wr) HML.out hs9 hF9 hc9 (by omega) (by omega) HQ.out.2.2.1 (by repeat (first | exact But.of_below q3 | exact But.refl _ _ _ | refine But.setCell ?_ (Or.inl (by rfl)) _ | refine But.alloc ?_ (by simp) _))
  | cons o1 n1 t1 k1 r1 =>
    have hjL : j < L := by simp only [F.len] at h7; omega
    obtain ⟨b, off, f', rfl, hrow, hbB, hfB⟩ := HSUB.out (by omega)
    rw [h3] at hrow
    obtain ⟨a1, cap1, f1, c0, c1, c2, c3, hc1', hsub1, hin⟩ := row_at hrow
    rw [h5] at c0 c1 c2 c3
    rw [← hbw.cell (p := ⟨_, _, _⟩) hbB] at c0 c1 c2 c3
    have hd := fun (W1 : World) (hw1 : Ext wr W1) => IH.out W1 o1 n1 t1 k1 p r1 a1 cap1 f1 h3 (hsub1.below (fun c hc => hfB c (hin c hc)) (hbw.trans (hw1.mono hbw.size))) (fun c hc => Nat.lt_of_lt_of_le (hfB c (hin c hc)) (Nat.le_trans hbw.size hw1.size)) hc1'
    obtain ⟨⟨o2, n2, t2, k2⟩, hφ⟩ : ∃ d : D, φ o1 n1 t1 k1 = d := ⟨_, rfl⟩
    rw [hφ] at hd
    have HD := Lib.hid hd
    have H := Lib.hid (And.intro h3 (And.intro h5 (And.intro hG (And.intro hbw hzb))))
    have HF := Lib.hid hφ
    have i0' : (0 : Int) ≤ (j : Int) := Int.natCast_nonneg _
    have i1 : (j : Int) < (L : Int) := by omega
    have HX := Lib.hid (show Four w.heap.size (.int .i64 o) (.int .i64 n) (.string t) (.slice (some ⟨b, off, none⟩) L cap) wr from ⟨x0, x1, x2, x3⟩)
    clear hd h3 h5 h7 hbw hrow hG hφ hzb
    go_wp2_with (first
     | (go_at_call 86; refine (HD.out _ (by exact Ext.refl _)).mono ?_; rintro e1 w1 ⟨a2, cap2, f2, rfl, hc2, hs2, hfr2, hb2⟩; have HST2 := Lib.hid (fun ob => mid_d (ob := ob) H.out.2.2.1 hb2); have H2 := Lib.hid (And.intro hs2 (And.intro hfr2 (And.intro hb2 hc2))); clear hs2 hfr2 hb2 hc2 c0 c1 c2 c3)
     | (at_builtin; refine append_doc rfl (.tmp 40) (.tmp 47) 23 rfl Try.underlying23 HI.out.1 HI.out.2.1 HI.out.2.2.1 HI.out.2.2.2 rfl rfl (HST2.out _).1 (d := w1.heap.size) (c := 1) rfl (cell_new w1 _ _ 0 _ rfl) (cell_new w1 _ _ 1 _ rfl) (cell_new w1 _ _ 2 _ rfl) (cell_new w1 _ _ 3 _ rfl) H2.out.2.2.2 (H2.out.1.below H2.out.2.1.lt ((Below.refl _ _).alloc (Nat.le_refl _) _)) (H2.out.2.1.below H2.out.2.1.lt ((Below.refl _ _).alloc (Nat.le_refl _) _)) (HST2.out (.cells #[] 0)).2.1 (HST2.out (.cells #[] 0)).2.2.1 (HST2.out (.cells #[] 0)).2.2.2.1 (by rw [len_mapL]; have := H.out.2.1; omega) ?_; intro v' w2 fs' hG' hb' hg'))
    go_roundw
    case rel =>
     obtain ⟨h3, h5, hG, hbw, hzb⟩ := H.out
     have hch := mid_end H2.out.2.2.1 hb' hG.2.2.2
     refine ⟨j + 1, p.app (.cons o1 n1 t1 k1 .nil), r1, fs', by go_num, by rw [h3, F.app_assoc]; rfl, by rw [F.len_app, h5]; rfl, ?_, hbw.trans (hch.mono (by omega)), HX.out.below hch (by omega), zbox_below hzb hch (by omega)⟩
     rw [mapL_app, show mapL φ (.cons o1 n1 t1 k1 .nil) = .cons o2 n2 t2 k2 .nil by rw [mapL, HF.out]; rfl]
     exact hG'
    case measure => simp [intOf]; omega
def TpMid (w1 : World) (x : Nat) (φ : Rule) (P : F) (j : Nat) (v : Value) (wr : World) : Prop := ∃ (p g : F) (fs : List Nat), P = p.app g ∧ p.len = j ∧ Grow wr 25 x v (mapL φ p) fs ∧ But w1.heap.size x w1 wr ∧ (∀ q ∈ fs, q = x ∨ w1.heap.size ≤ q) ∧ (∀ q, v.ownBlock = some q → q = x ∨ w1.heap.size ≤ q)
theorem zbox_same {w w' : World} {b : Nat} (h : ZBox w b) (e : w'.heap[b]? = w.heap[b]?) (hs : w.heap.size ≤ w'.heap.size) : ZBox w' b := by
 obtain ⟨⟨z0, z1, z2, z3⟩, ⟨z4, z5, z6, z7⟩, z8⟩ := h
 have hc : ∀ o, w'.cell? ⟨b, o, none⟩ = w.cell? ⟨b, o, none⟩ := fun o => World.cell?_of_block (w := w) e
 have hf : ∀ o, w'.frozen? ⟨b, o, none⟩ = w.frozen? ⟨b, o, none⟩ := fun o => World.frozen?_of_block (w := w) e
 exact ⟨⟨(hc 0).trans z0, (hc 1).trans z1, (hc 2).trans z2, (hc 3).trans z3⟩, ⟨(hf 0).trans z4, (hf 1).trans z5, (hf 2).trans z6, (hf 3).trans z7⟩, by omega⟩
theorem tx_pair (w : World) (n : Int) (t : ByteArray) (k : F) (a : Option Addr) (cap : Nat) (x lo : Nat) (P : F) (hx : x = w.heap.size + 1 + 1) (hlo : lo = x + 1) (hP : P ≠ .nil) (hnP : nice P = true) (hcP : P.cnt ≤ 10000) (hnM : nice (mapL (rowD fzR) P) = true)
  (ih : ∀ (W : World) (v : Value), Ext w W → Grow W 25 lo v .nil [] → Calls Try.prog 119 #[v, .agg #[.int .i64 7, .int .i64 n, .string t, .slice a k.len cap]] W (SpOut lo W v [] P))
  (ihT : TxS P) :
  Calls Try.prog 86 #[.agg #[.int .i64 7, .int .i64 n, .string t, .slice a k.len cap]] w (NewD w (catAll (fzR (mapL (rowD fzR) P)))) := by
 obtain ⟨i0, hi, hz0, hz1, hz2⟩ := info_parts To.info
 have HI := Lib.hid (And.intro hi (And.intro hz0 (And.intro hz1 hz2)))
 have hNP : P.len ≤ 10000 := by have := F.len_le_cnt P; omega
 obtain ⟨φ, hφφ⟩ : ∃ φ, rowD fzR = φ := ⟨_, rfl⟩
 have ihT := fun (W : World) (o n : Int) (t : ByteArray) (k1 : F) (p r : F) (a : Option Addr) (cap : Nat) (fs : List Nat) (h : P = p.app (.cons o n t k1 r)) => ihT W o n t k1 p r a cap fs h hnP hcP
 rw [hφφ] at ihT hnM ⊢
 obtain ⟨L, hL⟩ : ∃ L, k.len = L := ⟨_, rfl⟩
 rw [hL] at ih ⊢
 have HIH := Lib.hid (fun x y u z => ih ((((w.alloc x).alloc y).alloc (.cells u 25)).alloc (.cells z 25)) (.slice (some ⟨w.heap.size + 1 + 1 + 1, 0, none⟩) 0 0) (((((Ext.refl w).alloc _).alloc _).alloc _).alloc _))
 have HZ := Lib.hid (fun x => zbox_second w x 25)
 have HT := Lib.hid ihT
 have HM := Lib.hid hnM
 clear ih hL ihT hnM hi hz0 hz1 hz2 hφφ hcP
 have HP := Lib.hid hP
 go_enter Try.func86, Try.ntmps86
 go_wp2_with fail
 have hgm := fun (x y u : Obj) => (show Grow ((((w.alloc x).alloc y).alloc u).alloc (.cells #[] 25)) 25 lo (.slice (some ⟨w.heap.size + 1 + 1 + 1, 0, none⟩) 0 0) .nil [] from by
  have h := Grow.made (((w.alloc x).alloc y).alloc u) 25 lo (by rw [hlo, hx]; simp)
  have e : (((w.alloc x).alloc y).alloc u).heap.size = w.heap.size + 1 + 1 + 1 := by simp
  rw [e] at h; exact h)
 have hgl := fun (x' y : Obj) => (show Grow (((w.alloc x').alloc y).alloc (.cells #[] 25)) 25 x (.slice (some ⟨w.heap.size + 1 + 1, 0, none⟩) 0 0) .nil [] from by
  have h := Grow.made ((w.alloc x').alloc y) 25 x (by rw [hx]; simp)
  have e : ((w.alloc x').alloc y).heap.size = w.heap.size + 1 + 1 := by simp
  rw [e] at h; exact h)
 refine (HIH.out _ _ #[] #[] (hgm _ _ _)).mono ?_
 rintro e1 w1 ⟨v1, fs1, rfl, hG1, hB1, _, _, _⟩
 have hGL := (hgl _ _).below (B := lo) (by rw [hlo, hx]; simp) (((Below.refl lo _).alloc (by rw [hlo, hx]; simp) _).trans hB1)
 have hZ1 : ZBox w1 (w.heap.size + 1) := zbox_below (B := w.heap.size + 1 + 1) (HZ.out _) ((((Below.refl (w.heap.size + 1 + 1) _).alloc (by simp) _).alloc (by simp) _).trans (hB1.mono (by omega))) (by omega)
 have hE1 : Ext w w1 := Below.trans (((((Ext.refl w).alloc _).alloc _).alloc _).alloc _) (hB1.mono (by omega))
 have hsz1 : lo ≤ w1.heap.size := by have h := hB1.size; simp at h; omega
 obtain ⟨b, cb, f', rfl, hfs, hrow⟩ : ∃ b c f', v1 = .slice (some ⟨b, 0, none⟩) P.len c ∧ fs1 = b :: f' ∧ RowAt w1 P b 0 f' := by
  rcases hG1.2.1 with ⟨h, _⟩ | ⟨b, c, f', h1, _, h2, h3⟩
  ·exact absurd h hP
  ·exact ⟨b, c, f', h1, h2, h3⟩
 subst hfs
 have hfr := hG1.fresh
 obtain ⟨N, hN⟩ : ∃ N, P.len = N := ⟨_, rfl⟩
 rw [hN] at hNP ⊢
 have HN := Lib.hid hN
 have HML := Lib.hid (show (mapL φ P).len = N by rw [len_mapL, hN])
 have hxw : w.heap.size + 1 + 1 = x := hx.symm
 rw [hxw] at hGL
 have H1 := Lib.hid (And.intro hrow (And.intro hfr (And.intro hZ1 (And.intro hE1 (And.intro hsz1 (And.intro hlo hx))))))
 have HGL := Lib.hid hGL
 clear hG1 hB1 hrow hfr hZ1 hE1 hN hgm hgl hGL hxw hP
 go_wp2_with fail
 go_loopw [3, 5] (fun v i wr => ∃ j : Nat, j ≤ N ∧ i = .int .i64 j ∧ TpMid w1 x φ P j v wr) (fun _ i _ => N - (intOf i).toNat)
 case atStart =>
  obtain ⟨hrow, hfr, hZ1, hE1, hsz1, hlo, hx⟩ := H1.out
  refine ⟨0, by omega, rfl, .nil, P, [], rfl, rfl, ?_, But.refl _ _ _, fun q hq => (by cases hq), fun q hq => .inl (by simp only [Value.ownBlock, Option.some.injEq] at hq; omega)⟩
  rw [show w.heap.size + 1 + 1 = x from hx.symm]
  exact HGL.out
 case round =>
  obtain ⟨j, hj, rfl, p, g, fs, h3, h5, hG, hbut, hfsx, hown⟩ := hrel
  obtain ⟨hrow, hfr, hZ1, hE1, hsz1, hlo, hx⟩ := H1.out
  have h7 : g.len = N - j := by have := HN.out; rw [h3, F.len_app, h5] at this; omega
  have hzr := hbut.size
  cases g with
  | nil =>
    obtain rfl : N = j := by simp only [F.len] at h7; omega
    rw [F.app_nil] at h3
    obtain rfl : p = P := h3.symm
    have hnM := HM.out
    have hML := HML.out
    have hblk : wr.heap[w.heap.size + 1]? = w1.heap[w.heap.size + 1]? := hbut.block _ (by omega) (by omega)
    have hZr := zbox_same hZ1 hblk hzr
    have hEr : Ext w wr := Below.trans hE1 (hbut.below (by have := hE1.size; omega) (by omega))
    rcases hG.2.1 with ⟨h, _⟩ | ⟨g0, cap0, f0, rfl, hne, rfl, hrow0⟩
    ·exfalso
     rw [h] at hML
     exact HP.out (F.len_eq_zero (by have := HN.out; simp only [F.len] at hML; omega))
    have hfr0 := hG.fresh
    have hxr : x ≤ wr.heap.size := hG.2.2.2
    obtain ⟨M, hM⟩ : ∃ M, mapL φ p = M := ⟨_, rfl⟩
    rw [hM] at hrow0 hnM hML hne ⊢
    cases M with
    | nil => exact absurd rfl hne
    | cons o1 n1 t1 k1 rest =>
      have hrl : rest.len + 1 = N := hML
      have hfu := specFuse wr x o1 n1 t1 k1 rest g0 0 cap0 f0 hnM (by omega) hrow0 (hfr0.2 g0 (by simp)).2.1 ⟨(List.nodup_cons.1 hfr0.1).2, fun c hc => hfr0.2 c (by simp [hc])⟩ hxr
      obtain ⟨hz1', hz2'⟩ := fz_len rest (o1, n1, t1, k1)
      obtain ⟨Q, hQ⟩ : ∃ Q, fz (o1, n1, t1, k1) rest = Q := ⟨_, rfl⟩
      rw [hQ] at hfu hz1' hz2'
      obtain ⟨p9, o9, n9, t9, k9, rfl⟩ := snoc_of Q (by intro e; rw [e] at hz1'; simp [F.len] at hz1')
      have hl9 : (p9.app (.cons o9 n9 t9 k9 .nil)).len = p9.len + 1 := by rw [F.len_app]; rfl
      have hof := fun (W : World) (g c : Nat) (gs : List Nat) (h1 : x ≤ W.heap.size) (h2 : RowAt W (p9.app (.cons o9 n9 t9 k9 .nil)) g 0 gs) (h3 : Fresh x W (g :: gs)) => specOf W x p9 o9 n9 t9 k9 g c gs (by omega) h1 h2 h3
      obtain ⟨⟨o6, n6, t6, k6⟩, hd6⟩ : ∃ d : D, catOn p9 (o9, n9, t9, k9) = d := ⟨_, rfl⟩
      rw [hd6] at hof
      have HROW := Lib.hid (show catAll (fzR (mapL φ p)) = (o6, n6, t6, k6) by rw [hM]; show catAll (fz (o1, n1, t1, k1) rest) = _; rw [hQ, show F.cons o9 n9 t9 k9 .nil = consD (o9, n9, t9, k9) .nil from rfl, catAll_snoc]; exact hd6)
      have HFU := Lib.hid hfu
      have HOF := Lib.hid hof
      have HL9 := Lib.hid hl9
      have HH := Lib.hid (And.intro hZr (And.intro hEr (And.intro hxr hx)))
      rw [show (F.cons o1 n1 t1 k1 rest).len = rest.len + 1 from rfl, hrl]
      rw [hrl] at HFU
      clear hfu hof hG hrow0 hfr0 hne hd6 hM hnM hML hQ hz1' hz2' hl9 hbut hfsx hown h3 h5 h7 hrow hfr hZ1 hE1 hsz1 hlo hZr hEr hblk hrl hxr hx hj
      go_wp2_with (first
       | (go_at_call 121; refine HFU.out.mono ?_; rintro e5 w5 ⟨g5, c5, gs5, rfl, hr5, hf5, hb5⟩; have hx5 := Nat.le_trans HH.out.2.2.1 hb5.size; have HO5 := Lib.hid (HOF.out w5 g5 c5 gs5 hx5 hr5 hf5); have HB5 := Lib.hid hb5; rw [HL9.out]; clear hr5 hf5 hb5)
       | (go_at_call 120; refine HO5.out.mono ?_; rintro e6 w6 ⟨a6, cap6, f6, rfl, hc6, hs6, hfr6, hb6⟩; simp only at hc6 hs6 ⊢; obtain ⟨⟨z0, z1, z2, z3⟩, ⟨z4, z5, z6, z7⟩, z8⟩ := (HH.out.1.ext (HB5.out.trans hb6)); have H6 := Lib.hid (And.intro hc6 (And.intro hs6 (And.intro hfr6 (HB5.out.trans hb6)))); clear hc6 hs6 hfr6 hb6))
      refine bodyPost_ret (v := .agg #[.int .i64 o6, .int .i64 n6, .string t6, .slice a6 k6.len cap6]) (by simp [results, Try.results86, go_sem, z0, z1, z2, z3, z4, z5, z6, z7, z8]) rfl ?_
      obtain ⟨hc6, hs6, hfr6, hE6⟩ := H6.out
      obtain ⟨hZr, hEr, hxr, hx⟩ := HH.out
      rw [HROW.out]
      refine end_new2 (lo := w.heap.size + 1) (hi := w.heap.size + 1 + 1) (B := x) (w3 := w6) hs6 hfr6 hc6 (by omega) (by omega) (by omega) (hEr.trans hE6) ?_
      repeat (first | exact Touch.refl _ _ _ | refine Touch.setCell ?_ (by simp) (by simp) _)
  | cons o1 n1 t1 k1 r1 =>
    have hjN : j < N := by simp only [F.len] at h7; omega
    rw [h3] at hrow
    obtain ⟨a1, cap1, f1, c0, c1, c2, c3, hc1', hsub1, hin⟩ := row_at hrow
    rw [h5] at c0 c1 c2 c3
    simp only [Nat.zero_add] at c0 c1 c2 c3
    have hf1 : ∀ c ∈ f1, c < w1.heap.size ∧ c ≠ x := fun c hc => by have := (hfr.2 c (by simp [hin c hc])); exact ⟨this.2.1, by have := this.1; omega⟩
    have hb1 : b < w1.heap.size ∧ b ≠ x := by have := hfr.2 b (by simp); exact ⟨this.2.1, by have := this.1; omega⟩
    rw [← hbut.cell hb1.1 hb1.2] at c0 c1 c2 c3
    have hd := fun (W1 : World) (hw1 : Ext wr W1) => HT.out W1 o1 n1 t1 k1 p r1 a1 cap1 f1 h3 (hw1.sub (hbut.sub hsub1 hf1) (fun c hc => Nat.lt_of_lt_of_le (hf1 c hc).1 hzr)) (fun c hc => Nat.lt_of_lt_of_le (hf1 c hc).1 (Nat.le_trans hzr hw1.size)) hc1'
    obtain ⟨⟨o2, n2, t2, k2⟩, hφ⟩ : ∃ d : D, φ o1 n1 t1 k1 = d := ⟨_, rfl⟩
    rw [hφ] at hd
    have hbr : b < wr.heap.size := Nat.lt_of_lt_of_le hb1.1 hzr
    obtain ⟨L1, hL1⟩ : ∃ L, k1.len = L := ⟨_, rfl⟩
    rw [hL1] at hd c3
    have HD := Lib.hid hd
    have H := Lib.hid (And.intro h3 (And.intro h5 (And.intro hG (And.intro hbut (And.intro hfsx (And.intro hown hφ))))))
    have i0' : (0 : Int) ≤ (j : Int) := Int.natCast_nonneg _
    have i1 : (j : Int) < (N : Int) := by omega
    clear hd h3 h5 h7 hbut hrow hG hφ hfsx hown hfr hZ1 hE1 hsz1 hlo hx hin hsub1 hf1 hL1 hc1'
    go_wp2_with (first
     | (go_at_call 86; refine (HD.out _ (by exact Ext.refl _)).mono ?_; rintro e1 w2 ⟨a2, cap2, f2, rfl, hc2, hs2, hfr2, hb2⟩; simp only at hc2 hs2 ⊢; have HST2 := Lib.hid (fun ob => mid_d (ob := ob) H.out.2.2.1 hb2); have H2 := Lib.hid (And.intro hs2 (And.intro hfr2 (And.intro hb2 hc2))); clear hs2 hfr2 hb2 hc2 c0 c1 c2 c3)
     | (at_builtin; refine append_doc2 rfl (.tmp 21) (.tmp 27) 23 rfl Try.underlying23 HI.out.1 HI.out.2.1 HI.out.2.2.1 HI.out.2.2.2 rfl rfl (HST2.out _).1 (d := w2.heap.size) (c := 1) rfl (cell_new w2 _ _ 0 _ rfl) (cell_new w2 _ _ 1 _ rfl) (cell_new w2 _ _ 2 _ rfl) (cell_new w2 _ _ 3 _ rfl) H2.out.2.2.2 (H2.out.1.below H2.out.2.1.lt ((Below.refl _ _).alloc (Nat.le_refl _) _)) (H2.out.2.1.below H2.out.2.1.lt ((Below.refl _ _).alloc (Nat.le_refl _) _)) (HST2.out (.cells #[] 0)).2.1 (HST2.out (.cells #[] 0)).2.2.1 (HST2.out (.cells #[] 0)).2.2.2.1 (by rw [len_mapL]; have := H.out.2.1; omega) ?_; intro v' w3 fs' hG' hb' hg' hm'))
    go_roundw
    case rel =>
     obtain ⟨h3, h5, hG, hbut, hfsx, hown, hφ⟩ := H.out
     have hz2 := H2.out.2.2.1.size
     have hAl := H2.out.2.2.1.alloc hz2 (.cells #[.int .i64 o2, .int .i64 n2, .string t2, .slice a2 k2.len cap2] 25)
     have hw3 : w1.heap.size ≤ (w2.alloc (.cells #[.int .i64 o2, .int .i64 n2, .string t2, .slice a2 k2.len cap2] 25)).heap.size := by simp; omega
     have hmem : ∀ q ∈ fs', q = x ∨ w1.heap.size ≤ q := fun q hq => by
      rcases hm' q hq with h | h | h | h
      ·exact hown q h.symm
      ·exact hfsx q h
      ·have := (H2.out.2.1.2 q h).1; exact .inr (by omega)
      ·exact .inr (by omega)
     refine ⟨j + 1, by omega, by go_num, p.app (.cons o1 n1 t1 k1 .nil), r1, fs', by rw [h3, F.app_assoc]; rfl, by rw [F.len_app, h5]; rfl, ?_, hbut.trans ⟨hb'.os.trans hAl.os, hb'.tape.trans hAl.tape, hb'.output.trans hAl.output, Nat.le_trans hAl.size hb'.size, fun q hq hne => (hg'.block q (by omega) (fun e => ?_)).trans (hAl.block q (by omega))⟩, hmem, fun q hq => hmem q (own_mem hG' app_ne q hq)⟩
     ·rw [mapL_app, show mapL φ (.cons o1 n1 t1 k1 .nil) = .cons o2 n2 t2 k2 .nil by rw [mapL, hφ]; rfl]
      exact hG'
     ·rcases hown q e.symm with h | h
      ·exact hne h
      ·omega
    case measure => simp [intOf]; omega
theorem row_alone (Φ : F → F) (hΦ : ∀ o n t k, o ≠ 7 → Φ (.cons o n t k .nil) = .cons o n t k .nil) : ∀ P : F, noCat P = true → mapL (rowD Φ) P = mapL (kidR Φ) P := by
 intro P
 induction P with
 | nil => intro _; rfl
 | cons o n t k r _ ih =>
   intro h
   rw [noCat, Bool.and_eq_true] at h
   have h7 : o ≠ 7 := by simpa using h.1
   show consD (rowD Φ o n t k) (mapL (rowD Φ) r) = consD (o, n, t, mapL (rowD Φ) k) (mapL (kidR Φ) r)
   rw [ih h.2]
   congr 1
   show catAll (Φ (psD Φ o n t k)) = _
   unfold psD
   rw [if_neg h7, pr_map, hΦ _ _ _ _ h7]; rfl
theorem fuse_parts {n : Int} {t : ByteArray} {k : F} (h : niceD (7, n, t, k) = true) : mapL (rowD fzR) (psD (fun f => f) 7 n t k) = psD fzR 7 n t k := by
 rw [row_alone fzR (fun _ _ _ _ _ => rfl) _ (ps_noCat _ _ _ _ _), ps_parts (fun f => f), ps_parts fzR]
 have h1 := (fuse_right fzR k (nice_kids h).2).2
 show mapL (kidR fzR) (mapL (kidR (fun f => f)) (parts0 k)) = mapL (kidR fzR) (parts0 k)
 exact h1
theorem tx_doc (w : World) (o n : Int) (t : ByteArray) (k : F) (ih : ∀ f : F, f.cnt ≤ k.cnt → TxS f) (hn : niceD (o, n, t, k) = true) (hcnt : k.cnt ≤ 10000) (a : Option Addr) (cap : Nat) (fs : List Nat) (hs : SubAt w a k fs) (hfs : ∀ c ∈ fs, c < w.heap.size) (hc : k.len ≤ cap) :
  Calls Try.prog 86 #[.agg #[.int .i64 o, .int .i64 n, .string t, .slice a k.len cap]] w (NewD w (rowD fzR o n t k)) := by
 by_cases h7 : o = 7
 ·subst h7
  obtain ⟨hnp, hl⟩ := ri_parts hn
  have hl2 : 2 ≤ (psD (fun f => f) 7 n t k).len := by
   rw [ps_parts, len_mapL]
   have h1 := parts_len k (nice_kids hn).2
   obtain ⟨x, y, hxy⟩ := kids_two hn rfl
   have e2 : k.len = 2 := by rw [hxy]; rfl
   show 2 ≤ (parts0 k).len
   omega
  have e : rowD fzR 7 n t k = catAll (fzR (mapL (rowD fzR) (psD (fun f => f) 7 n t k))) := by rw [fuse_parts hn]; rfl
  rw [e]
  refine tx_pair w n t k a cap (w.heap.size + 1 + 1) (w.heap.size + 1 + 1 + 1) _ rfl rfl (ps_pos _ hn) hnp (by omega) (by rw [fuse_parts hn]; exact (row_parts fzR_ok hn).1) (fun W v e g => ?_) (ih _ (by omega))
  exact spine (ri_oneOf (m := k.deep) (fun f hf => riS _ f hf)) k.deep (Nat.le_refl _) W (w.heap.size + 1 + 1 + 1) v .nil [] 7 n t k a cap fs (Nat.le_refl _) hn hcnt (by simp only [F.len]; omega) g (e.sub hs hfs) (fun c hc => by have := hfs c hc; omega) hc
 ·have e : rowD fzR o n t k = (o, n, t, mapL (rowD fzR) k) := by
   show catAll (fzR (psD fzR o n t k)) = _
   unfold psD
   rw [if_neg h7, pr_map]; rfl
  rw [e]
  exact tx_one w o n t k (ih k (Nat.le_refl _)) hn hcnt a cap fs hs hfs hc h7
theorem txS (m : Nat) : ∀ f : F, f.cnt ≤ m → TxS f := by
 induction m with
 | zero =>
   intro f hf w o n t k p r a cap fs he
   rw [he, F.cnt_app] at hf; simp only [F.cnt] at hf; omega
 | succ m ih =>
   intro f hf w o n t k p r a cap fs he hn hcnt hs hfs hc
   have hk : k.cnt ≤ m := by rw [he, F.cnt_app] at hf; simp only [F.cnt] at hf; omega
   have hn' : niceD (o, n, t, k) = true := by
    rw [he, nice_app, Bool.and_eq_true] at hn
    exact (Bool.and_eq_true_iff.1 hn.2).1
   rw [he, F.cnt_app] at hcnt
   simp only [F.cnt] at hcnt
   exact tx_doc w o n t k (fun f hf => ih f (Nat.le_trans hf hk)) hn' (by omega) a cap fs hs hfs hc
theorem l7Texts (w : World) (o n : Int) (t : ByteArray) (k : F) (hn : niceD (o, n, t, k) = true) (hcnt : k.cnt ≤ 10000) (a : Option Addr) (cap : Nat) (fs : List Nat) (hs : SubAt w a k fs) (hfs : ∀ c ∈ fs, c < w.heap.size) (hc : k.len ≤ cap) :
  Calls Try.prog 86 #[.agg #[.int .i64 o, .int .i64 n, .string t, .slice a k.len cap]] w (NewD w (rowD fzR o n t k)) :=
 tx_doc w o n t k (fun f _ => txS _ f (Nat.le_refl _)) hn hcnt a cap fs hs hfs hc
end Go.Proofs.Ytjcaiecapapceaa.Nf
namespace Go.Proofs.Ytjcaiecapapceaa.Nf
open Go.RowKit P1 Copy CatD
end Go.Proofs.Ytjcaiecapapceaa.Nf
