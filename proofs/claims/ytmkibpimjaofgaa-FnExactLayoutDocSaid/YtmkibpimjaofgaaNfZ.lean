import Derived.Test.YtmkibpimjaofgaaNfA
import Derived.Test.YtmkibpimjaofgaaNfV
/-
  Texts of a row joined, as a plain function, and rows that are turned to the right; nothing here speaks of the program.
-/
set_option linter.unusedVariables false
set_option linter.unusedSimpArgs false
namespace Go.Proofs.Ytmkibpimjaofgaa.Nf
open P1

/-- whether a part is joined to the part in front of it -/
def fits (d : D) (o : Int) (t : ByteArray) : Bool := d.1 == 2 && o == 2 && decide (d.2.2.1.size + t.size ≤ 12)
/-- a part and the parts behind it, their texts joined -/
def fz : D → F → F
  | d, .nil => consD d .nil
  | d, .cons o n t k r => if fits d o t = true then fz (d.1, d.2.1, d.2.2.1 ++ t, d.2.2.2) r else consD d (fz (o, n, t, k) r)
def fzR : F → F
  | .nil => .nil
  | .cons o n t k r => fz (o, n, t, k) r
theorem fz_yes {d : D} {o n : Int} {t : ByteArray} {k r : F} (h : fits d o t = true) : fz d (.cons o n t k r) = fz (d.1, d.2.1, d.2.2.1 ++ t, d.2.2.2) r := by rw [fz, if_pos h]
theorem fz_no {d : D} {o n : Int} {t : ByteArray} {k r : F} (h : fits d o t = false) : fz d (.cons o n t k r) = consD d (fz (o, n, t, k) r) := by rw [fz, if_neg (by rw [h]; decide)]
theorem fits_iff {d : D} {o : Int} {t : ByteArray} : fits d o t = true ↔ d.1 = 2 ∧ o = 2 ∧ d.2.2.1.size + t.size ≤ 12 := by
  unfold fits
  rw [Bool.and_eq_true, Bool.and_eq_true, beq_iff_eq, beq_iff_eq, decide_eq_true_eq, and_assoc]

theorem tv_join {a b : ByteArray} (ha : tv a.data.toList = true) (hb : tv b.data.toList = true) (h : a.size + b.size ≤ 12) : tv (a ++ b).data.toList = true := by
  have h1 := tv_len ha
  have h2 := tv_len hb
  have e : (a ++ b).data.toList = a.data.toList ++ b.data.toList := by rw [ByteArray.data_append, Array.toList_append]
  have s1 : a.data.toList.length = a.size := Array.length_toList
  have s2 : b.data.toList.length = b.size := Array.length_toList
  rw [tv_of h1.1 h1.2] at ha
  rw [tv_of h2.1 h2.2] at hb
  rw [e, tv_of (by rw [List.length_append]; omega) (by rw [List.length_append]; omega), List.all_append, ha, hb]; rfl
theorem nice_join {d : D} {o n : Int} {t : ByteArray} {k : F} (hd : niceD d = true) (h : niceD (o, n, t, k) = true) (hf : fits d o t = true) : niceD (d.1, d.2.1, d.2.2.1 ++ t, d.2.2.2) = true := by
  obtain ⟨o0, n0, t0, k0⟩ := d
  obtain ⟨h1, h2, h3⟩ := fits_iff.1 hf
  simp only at h1 h3
  subst h1; subst h2
  unfold niceD nodeB textB at hd h ⊢
  simp only [Bool.and_eq_true, if_pos rfl] at hd h ⊢
  exact ⟨⟨⟨hd.1.1.1, tv_join hd.1.1.2 h.1.1.2 h3⟩, hd.1.2⟩, hd.2⟩

theorem fz_keep : ∀ (f : F) (d : D), niceD d = true → nice f = true → nice (fz d f) = true ∧ (fz d f).cnt + (fz d f).len ≤ 1 + d.2.2.2.cnt + f.cnt + (f.len + 1) ∧ fz d f ≠ .nil := by
  intro f
  induction f with
  | nil =>
    intro d hd _
    refine ⟨?_, ?_, by intro e; cases e⟩
    · show (niceD d && nice .nil) = true; rw [hd]; rfl
    · show 1 + d.2.2.2.cnt + 0 + (0 + 1) ≤ _; omega
  | cons o n t k r _ ih =>
    intro d hd h
    have hD : niceD (o, n, t, k) = true := by simp only [nice, Bool.and_eq_true] at h; exact Bool.and_eq_true_iff.2 h.1
    have hr : nice r = true := by simp only [nice, Bool.and_eq_true] at h; exact h.2
    by_cases hf : fits d o t = true
    · rw [fz_yes hf]
      obtain ⟨h1, h2, h3⟩ := ih _ (nice_join hd hD hf) hr
      refine ⟨h1, ?_, h3⟩
      show _ ≤ 1 + d.2.2.2.cnt + (1 + k.cnt + r.cnt) + (r.len + 1 + 1)
      have : ((d.1, d.2.1, d.2.2.1 ++ t, d.2.2.2) : D).2.2.2.cnt = d.2.2.2.cnt := rfl
      omega
    · rw [fz_no (by simpa using hf)]
      obtain ⟨h1, h2, h3⟩ := ih (o, n, t, k) hD hr
      refine ⟨?_, ?_, by intro e; cases e⟩
      · show (niceD d && nice (fz (o, n, t, k) r)) = true; rw [hd, h1]; rfl
      · show 1 + d.2.2.2.cnt + (fz (o, n, t, k) r).cnt + ((fz (o, n, t, k) r).len + 1) ≤ 1 + d.2.2.2.cnt + (1 + k.cnt + r.cnt) + (r.len + 1 + 1)
        have : ((o, n, t, k) : D).2.2.2.cnt = k.cnt := rfl
        omega
theorem fzR_keep {f : F} (h : nice f = true) (hf : f ≠ .nil) : nice (fzR f) = true ∧ (fzR f).cnt + (fzR f).len ≤ f.cnt + f.len ∧ fzR f ≠ .nil := by
  cases f with
  | nil => exact absurd rfl hf
  | cons o n t k r =>
    have hD : niceD (o, n, t, k) = true := by simp only [nice, Bool.and_eq_true] at h; exact Bool.and_eq_true_iff.2 h.1
    have hr : nice r = true := by simp only [nice, Bool.and_eq_true] at h; exact h.2
    exact fz_keep r (o, n, t, k) hD hr
theorem fz_len : ∀ (f : F) (d : D), 1 ≤ (fz d f).len ∧ (fz d f).len ≤ f.len + 1 := by
  intro f
  induction f with
  | nil => intro d; exact ⟨Nat.le_refl _, Nat.le_refl _⟩
  | cons o n t k r _ ih =>
    intro d
    by_cases hf : fits d o t = true
    · rw [fz_yes hf]
      have := ih (d.1, d.2.1, d.2.2.1 ++ t, d.2.2.2)
      simp only [F.len]; omega
    · rw [fz_no (by simpa using hf)]
      have := ih (o, n, t, k)
      simp only [consD, F.len]; omega
theorem fz_noCat : ∀ (f : F) (d : D), d.1 ≠ 7 → noCat f = true → noCat (fz d f) = true := by
  intro f
  induction f with
  | nil => intro d hd _; show ((d.1 != 7) && true) = true; simp [hd]
  | cons o n t k r _ ih =>
    intro d hd h
    rw [noCat, Bool.and_eq_true] at h
    by_cases hf : fits d o t = true
    · rw [fz_yes hf]; exact ih _ hd h.2
    · rw [fz_no (by simpa using hf)]
      show ((d.1 != 7) && noCat (fz (o, n, t, k) r)) = true
      rw [ih _ (by simpa using h.1) h.2]; simp [hd]
theorem fzR_noCat {f : F} (h : noCat f = true) : noCat (fzR f) = true := by
  cases f with
  | nil => rfl
  | cons o n t k r => rw [noCat, Bool.and_eq_true] at h; exact fz_noCat r _ (by simpa using h.1) h.2

/-! ## joining again changes nothing -/

/-- no part can be joined to the part in front of it -/
def apartF : D → F → Bool
  | _, .nil => true
  | d, .cons o n t k r => !(fits d o t) && apartF (o, n, t, k) r
theorem fz_apart : ∀ (f : F) (d : D), apartF d f = true → fz d f = consD d f := by
  intro f
  induction f with
  | nil => intro d _; rfl
  | cons o n t k r _ ih =>
    intro d h
    rw [apartF, Bool.and_eq_true] at h
    rw [fz_no (by simpa using h.1), ih _ h.2]; rfl
theorem app_none (u : ByteArray) : u ++ (⟨#[]⟩ : ByteArray) = u := ByteArray.append_empty
/-- the first part of what is joined begins with the first one -/
theorem fz_head : ∀ (f : F) (d : D), ∃ (u : ByteArray) (r : F), fz d f = .cons d.1 d.2.1 (d.2.2.1 ++ u) d.2.2.2 r ∧ apartF (d.1, d.2.1, d.2.2.1 ++ u, d.2.2.2) r = true := by
  intro f
  induction f with
  | nil => intro d; exact ⟨⟨#[]⟩, .nil, by rw [app_none]; rfl, rfl⟩
  | cons o n t k r _ ih =>
    intro d
    by_cases hf : fits d o t = true
    · rw [fz_yes hf]
      obtain ⟨u, r', h1, h2⟩ := ih (d.1, d.2.1, d.2.2.1 ++ t, d.2.2.2)
      simp only at h1 h2
      rw [ByteArray.append_assoc] at h1 h2
      exact ⟨t ++ u, r', h1, h2⟩
    · rw [fz_no (by simpa using hf)]
      obtain ⟨u, r', h1, h2⟩ := ih (o, n, t, k)
      simp only at h1 h2
      refine ⟨⟨#[]⟩, fz (o, n, t, k) r, by rw [app_none]; rfl, ?_⟩
      rw [app_none, h1, apartF, h2, Bool.and_true, Bool.not_eq_true', ← Bool.not_eq_true]
      intro hc
      obtain ⟨a1, a2, a3⟩ := fits_iff.1 hc
      apply hf
      rw [ByteArray.size_append] at a3
      exact fits_iff.2 ⟨a1, a2, by simp only at a3; omega⟩
theorem fzR_again (f : F) : fzR (fzR f) = fzR f := by
  cases f with
  | nil => rfl
  | cons o n t k r =>
    obtain ⟨u, r', h1, h2⟩ := fz_head r (o, n, t, k)
    simp only at h1 h2
    show fzR (fz (o, n, t, k) r) = fz (o, n, t, k) r
    rw [h1]
    exact fz_apart r' _ h2

/-! ## a row that was joined from the right has the parts that it was made of -/

theorem parts_catAll : ∀ P : F, noCat P = true → P ≠ .nil → parts0 (consD (catAll P) .nil) = P := by
  intro P
  induction P with
  | nil => intro _ h; exact absurd rfl h
  | cons o n t k r _ ih =>
    intro h _
    rw [noCat, Bool.and_eq_true] at h
    have h7 : o ≠ 7 := by simpa using h.1
    by_cases hr : r.len = 0
    · have := F.len_eq_zero hr
      subst this
      show (ptD o n t k).app (parts0 .nil) = _
      unfold ptD
      rw [if_neg h7]; rfl
    · have e : catAll (.cons o n t k r) = (7, 0, ⟨#[]⟩, .cons o n t k (consD (catAll r) .nil)) := by show (if r.len = 0 then _ else _) = _; rw [if_neg hr]
      rw [e]
      show (ptD 7 0 ⟨#[]⟩ (.cons o n t k (consD (catAll r) .nil))).app .nil = _
      rw [F.app_nil]
      show (ptD o n t k).app (parts0 (consD (catAll r) .nil)) = _
      rw [ih h.2 (by intro e; rw [e] at hr; exact hr rfl)]
      unfold ptD
      rw [if_neg h7]; rfl
theorem ptD_catAll {P : F} (h : noCat P = true) (hP : P ≠ .nil) : ptD (catAll P).1 (catAll P).2.1 (catAll P).2.2.1 (catAll P).2.2.2 = P := by
  have h1 := parts_catAll P h hP
  have e : parts0 (consD (catAll P) .nil) = (ptD (catAll P).1 (catAll P).2.1 (catAll P).2.2.1 (catAll P).2.2.2).app .nil := rfl
  rw [e, F.app_nil] at h1
  exact h1
theorem noCat_map (g : F → F) (f : F) : noCat (mapL (kidR g) f) = noCat f := by
  induction f with
  | nil => rfl
  | cons o n t k r _ ih => show ((o != 7) && noCat (mapL (kidR g) r)) = _; rw [ih]; rfl
theorem pt_noCat (o n : Int) (t : ByteArray) (k : F) : noCat (ptD o n t k) = true := by
  have h := parts_noCat (.cons o n t k .nil)
  have e : parts0 (.cons o n t k .nil) = (ptD o n t k).app .nil := rfl
  rw [e, F.app_nil] at h
  exact h
theorem ps_noCat (g : F → F) (o n : Int) (t : ByteArray) (k : F) : noCat (psD g o n t k) = true := by rw [ps_parts, noCat_map, pt_noCat]
theorem pt_ne {o n : Int} {t : ByteArray} {k : F} (h : niceD (o, n, t, k) = true) : ptD o n t k ≠ .nil := by
  intro e
  have h1 := parts_len (.cons o n t k .nil) (by rw [show nice (.cons o n t k .nil) = (niceD (o, n, t, k) && nice .nil) from rfl, h]; rfl)
  have e1 : parts0 (.cons o n t k .nil) = (ptD o n t k).app .nil := rfl
  rw [e1, F.app_nil, e] at h1
  simp [F.len] at h1
theorem ps_ne (g : F → F) {o n : Int} {t : ByteArray} {k : F} (h : niceD (o, n, t, k) = true) : psD g o n t k ≠ .nil := by
  intro e
  have h2 : (psD g o n t k).len = (ptD o n t k).len := by rw [ps_parts, len_mapL]
  rw [e] at h2
  exact pt_ne h (F.len_eq_zero h2.symm)

/-- what is changed with its rows turned is changed as if they were not -/
theorem row_turned (Φ : F → F) (g : F → F) (hg : ∀ P, noCat P = true → P ≠ .nil → noCat (g P) = true ∧ g P ≠ .nil) (hΦ : ∀ P, Φ (mapL (kidR Φ) (g P)) = Φ (mapL (kidR Φ) P)) : ∀ f : F, nice f = true →
    mapL (rowD Φ) (mapL (rowD g) f) = mapL (rowD Φ) f ∧ mapL (kidR Φ) (mapL (kidR g) (parts0 f)) = mapL (kidR Φ) (parts0 f) := by
  intro f
  induction f with
  | nil => intro _; exact ⟨rfl, rfl⟩
  | cons o n t k r ihk ihr =>
    intro h
    have hD : niceD (o, n, t, k) = true := by simp only [nice, Bool.and_eq_true] at h; exact Bool.and_eq_true_iff.2 h.1
    have hr : nice r = true := by simp only [nice, Bool.and_eq_true] at h; exact h.2
    obtain ⟨a1, a2⟩ := ihk (nice_kids hD).2
    obtain ⟨b1, b2⟩ := ihr hr
    have hpt : mapL (kidR Φ) (mapL (kidR g) (ptD o n t k)) = mapL (kidR Φ) (ptD o n t k) := by
      unfold ptD
      split
      · exact a2
      · show consD (kidR Φ o n t (mapL (rowD g) k)) .nil = consD (kidR Φ o n t k) .nil
        unfold kidR
        rw [a1]
    refine ⟨?_, ?_⟩
    · show consD (rowD Φ (rowD g o n t k).1 (rowD g o n t k).2.1 (rowD g o n t k).2.2.1 (rowD g o n t k).2.2.2) (mapL (rowD Φ) (mapL (rowD g) r)) = consD (rowD Φ o n t k) (mapL (rowD Φ) r)
      rw [b1]
      congr 1
      have hq := hg (psD g o n t k) (ps_noCat g o n t k) (ps_ne g hD)
      have e1 : psD Φ (rowD g o n t k).1 (rowD g o n t k).2.1 (rowD g o n t k).2.2.1 (rowD g o n t k).2.2.2 = mapL (kidR Φ) (g (psD g o n t k)) := by
        rw [ps_parts]
        show mapL (kidR Φ) (ptD (catAll (g (psD g o n t k))).1 (catAll (g (psD g o n t k))).2.1 (catAll (g (psD g o n t k))).2.2.1 (catAll (g (psD g o n t k))).2.2.2) = _
        rw [ptD_catAll hq.1 hq.2]
      show catAll (Φ (psD Φ (rowD g o n t k).1 (rowD g o n t k).2.1 (rowD g o n t k).2.2.1 (rowD g o n t k).2.2.2)) = catAll (Φ (psD Φ o n t k))
      rw [e1, hΦ, ps_parts g, hpt, ← ps_parts]
    · rw [parts0_cons, mapL_app, mapL_app, mapL_app, b2, hpt]
/-- texts joined in rows that were turned to the right -/
theorem fuse_right (Φ : F → F) : ∀ f : F, nice f = true → mapL (rowD Φ) (mapL (rowD (fun f => f)) f) = mapL (rowD Φ) f ∧ mapL (kidR Φ) (mapL (kidR (fun f => f)) (parts0 f)) = mapL (kidR Φ) (parts0 f) :=
  row_turned Φ (fun f => f) (fun P h1 h2 => ⟨h1, h2⟩) (fun P => rfl)

theorem fz_map (Φ : F → F) : ∀ (f : F) (d : D), mapL (kidR Φ) (fz d f) = fz (d.1, d.2.1, d.2.2.1, mapL (rowD Φ) d.2.2.2) (mapL (kidR Φ) f) := by
  intro f
  induction f with
  | nil => intro d; rfl
  | cons o n t k r _ ih =>
    intro d
    have e : mapL (kidR Φ) (.cons o n t k r) = .cons o n t (mapL (rowD Φ) k) (mapL (kidR Φ) r) := rfl
    rw [e]
    by_cases hf : fits d o t = true
    · have hf' : fits (d.1, d.2.1, d.2.2.1, mapL (rowD Φ) d.2.2.2) o t = true := hf
      rw [fz_yes hf, fz_yes hf', ih]
    · have hf0 : fits d o t = false := by simpa using hf
      have hf' : fits (d.1, d.2.1, d.2.2.1, mapL (rowD Φ) d.2.2.2) o t = false := hf0
      rw [fz_no hf0, fz_no hf']
      show consD (d.1, d.2.1, d.2.2.1, mapL (rowD Φ) d.2.2.2) (mapL (kidR Φ) (fz (o, n, t, k) r)) = _
      rw [ih (o, n, t, k)]
theorem fzR_map (Φ : F → F) (f : F) : mapL (kidR Φ) (fzR f) = fzR (mapL (kidR Φ) f) := by
  cases f with
  | nil => rfl
  | cons o n t k r => exact fz_map Φ r (o, n, t, k)
/-- joining texts again changes nothing -/
theorem fuse_again : ∀ f : F, nice f = true → mapL (rowD fzR) (mapL (rowD fzR) f) = mapL (rowD fzR) f := fun f h =>
  (row_turned fzR fzR (fun P h1 h2 => ⟨fzR_noCat h1, by cases P with
    | nil => exact absurd rfl h2
    | cons o n t k r => intro e; have := (fz_len r (o, n, t, k)).1; have e2 : fz (o, n, t, k) r = .nil := e; rw [e2] at this; simp [F.len] at this⟩) (fun P => by rw [fzR_map, fzR_again]) f h).1
/-- turning to the right again changes nothing -/
theorem right_again : ∀ f : F, nice f = true → mapL (rowD (fun f => f)) (mapL (rowD (fun f => f)) f) = mapL (rowD (fun f => f)) f := fun f h => (fuse_right (fun f => f) f h).1

/-! ## what is changed stays well-formed, and grows no more -/

theorem cat_fits : ∀ f : F, nice f = true → f ≠ .nil → niceD (catAll f) = true ∧ (catAll f).2.2.2.cnt + 2 = f.cnt + f.len := by
  intro f
  induction f with
  | nil => intro _ h; exact absurd rfl h
  | cons o n t k r _ ih =>
    intro h _
    have hD : niceD (o, n, t, k) = true := by simp only [nice, Bool.and_eq_true] at h; exact Bool.and_eq_true_iff.2 h.1
    have hr : nice r = true := by simp only [nice, Bool.and_eq_true] at h; exact h.2
    by_cases he : r.len = 0
    · have := F.len_eq_zero he
      subst this
      rw [show catAll (.cons o n t k .nil) = (o, n, t, k) from rfl]
      exact ⟨hD, by simp only [F.cnt, F.len]; omega⟩
    · obtain ⟨h1, h2⟩ := ih hr (by intro e; rw [e] at he; exact he rfl)
      have e : catAll (.cons o n t k r) = (7, 0, ⟨#[]⟩, .cons o n t k (consD (catAll r) .nil)) := by show (if r.len = 0 then _ else _) = _; rw [if_neg he]
      rw [e]
      have hk : nice (.cons o n t k (consD (catAll r) .nil)) = true := by
        show (niceD (o, n, t, k) && (niceD (catAll r) && nice .nil)) = true
        rw [hD, h1]; rfl
      refine ⟨?_, ?_⟩
      · show (nodeB 7 0 ⟨#[]⟩ 2 && nice (.cons o n t k (consD (catAll r) .nil))) = true
        rw [hk, Bool.and_true]; decide
      · show 1 + k.cnt + (1 + (catAll r).2.2.2.cnt + 0) + 2 = 1 + k.cnt + r.cnt + (r.len + 1)
        omega
/-- a change of rows that keeps them nice and makes them no greater -/
def RowOk (Φ : F → F) : Prop := ∀ P, nice P = true → P ≠ .nil → nice (Φ P) = true ∧ (Φ P).cnt + (Φ P).len ≤ P.cnt + P.len ∧ Φ P ≠ .nil
theorem row_keep {Φ : F → F} (hΦ : RowOk Φ) : ∀ f : F, nice f = true → nice (pr Φ f).1 = true ∧ nice (pr Φ f).2 = true ∧ (pr Φ f).1.cnt + (pr Φ f).1.len ≤ f.cnt + f.len ∧ (pr Φ f).2.cnt ≤ f.cnt := by
  intro f
  induction f with
  | nil => intro _; exact ⟨rfl, rfl, Nat.le_refl _, Nat.le_refl _⟩
  | cons o n t k r ihk ihr =>
    intro h
    have hD : niceD (o, n, t, k) = true := by simp only [nice, Bool.and_eq_true] at h; exact Bool.and_eq_true_iff.2 h.1
    have hr : nice r = true := by simp only [nice, Bool.and_eq_true] at h; exact h.2
    obtain ⟨a1, a2, a3, a4⟩ := ihk (nice_kids hD).2
    obtain ⟨b1, b2, b3, b4⟩ := ihr hr
    have hps : nice (psD Φ o n t k) = true ∧ (psD Φ o n t k).cnt + (psD Φ o n t k).len ≤ k.cnt + 2 := by
      unfold psD
      split
      · rename_i h7
        obtain ⟨x, y, hxy⟩ := kids_two hD h7
        have e2 : k.len = 2 := by rw [hxy]; rfl
        exact ⟨a1, by omega⟩
      · refine ⟨?_, by simp only [F.cnt, F.len]; omega⟩
        have hl : (pr Φ k).2.len = k.len := by rw [pr_map, len_mapL]
        show (nodeB o n t (pr Φ k).2.len && nice (pr Φ k).2 && nice .nil) = true
        rw [hl, a2]
        have h1 : nodeB o n t k.len = true := by unfold niceD at hD; exact (Bool.and_eq_true_iff.1 hD).1
        rw [h1]; rfl
    obtain ⟨d1, d2, d3⟩ := hΦ _ hps.1 (ps_ne Φ hD)
    obtain ⟨c1, c2⟩ := cat_fits _ d1 d3
    rw [pr_cons]
    refine ⟨by rw [nice_app, hps.1, b1]; rfl, ?_, ?_, ?_⟩
    · show (niceD (rowD Φ o n t k) && nice (pr Φ r).2) = true
      rw [b2, Bool.and_true]; exact c1
    · show ((psD Φ o n t k).app (pr Φ r).1).cnt + ((psD Φ o n t k).app (pr Φ r).1).len ≤ 1 + k.cnt + r.cnt + (r.len + 1)
      rw [F.cnt_app, F.len_app]; omega
    · show 1 + (catAll (Φ (psD Φ o n t k))).2.2.2.cnt + (pr Φ r).2.cnt ≤ 1 + k.cnt + r.cnt
      omega
theorem row_parts {Φ : F → F} (hΦ : RowOk Φ) {o n : Int} {t : ByteArray} {k : F} (h : niceD (o, n, t, k) = true) : nice (psD Φ o n t k) = true ∧ (psD Φ o n t k).cnt + (psD Φ o n t k).len ≤ k.cnt + 2 := by
  obtain ⟨h1, _, h3, _⟩ := row_keep hΦ (.cons o n t k .nil) (by rw [show nice (.cons o n t k .nil) = (niceD (o, n, t, k) && nice .nil) from rfl, h]; rfl)
  rw [pr_cons, show (pr Φ .nil).1 = .nil from rfl, F.app_nil] at h1 h3
  simp only [F.cnt, F.len] at h3
  exact ⟨h1, by omega⟩
theorem row_nice {Φ : F → F} (hΦ : RowOk Φ) {o n : Int} {t : ByteArray} {k : F} (h : niceD (o, n, t, k) = true) : niceD (rowD Φ o n t k) = true ∧ (rowD Φ o n t k).2.2.2.cnt ≤ k.cnt := by
  obtain ⟨h1, h2⟩ := row_parts hΦ h
  obtain ⟨d1, d2, d3⟩ := hΦ _ h1 (ps_ne Φ h)
  obtain ⟨h3, h4⟩ := cat_fits _ d1 d3
  exact ⟨h3, by show (catAll (Φ (psD Φ o n t k))).2.2.2.cnt ≤ _; omega⟩
theorem fzR_ok : RowOk fzR := fun P h hP => fzR_keep h hP
theorem id_ok : RowOk (fun f => f) := fun P h hP => ⟨h, Nat.le_refl _, hP⟩

end Go.Proofs.Ytmkibpimjaofgaa.Nf

/-
  Rows that are changed and joined anew keep the layout of each choice, if the change of each row does; nothing here speaks of the program.
-/
set_option linter.unusedVariables false
set_option linter.unusedSimpArgs false
namespace Go.Proofs.Ytmkibpimjaofgaa.Nf
open P1 Flat Wid ChP

/-- the same choices, with the same layouts -/
structure EqO (d d' : D) : Prop where
  ct : ctO d' = ctO d
  no : noO d' = noO d
  fd : flO d' = flO d
  pk : ∀ c, pkO d' c = pkO d c
theorem EqO.refl (d : D) : EqO d d := ⟨rfl, rfl, rfl, fun _ => rfl⟩
theorem EqO.symm {a b : D} (h : EqO a b) : EqO b a := ⟨h.ct.symm, h.no.symm, h.fd.symm, fun c => (h.pk c).symm⟩
theorem EqO.trans {a b c : D} (h : EqO a b) (k : EqO b c) : EqO a c := ⟨k.ct.trans h.ct, k.no.trans h.no, k.fd.trans h.fd, fun x => (k.pk x).trans (h.pk x)⟩
theorem EqO.eqv {a b : D} (h : EqO a b) : Eqv 0 a b := ⟨h.ct, h.no, h.fd, fun c => by rw [h.pk]; exact (nestL_nought _).symm⟩
theorem Eqv.eqo {a b : D} (h : Eqv 0 a b) : EqO a b := ⟨h.ct, h.no, h.fd, fun c => by rw [h.pk]; exact nestL_nought _⟩

/-- two documents, joined -/
def catD (a b : D) : D := (7, 0, ⟨#[]⟩, consD a (consD b .nil))
theorem ct_cat (a b : D) : ctO (catD a b) = ctO a * ctO b := by
  show ctD 7 (consD a (consD b .nil)) = _
  rw [ctD_other (by omega)]
  show ctD a.1 a.2.2.2 * ctF (consD b .nil) = _
  rw [ct_one]; rfl
theorem no_cat (a b : D) : noO (catD a b) = (noO a && noO b) := by
  show ((7 : Int) != 5 && ((a.1 != 5) && noF a.2.2.2 && noF (consD b .nil))) = _
  rw [no_one]; rfl
theorem fl_cat (a b : D) : flO (catD a b) = flO a ++ flO b := by
  show (⟨#[]⟩ : ByteArray) ++ (flD a.1 a.2.2.1 a.2.2.2 ++ fl (consD b .nil)) = _
  rw [fl_oneD, none_app]; rfl
theorem pk_cat (a b : D) (c : Nat) : pkO (catD a b) c = catL (pkO a (c / ctO b)) (pkO b (c % ctO b)) := rfl
theorem cat_congr {a a' b b' : D} (h : EqO a a') (k : EqO b b') : EqO (catD a b) (catD a' b') :=
  ⟨by rw [ct_cat, ct_cat, h.ct, k.ct], by rw [no_cat, no_cat, h.no, k.no], by rw [fl_cat, fl_cat, h.fd, k.fd], fun c => by rw [pk_cat, pk_cat, k.ct, h.pk, k.pk]⟩
def Pos (d : D) : Prop := ∀ c, 0 < (pkO d c).length
theorem Pos.cat {a b : D} (ha : Pos a) (hb : Pos b) : Pos (catD a b) := fun c => by
  have h1 := ha (c / ctO b)
  have h2 := hb (c % ctO b)
  rw [pk_cat, catL_len h1 h2]
  omega
theorem cat_assoc {a b : D} (c : D) (ha : Pos a) (hb : Pos b) : EqO (catD (catD a b) c) (catD a (catD b c)) := by
  refine ⟨by rw [ct_cat, ct_cat, ct_cat, ct_cat, Nat.mul_assoc], by rw [no_cat, no_cat, no_cat, no_cat, Bool.and_assoc], by rw [fl_cat, fl_cat, fl_cat, fl_cat, ByteArray.append_assoc], fun i => ?_⟩
  rw [pk_cat, pk_cat, pk_cat, pk_cat, ct_cat, catL_assoc _ (ha _) (hb _), Nat.mul_comm (ctO b) (ctO c), Nat.div_div_eq_div_mul, Nat.mod_mul_right_div_self, Nat.mod_mul_right_mod]

theorem EqvL.one {a : D} {g : F} (h : EqvL 0 (consD a .nil) g) : ∃ a', g = consD a' .nil ∧ EqO a a' := by
  cases g with
  | nil => exact h.elim
  | cons o n t k r =>
    cases r with
    | nil => exact ⟨(o, n, t, k), rfl, Eqv.eqo h.1⟩
    | cons _ _ _ _ _ => exact h.2.elim
theorem EqvL.two {a b : D} {g : F} (h : EqvL 0 (consD a (consD b .nil)) g) : ∃ a' b', g = consD a' (consD b' .nil) ∧ EqO a a' ∧ EqO b b' := by
  cases g with
  | nil => exact h.elim
  | cons o n t k r =>
    obtain ⟨b', rfl, hb⟩ := EqvL.one (a := b) h.2
    exact ⟨(o, n, t, k), b', rfl, Eqv.eqo h.1, hb⟩
/-- a node whose Kids keep their layouts keeps its own -/
theorem eq_kids {o n : Int} {t : ByteArray} {k k' : F} (h : EqvL 0 k k') (hD : niceD (o, n, t, k) = true) : EqO (o, n, t, k) (o, n, t, k') := by
  have hno := h.no
  have hfl := h.fl
  refine ⟨?_, ?_, ?_, fun c => ?_⟩
  · show ctD o k' = ctD o k; unfold ctD; rw [h.ct, hno]
  · show noD o k' = noD o k; unfold noD; rw [hno]
  · show flD o t k' = flD o t k; unfold flD; rw [hfl]
  · show pkD o n t k' c = pkD o n t k c
    by_cases h6 : o = 6
    · obtain ⟨a, rfl⟩ := kids_one hD (Or.inl h6)
      subst h6
      obtain ⟨a', rfl, ha⟩ := h.one
      show nestL n (pkO a' c) = nestL n (pkO a c)
      rw [ha.pk]
    · by_cases h7 : o = 7
      · obtain ⟨a, b, rfl⟩ := kids_two hD h7
        subst h7
        obtain ⟨a', b', rfl, ha, hb⟩ := h.two
        show catL (pkO a' (c / ctO b')) (pkO b' (c % ctO b')) = catL (pkO a (c / ctO b)) (pkO b (c % ctO b))
        rw [hb.ct, ha.pk, hb.pk]
      · by_cases h8 : o = 8
        · obtain ⟨a, rfl⟩ := kids_one hD (Or.inr h8)
          subst h8
          obtain ⟨a', rfl, ha⟩ := h.one
          have e1 : pkD 8 n t (consD a .nil) c = if noF (consD a .nil) then (if c = 0 then [(0, flD 8 t (consD a .nil))] else pkO a (c - 1)) else pkO a c := rfl
          have e2 : pkD 8 n t (consD a' .nil) c = if noF (consD a' .nil) then (if c = 0 then [(0, flD 8 t (consD a' .nil))] else pkO a' (c - 1)) else pkO a' c := rfl
          have e3 : flD 8 t (consD a' .nil) = flD 8 t (consD a .nil) := by unfold flD; rw [hfl]
          rw [e1, e2, hno, e3, ha.pk, ha.pk]
        · have hkn : k = .nil := kids_none hD h6 h7 h8
          subst hkn
          cases k' with
          | nil => rfl
          | cons _ _ _ _ _ => exact h.elim

/-! ## rows -/

theorem catAll_cons (d : D) {r : F} (h : r ≠ .nil) : catAll (consD d r) = catD d (catAll r) := by
  show (if r.len = 0 then _ else _) = _
  rw [if_neg (fun e => h (F.len_eq_zero e))]; rfl
theorem consD_ne (d : D) (r : F) : consD d r ≠ .nil := by intro e; cases e
theorem all_pos : ∀ P : F, nice P = true → P ≠ .nil → Pos (catAll P) := by
  intro P
  induction P with
  | nil => intro _ h; exact absurd rfl h
  | cons o n t k r _ ih =>
    intro h _
    have hD : niceD (o, n, t, k) = true := by simp only [nice, Bool.and_eq_true] at h; exact Bool.and_eq_true_iff.2 h.1
    have hr : nice r = true := by simp only [nice, Bool.and_eq_true] at h; exact h.2
    by_cases he : r = .nil
    · subst he
      exact pk_pos hD
    · have e : catAll (.cons o n t k r) = catD (o, n, t, k) (catAll r) := catAll_cons (o, n, t, k) he
      rw [e]
      exact Pos.cat (pk_pos hD) (ih hr he)
theorem all_app (Q : F) (hQ : Q ≠ .nil) : ∀ P : F, nice P = true → P ≠ .nil → EqO (catAll (P.app Q)) (catD (catAll P) (catAll Q)) := by
  intro P
  induction P with
  | nil => intro _ h; exact absurd rfl h
  | cons o n t k r _ ih =>
    intro h _
    have hD : niceD (o, n, t, k) = true := by simp only [nice, Bool.and_eq_true] at h; exact Bool.and_eq_true_iff.2 h.1
    have hr : nice r = true := by simp only [nice, Bool.and_eq_true] at h; exact h.2
    have hrq : r.app Q ≠ .nil := by
      intro e
      have := congrArg F.len e
      rw [F.len_app] at this
      simp only [F.len] at this
      exact hQ (F.len_eq_zero (by omega))
    have e : catAll ((F.cons o n t k r).app Q) = catD (o, n, t, k) (catAll (r.app Q)) := catAll_cons (o, n, t, k) hrq
    rw [e]
    by_cases he : r = .nil
    · subst he
      exact EqO.refl _
    · have e2 : catAll (.cons o n t k r) = catD (o, n, t, k) (catAll r) := catAll_cons (o, n, t, k) he
      rw [e2]
      exact (cat_congr (EqO.refl _) (ih hr he)).trans (cat_assoc _ (pk_pos hD) (all_pos r hr he)).symm

/-- a change of rows that keeps their layouts -/
theorem row_eqv (Φ : F → F) (hk : ∀ (o n : Int) (t : ByteArray) (k : F), niceD (o, n, t, k) = true → nice (psD Φ o n t k) = true) (hΦ : ∀ P, nice P = true → P ≠ .nil → EqO (catAll P) (catAll (Φ P))) : ∀ f : F, nice f = true → EqvL 0 f (mapL (rowD Φ) f) := by
  intro f
  induction f with
  | nil => intro _; trivial
  | cons o n t k r ihk ihr =>
    intro h
    have hD : niceD (o, n, t, k) = true := by simp only [nice, Bool.and_eq_true] at h; exact Bool.and_eq_true_iff.2 h.1
    have hr : nice r = true := by simp only [nice, Bool.and_eq_true] at h; exact h.2
    have hkn : nice k = true := (nice_kids hD).2
    refine ⟨?_, ihr hr⟩
    show Eqv 0 (o, n, t, k) (catAll (Φ (psD Φ o n t k)))
    refine (EqO.trans ?_ (hΦ _ (hk o n t k hD) (ps_ne Φ hD))).eqv
    have ih := ihk hkn
    by_cases h7 : o = 7
    · obtain ⟨⟨o1, n1, t1, k1⟩, ⟨o2, n2, t2, k2⟩, rfl⟩ := kids_two hD h7
      subst h7
      simp only [consD, nice, Bool.and_eq_true] at hkn
      have hk1 : niceD (o1, n1, t1, k1) = true := Bool.and_eq_true_iff.2 hkn.1
      have hk2 : niceD (o2, n2, t2, k2) = true := Bool.and_eq_true_iff.2 hkn.2.1
      obtain ⟨a', b', e, ha, hb⟩ := ih.two
      have e' : consD (rowD Φ o1 n1 t1 k1) (consD (rowD Φ o2 n2 t2 k2) .nil) = consD a' (consD b' .nil) := e
      have ea : rowD Φ o1 n1 t1 k1 = a' := congrArg hd e'
      have eb : rowD Φ o2 n2 t2 k2 = b' := congrArg (fun f => hd (tl f)) e'
      rw [← ea] at ha
      rw [← eb] at hb
      have hz : n = 0 ∧ t = ⟨#[]⟩ := by
        unfold niceD nodeB textB numB at hD
        simp at hD
        exact ⟨hD.1.2, hD.1.1.2⟩
      obtain ⟨rfl, rfl⟩ := hz
      have eps : psD Φ 7 0 ⟨#[]⟩ (consD (o1, n1, t1, k1) (consD (o2, n2, t2, k2) .nil)) = (psD Φ o1 n1 t1 k1).app (psD Φ o2 n2 t2 k2) := by
        show (psD Φ o1 n1 t1 k1).app ((psD Φ o2 n2 t2 k2).app .nil) = _
        rw [F.app_nil]
      rw [eps]
      have ha' := ha.trans (hΦ _ (hk _ _ _ _ hk1) (ps_ne Φ hk1)).symm
      have hb' := hb.trans (hΦ _ (hk _ _ _ _ hk2) (ps_ne Φ hk2)).symm
      exact (cat_congr ha' hb').trans (all_app _ (ps_ne Φ hk2) _ (hk _ _ _ _ hk1) (ps_ne Φ hk1)).symm
    · have e : psD Φ o n t k = .cons o n t (mapL (rowD Φ) k) .nil := by unfold psD; rw [if_neg h7, pr_map]
      rw [e]
      exact eq_kids ih hD

/-! ## texts joined -/

theorem text_pair {d : D} {o n : Int} {t : ByteArray} {k : F} (hd : niceD d = true) (h : niceD (o, n, t, k) = true) (hf : fits d o t = true) : EqO (catD d (o, n, t, k)) (d.1, d.2.1, d.2.2.1 ++ t, d.2.2.2) := by
  obtain ⟨o0, n0, t0, k0⟩ := d
  obtain ⟨h1, h2, _⟩ := fits_iff.1 hf
  simp only at h1
  subst h1; subst h2
  have e0 : k0 = .nil := kids_none hd (by omega) (by omega) (by omega)
  have e1 : k = .nil := kids_none h (by omega) (by omega) (by omega)
  subst e0; subst e1
  refine ⟨rfl, rfl, ?_, fun c => ?_⟩
  · rw [fl_cat]
    show (t0 ++ t) ++ (⟨#[]⟩ : ByteArray) = (t0 ++ (⟨#[]⟩ : ByteArray)) ++ (t ++ (⟨#[]⟩ : ByteArray))
    rw [app_none, app_none, app_none]
  · rw [pk_cat]
    show pkD 2 n0 (t0 ++ t) .nil c = catL (pkD 2 n0 t0 .nil (c / ctO (2, n, t, F.nil))) (pkD 2 n t .nil (c % ctO (2, n, t, F.nil)))
    rw [pkD_leaf (by omega) (by omega) (by omega), pkD_leaf (by omega) (by omega) (by omega), pkD_leaf (by omega) (by omega) (by omega)]
    rfl
theorem fz_eqo : ∀ (f : F) (d : D), niceD d = true → nice f = true → EqO (catAll (consD d f)) (catAll (fz d f)) := by
  intro f
  induction f with
  | nil => intro d _ _; exact EqO.refl _
  | cons o n t k r _ ih =>
    intro d hd h
    have hD : niceD (o, n, t, k) = true := by simp only [nice, Bool.and_eq_true] at h; exact Bool.and_eq_true_iff.2 h.1
    have hr : nice r = true := by simp only [nice, Bool.and_eq_true] at h; exact h.2
    have e1 : catAll (consD d (.cons o n t k r)) = catD d (catAll (consD (o, n, t, k) r)) := catAll_cons d (consD_ne (o, n, t, k) r)
    rw [e1]
    by_cases hf : fits d o t = true
    · rw [fz_yes hf]
      refine EqO.trans ?_ (ih _ (nice_join hd hD hf) hr)
      by_cases he : r = .nil
      · subst he
        exact text_pair hd hD hf
      · rw [catAll_cons _ he, catAll_cons _ he]
        exact (cat_assoc _ (pk_pos hd) (pk_pos hD)).symm.trans (cat_congr (text_pair hd hD hf) (EqO.refl _))
    · rw [fz_no (by simpa using hf)]
      have hne : fz (o, n, t, k) r ≠ .nil := by
        intro e
        have := (fz_len r (o, n, t, k)).1
        rw [e] at this
        simp [F.len] at this
      rw [catAll_cons _ hne]
      exact cat_congr (EqO.refl _) (ih _ hD hr)
theorem fzR_eqo {P : F} (h : nice P = true) (hP : P ≠ .nil) : EqO (catAll P) (catAll (fzR P)) := by
  cases P with
  | nil => exact absurd rfl hP
  | cons o n t k r =>
    have hD : niceD (o, n, t, k) = true := by simp only [nice, Bool.and_eq_true] at h; exact Bool.and_eq_true_iff.2 h.1
    have hr : nice r = true := by simp only [nice, Bool.and_eq_true] at h; exact h.2
    exact fz_eqo r (o, n, t, k) hD hr

end Go.Proofs.Ytmkibpimjaofgaa.Nf

