import Derived.Test.YtcpbhkgdeaanmaaPl
/-
  Normal forms as plain functions on lists of documents; nothing here speaks of the program.
-/
set_option linter.unusedVariables false
set_option linter.unusedSimpArgs false
namespace Go.Proofs.Ytcpbhkgdeaanmaa.Nf
open P1

def consD (d : D) (r : F) : F := .cons d.1 d.2.1 d.2.2.1 d.2.2.2 r
def zD : D := (0, 0, ⟨#[]⟩, .nil)
def hd : F → D
  | .nil => zD
  | .cons o n t k _ => (o, n, t, k)
def tl : F → F
  | .nil => .nil
  | .cons _ _ _ _ r => r

abbrev Rule := Int → Int → ByteArray → F → D

def mapL (φ : Rule) : F → F
  | .nil => .nil
  | .cons o n t k r => consD (φ o n t k) (mapL φ r)

theorem mapL_app (φ : Rule) (f g : F) : mapL φ (f.app g) = (mapL φ f).app (mapL φ g) := by
  induction f with
  | nil => rfl
  | cons o n t k r _ ih => simp only [F.app, mapL, ih]; rfl
theorem len_mapL (φ : Rule) (f : F) : (mapL φ f).len = f.len := by
  induction f with
  | nil => rfl
  | cons o n t k r _ ih => simp only [mapL, consD, F.len, ih]

def chL (rule : Rule) : F → F
  | .nil => .nil
  | .cons o n t k r => consD (rule o n t (chL rule k)) (chL rule r)
def chD (rule : Rule) : Rule := fun o n t k => rule o n t (chL rule k)
theorem chL_map (rule : Rule) (f : F) : chL rule f = mapL (chD rule) f := by
  induction f with
  | nil => rfl
  | cons o n t k r _ ih => simp only [chL, mapL, ih]; rfl
theorem len_chL (rule : Rule) (f : F) : (chL rule f).len = f.len := by rw [chL_map, len_mapL]

def nice : F → Bool
  | .nil => true
  | .cons o n t k r => nodeB o n t k.len && nice k && nice r
def niceD (d : D) : Bool := nodeB d.1 d.2.1 d.2.2.1 d.2.2.2.len && nice d.2.2.2
theorem nice_consD (d : D) (r : F) : nice (consD d r) = (niceD d && nice r) := rfl
theorem nice_app (f g : F) : nice (f.app g) = (nice f && nice g) := by
  induction f with
  | nil => simp [F.app, nice]
  | cons o n t k r _ ih => simp [F.app, nice, ih, Bool.and_assoc]
theorem ok_nice : ∀ (f : F) (d : Nat), f.ok d = (nice f && decide (f.deep ≤ d)) := by
  intro f
  induction f with
  | nil => intro d; simp [F.ok, nice, F.deep]
  | cons o n t k r ihk ihr =>
    intro d
    have e0 : (F.cons o n t k r).ok d = (decide (0 < d) && nodeB o n t k.len && k.ok (d - 1) && r.ok d) := rfl
    have e1 : nice (.cons o n t k r) = (nodeB o n t k.len && nice k && nice r) := rfl
    have e2 : (F.cons o n t k r).deep = max (k.deep + 1) r.deep := rfl
    rw [e0, e1, ihk, ihr, Bool.eq_iff_iff]
    simp only [Bool.and_eq_true, decide_eq_true_eq, e2]
    constructor
    · rintro ⟨⟨⟨h0, h1⟩, h2, h3⟩, h4, h5⟩; exact ⟨⟨⟨h1, h2⟩, h4⟩, by omega⟩
    · rintro ⟨⟨⟨h1, h2⟩, h4⟩, h5⟩; exact ⟨⟨⟨by omega, h1⟩, h2, by omega⟩, h4, by omega⟩

theorem valid_nice {o n : Int} {t : ByteArray} {k : F} (h : validD o n t k = true) : niceD (o, n, t, k) = true ∧ k.deep ≤ 39 ∧ 1 + k.cnt ≤ 80 := by
  unfold validD okD at h
  rw [ok_nice, Bool.and_eq_true, Bool.and_eq_true, Bool.and_eq_true, Bool.and_eq_true] at h
  exact ⟨Bool.and_eq_true_iff.2 ⟨h.1.1.2, h.1.2.1⟩, of_decide_eq_true h.1.2.2, of_decide_eq_true h.2⟩

theorem nice_text {o n : Int} {t : ByteArray} {l : Nat} (h : nodeB o n t l = true) : t.size ≤ 12 := by
  unfold nodeB textB at h
  simp only [Bool.and_eq_true] at h
  obtain ⟨⟨_, h⟩, _⟩ := h
  split at h
  · have := (tv_len h)
    have e : t.data.toList.length = t.size := Array.length_toList
    omega
  · rw [decide_eq_true_eq] at h
    rw [h]; decide
theorem nice_size : ∀ (f : F), nice f = true → f.size ≤ 13 * f.cnt := by
  intro f
  induction f with
  | nil => intro _; simp [F.size]
  | cons o n t k r ihk ihr =>
    intro h
    simp only [nice, Bool.and_eq_true] at h
    have h1 := nice_text h.1.1
    have h2 := ihk h.1.2
    have h3 := ihr h.2
    simp only [F.size, F.cnt]
    omega

theorem nice_kids {o n : Int} {t : ByteArray} {k : F} (h : niceD (o, n, t, k) = true) : (k.len : Int) = kidsOf o ∧ nice k = true := by
  unfold niceD nodeB at h
  simp only [Bool.and_eq_true, decide_eq_true_eq] at h
  exact ⟨h.1.1.1, h.2⟩
theorem kids_two {o n : Int} {t : ByteArray} {k : F} (h : niceD (o, n, t, k) = true) (ho : o = 7) : ∃ a b : D, k = consD a (consD b .nil) := by
  have h1 := (nice_kids h).1
  subst ho
  rw [show kidsOf 7 = 2 by decide] at h1
  cases k with
  | nil => simp [F.len] at h1
  | cons o1 n1 t1 k1 r1 =>
    cases r1 with
    | nil => simp [F.len] at h1
    | cons o2 n2 t2 k2 r2 =>
      cases r2 with
      | nil => exact ⟨(o1, n1, t1, k1), (o2, n2, t2, k2), rfl⟩
      | cons o3 n3 t3 k3 r3 => simp [F.len] at h1; omega
theorem kids_one {o n : Int} {t : ByteArray} {k : F} (h : niceD (o, n, t, k) = true) (ho : o = 6 ∨ o = 8) : ∃ a : D, k = consD a .nil := by
  have h1 := (nice_kids h).1
  rw [show kidsOf o = 1 by rcases ho with rfl | rfl <;> decide] at h1
  cases k with
  | nil => simp [F.len] at h1
  | cons o1 n1 t1 k1 r1 =>
    cases r1 with
    | nil => exact ⟨(o1, n1, t1, k1), rfl⟩
    | cons o2 n2 t2 k2 r2 => simp [F.len] at h1; omega
theorem kids_none {o n : Int} {t : ByteArray} {k : F} (h : niceD (o, n, t, k) = true) (h6 : o ≠ 6) (h7 : o ≠ 7) (h8 : o ≠ 8) : k = .nil := by
  have h1 := (nice_kids h).1
  rcases kidsOf_ways o with ⟨_, e⟩ | ⟨_, e⟩ | ⟨_, e⟩ | ⟨_, e⟩ | ⟨_, e⟩ | ⟨q, e⟩ | ⟨q, e⟩ | ⟨q, e⟩ | ⟨_, _, _, _, _, _, _, _, e⟩
  · rw [e] at h1; exact F.len_eq_zero (by omega)
  · rw [e] at h1; exact F.len_eq_zero (by omega)
  · rw [e] at h1; exact F.len_eq_zero (by omega)
  · rw [e] at h1; exact F.len_eq_zero (by omega)
  · rw [e] at h1; exact F.len_eq_zero (by omega)
  · exact absurd q h6
  · exact absurd q h8
  · exact absurd q h7
  · rw [e] at h1; omega

/-! ## DropEmpty -/

def emR : Rule := fun o n t k =>
  if o = 7 ∧ (hd k).1 = 1 then hd (tl k) else if o = 7 ∧ (hd (tl k)).1 = 1 then hd k else if (o = 6 ∨ o = 8) ∧ (hd k).1 = 1 then hd k else (o, n, t, k)

end Go.Proofs.Ytcpbhkgdeaanmaa.Nf

/-
  PushNest as a plain function: what it makes is well-formed, and not too large; nothing here speaks of the program.
-/
set_option linter.unusedVariables false
set_option linter.unusedSimpArgs false
namespace Go.Proofs.Ytcpbhkgdeaanmaa.Nf
open P1
end Go.Proofs.Ytcpbhkgdeaanmaa.Nf

/-
  PushNest as a plain function: pushing again changes nothing; groups and pairs stay; nothing here speaks of the program.
-/
set_option linter.unusedVariables false
set_option linter.unusedSimpArgs false
namespace Go.Proofs.Ytcpbhkgdeaanmaa.Nf
open P1
end Go.Proofs.Ytcpbhkgdeaanmaa.Nf

/-
  Rows of parts, as plain functions: TurnRight and FuseText; nothing here speaks of the program.
-/
set_option linter.unusedVariables false
set_option linter.unusedSimpArgs false
namespace Go.Proofs.Ytcpbhkgdeaanmaa.Nf
open P1

def catOn : F → D → D
  | .nil, d => d
  | .cons o n t k r, d => (7, 0, ⟨#[]⟩, .cons o n t k (consD (catOn r d) .nil))
def catAll : F → D
  | .nil => (1, 0, ⟨#[]⟩, .nil)
  | .cons o n t k r => if r.len = 0 then (o, n, t, k) else (7, 0, ⟨#[]⟩, .cons o n t k (consD (catAll r) .nil))
theorem catAll_snoc (p : F) (d : D) : catAll (p.app (consD d .nil)) = catOn p d := by
  induction p with
  | nil => rfl
  | cons o n t k r _ ih =>
    have h : (r.app (consD d .nil)).len ≠ 0 := by rw [F.len_app]; simp [consD, F.len]
    show (if (r.app (consD d .nil)).len = 0 then (o, n, t, k) else (7, 0, ⟨#[]⟩, .cons o n t k (consD (catAll (r.app (consD d .nil))) .nil))) = _
    rw [if_neg h, ih]
    rfl
def parts0 : F → F
  | .nil => .nil
  | .cons o n t k r => (if o = 7 then parts0 k else .cons o n t k .nil).app (parts0 r)
def ptD (o n : Int) (t : ByteArray) (k : F) : F := if o = 7 then parts0 k else .cons o n t k .nil
theorem parts0_cons (o n : Int) (t : ByteArray) (k r : F) : parts0 (.cons o n t k r) = (ptD o n t k).app (parts0 r) := rfl
def pr (g : F → F) : F → F × F
  | .nil => (.nil, .nil)
  | .cons o n t k r => ((if o = 7 then (pr g k).1 else .cons o n t (pr g k).2 .nil).app (pr g r).1, consD (catAll (g (if o = 7 then (pr g k).1 else .cons o n t (pr g k).2 .nil))) (pr g r).2)
def psD (g : F → F) (o n : Int) (t : ByteArray) (k : F) : F := if o = 7 then (pr g k).1 else .cons o n t (pr g k).2 .nil
def rowD (g : F → F) : Rule := fun o n t k => catAll (g (psD g o n t k))
theorem pr_cons (g : F → F) (o n : Int) (t : ByteArray) (k r : F) : pr g (.cons o n t k r) = ((psD g o n t k).app (pr g r).1, consD (rowD g o n t k) (pr g r).2) := rfl
theorem pr_map (g : F → F) (f : F) : (pr g f).2 = mapL (rowD g) f := by
  induction f with
  | nil => rfl
  | cons o n t k r _ ih => rw [pr_cons]; show consD (rowD g o n t k) (pr g r).2 = _; rw [ih]; rfl
def kidR (g : F → F) : Rule := fun o n t k => (o, n, t, mapL (rowD g) k)
theorem pr_parts (g : F → F) (f : F) : (pr g f).1 = mapL (kidR g) (parts0 f) := by
  induction f with
  | nil => rfl
  | cons o n t k r ihk ihr =>
    rw [pr_cons, parts0_cons, mapL_app]
    show (psD g o n t k).app (pr g r).1 = _
    rw [ihr]
    congr 1
    unfold psD ptD
    split
    · exact ihk
    · show F.cons o n t (pr g k).2 .nil = consD (o, n, t, mapL (rowD g) k) .nil
      rw [pr_map]; rfl
theorem ps_parts (g : F → F) (o n : Int) (t : ByteArray) (k : F) : psD g o n t k = mapL (kidR g) (ptD o n t k) := by
  have h := pr_parts g (.cons o n t k .nil)
  rw [pr_cons, parts0_cons] at h
  have e1 : (pr g .nil).1 = .nil := rfl
  have e2 : parts0 .nil = .nil := rfl
  rw [e1, e2, F.app_nil, F.app_nil] at h
  exact h

def noCat : F → Bool
  | .nil => true
  | .cons o _ _ _ r => (o != 7) && noCat r
theorem noCat_app (f g : F) : noCat (f.app g) = (noCat f && noCat g) := by
  induction f with
  | nil => simp [F.app, noCat]
  | cons o n t k r _ ih => simp [F.app, noCat, ih, Bool.and_assoc]
theorem parts_noCat : ∀ f : F, noCat (parts0 f) = true := by
  intro f
  induction f with
  | nil => rfl
  | cons o n t k r ihk ihr =>
    rw [parts0_cons, noCat_app, ihr, Bool.and_true]
    unfold ptD
    split
    · exact ihk
    · rename_i h; simp [noCat, h]
theorem parts_nice : ∀ f : F, nice f = true → nice (parts0 f) = true := by
  intro f
  induction f with
  | nil => intro _; rfl
  | cons o n t k r ihk ihr =>
    intro h
    have hD : niceD (o, n, t, k) = true := by simp only [nice, Bool.and_eq_true] at h; exact Bool.and_eq_true_iff.2 h.1
    have hr : nice r = true := by simp only [nice, Bool.and_eq_true] at h; exact h.2
    rw [parts0_cons, nice_app, ihr hr, Bool.and_true]
    unfold ptD
    split
    · exact ihk (nice_kids hD).2
    · rw [show nice (.cons o n t k .nil) = (niceD (o, n, t, k) && nice .nil) from rfl, hD]; rfl
theorem parts_len : ∀ f : F, nice f = true → f.len ≤ (parts0 f).len := by
  intro f
  induction f with
  | nil => intro _; exact Nat.le_refl _
  | cons o n t k r ihk ihr =>
    intro h
    have hD : niceD (o, n, t, k) = true := by simp only [nice, Bool.and_eq_true] at h; exact Bool.and_eq_true_iff.2 h.1
    have hr : nice r = true := by simp only [nice, Bool.and_eq_true] at h; exact h.2
    rw [parts0_cons, F.len_app]
    have h1 := ihr hr
    have h2 : 1 ≤ (ptD o n t k).len := by
      unfold ptD
      split
      · rename_i h7
        have := ihk (nice_kids hD).2
        obtain ⟨a, b, hab⟩ := kids_two hD h7
        rw [hab] at this ⊢
        have e : (consD a (consD b .nil)).len = 2 := rfl
        omega
      · simp [F.len]
    show r.len + 1 ≤ _
    omega
theorem parts_cnt : ∀ f : F, nice f = true → (parts0 f).cnt + (parts0 f).len = f.cnt + f.len := by
  intro f
  induction f with
  | nil => intro _; rfl
  | cons o n t k r ihk ihr =>
    intro h
    have hD : niceD (o, n, t, k) = true := by simp only [nice, Bool.and_eq_true] at h; exact Bool.and_eq_true_iff.2 h.1
    have hr : nice r = true := by simp only [nice, Bool.and_eq_true] at h; exact h.2
    rw [parts0_cons, F.len_app, F.cnt_app]
    have h1 := ihr hr
    have e : (F.cons o n t k r).cnt + (F.cons o n t k r).len = (1 + k.cnt) + 1 + (r.cnt + r.len) := by show 1 + k.cnt + r.cnt + (r.len + 1) = _; omega
    have h2 : (ptD o n t k).cnt + (ptD o n t k).len = (1 + k.cnt) + 1 := by
      unfold ptD
      split
      · rename_i h7
        have := ihk (nice_kids hD).2
        obtain ⟨a, b, hab⟩ := kids_two hD h7
        have e2 : k.len = 2 := by rw [hab]; rfl
        omega
      · show 1 + k.cnt + 0 + 1 = _; omega
    rw [e]
    omega

end Go.Proofs.Ytcpbhkgdeaanmaa.Nf

