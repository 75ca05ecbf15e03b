import Derived.Test.YtjcaiecapapceaaPl
/-
 Normal forms as plain functions on lists of documents; nothing here speaks of the program.
-/
set_option linter.unusedVariables false
set_option linter.unusedSimpArgs false
namespace Go.Proofs.Ytjcaiecapapceaa.Nf
open P1
def consD (d : D) (r : F) : F := .cons d.1 d.2.1 d.2.2.1 d.2.2.2 r
def zD : D := (0, 0, ⟨#[]⟩, .nil)
def hd : F → D
 | .nil => zD
 | .cons o n t k _ => (o, n, t, k)
def tl : F → F
 | .nil => .nil
 | .cons _ _ _ _ r => r
abbrev Rule := Int → Int → ByteArray → F → D
def mapL (φ : Rule) : F → F
 | .nil => .nil
 | .cons o n t k r => consD (φ o n t k) (mapL φ r)
theorem mapL_app (φ : Rule) (f g : F) : mapL φ (f.app g) = (mapL φ f).app (mapL φ g) := by
 induction f with
 | nil => rfl
 | cons o n t k r _ ih => simp only [F.app, mapL, ih]; rfl
theorem len_mapL (φ : Rule) (f : F) : (mapL φ f).len = f.len := by
 induction f with
 | nil => rfl
 | cons o n t k r _ ih => simp only [mapL, consD, F.len, ih]
def chL (rule : Rule) : F → F
 | .nil => .nil
 | .cons o n t k r => consD (rule o n t (chL rule k)) (chL rule r)
def chD (rule : Rule) : Rule := fun o n t k => rule o n t (chL rule k)
theorem chL_map (rule : Rule) (f : F) : chL rule f = mapL (chD rule) f := by
 induction f with
 | nil => rfl
 | cons o n t k r _ ih => simp only [chL, mapL, ih]; rfl
theorem len_chL (rule : Rule) (f : F) : (chL rule f).len = f.len := by rw [chL_map, len_mapL]
def nice : F → Bool
 | .nil => true
 | .cons o n t k r => nodeB o n t k.len && nice k && nice r
def niceD (d : D) : Bool := nodeB d.1 d.2.1 d.2.2.1 d.2.2.2.len && nice d.2.2.2
theorem nice_consD (d : D) (r : F) : nice (consD d r) = (niceD d && nice r) := rfl
theorem nice_app (f g : F) : nice (f.app g) = (nice f && nice g) := by
 induction f with
 | nil => simp [F.app, nice]
 | cons o n t k r _ ih => simp [F.app, nice, ih, Bool.and_assoc]
theorem ok_nice : ∀ (f : F) (d : Nat), f.ok d = (nice f && decide (f.deep ≤ d)) := by
 intro f
 induction f with
 | nil => intro d; simp [F.ok, nice, F.deep]
 | cons o n t k r ihk ihr =>
   intro d
   have e0 : (F.cons o n t k r).ok d = (decide (0 < d) && nodeB o n t k.len && k.ok (d - 1) && r.ok d) := rfl
   have e1 : nice (.cons o n t k r) = (nodeB o n t k.len && nice k && nice r) := rfl
   have e2 : (F.cons o n t k r).deep = max (k.deep + 1) r.deep := rfl
   rw [e0, e1, ihk, ihr, Bool.eq_iff_iff]
   simp only [Bool.and_eq_true, decide_eq_true_eq, e2]
   constructor
   ·rintro ⟨⟨⟨h0, h1⟩, h2, h3⟩, h4, h5⟩; exact ⟨⟨⟨h1, h2⟩, h4⟩, by omega⟩
   ·rintro ⟨⟨⟨h1, h2⟩, h4⟩, h5⟩; exact ⟨⟨⟨by omega, h1⟩, h2, by omega⟩, h4, by omega⟩
theorem valid_nice {o n : Int} {t : ByteArray} {k : F} (h : validD o n t k = true) : niceD (o, n, t, k) = true ∧ k.deep ≤ 39 ∧ 1 + k.cnt ≤ 80 := by
 unfold validD okD at h
 rw [ok_nice, Bool.and_eq_true, Bool.and_eq_true, Bool.and_eq_true, Bool.and_eq_true] at h
 exact ⟨Bool.and_eq_true_iff.2 ⟨h.1.1.2, h.1.2.1⟩, of_decide_eq_true h.1.2.2, of_decide_eq_true h.2⟩
theorem nice_text {o n : Int} {t : ByteArray} {l : Nat} (h : nodeB o n t l = true) : t.size ≤ 12 := by
 unfold nodeB textB at h
 simp only [Bool.and_eq_true] at h
 obtain ⟨⟨_, h⟩, _⟩ := h
 split at h
 ·have := (tv_len h)
  have e : t.data.toList.length = t.size := Array.length_toList
  omega
 ·rw [decide_eq_true_eq] at h
  rw [h]; decide
theorem nice_size : ∀ (f : F), nice f = true → f.size ≤ 13 * f.cnt := by
 intro f
 induction f with
 | nil => intro _; simp [F.size]
 | cons o n t k r ihk ihr =>
   intro h
   simp only [nice, Bool.and_eq_true] at h
   have h1 := nice_text h.1.1
   have h2 := ihk h.1.2
   have h3 := ihr h.2
   simp only [F.size, F.cnt]
   omega
theorem nice_kids {o n : Int} {t : ByteArray} {k : F} (h : niceD (o, n, t, k) = true) : (k.len : Int) = kidsOf o ∧ nice k = true := by
 unfold niceD nodeB at h
 simp only [Bool.and_eq_true, decide_eq_true_eq] at h
 exact ⟨h.1.1.1, h.2⟩
theorem kids_one {o n : Int} {t : ByteArray} {k : F} (h : niceD (o, n, t, k) = true) (ho : o = 6 ∨ o = 8) : ∃ a : D, k = consD a .nil := by
 have h1 := (nice_kids h).1
 rw [show kidsOf o = 1 by rcases ho with rfl | rfl <;> decide] at h1
 cases k with
 | nil => simp [F.len] at h1
 | cons o1 n1 t1 k1 r1 =>
   cases r1 with
   | nil => exact ⟨(o1, n1, t1, k1), rfl⟩
   | cons o2 n2 t2 k2 r2 => simp [F.len] at h1; omega
def emR : Rule := fun o n t k =>
 if o = 7 ∧ (hd k).1 = 1 then hd (tl k) else if o = 7 ∧ (hd (tl k)).1 = 1 then hd k else if (o = 6 ∨ o = 8) ∧ (hd k).1 = 1 then hd k else (o, n, t, k)
def nlF (f : F) : Nat := cntF (fun x => x == 3 || x == 4 || x == 5) f
def hrF (f : F) : Nat := cntF (fun x => x == 5) f
def grR : Rule := fun o n t k => if o = 8 ∧ ((hd k).1 = 8 ∨ nlF k = 0 ∨ 0 < hrF k) then hd k else (o, n, t, k)
def nests (i : Nat) (d : D) : D := if h : 0 < i then nests (i - min i 9) (6, ((min i 9 : Nat) : Int), ⟨#[]⟩, consD d .nil) else d
termination_by i
decreasing_by omega
def pushL : F → Nat → F
 | .nil, _ => .nil
 | .cons o n t k r, i => consD (if o = 6 then hd (pushL k (i + n.toNat)) else if o = 3 ∨ o = 4 ∨ o = 5 then nests i (o, n, t, k) else (o, n, t, pushL k i)) (pushL r i)
def pushD (i : Nat) : Rule := fun o n t k => if o = 6 then hd (pushL k (i + n.toNat)) else if o = 3 ∨ o = 4 ∨ o = 5 then nests i (o, n, t, k) else (o, n, t, pushL k i)
end Go.Proofs.Ytjcaiecapapceaa.Nf
namespace Go.Proofs.Ytjcaiecapapceaa.Nf
open P1
theorem hd_consD (d : D) (r : F) : hd (consD d r) = d := rfl
end Go.Proofs.Ytjcaiecapapceaa.Nf
namespace Go.Proofs.Ytjcaiecapapceaa.Nf
open P1
end Go.Proofs.Ytjcaiecapapceaa.Nf
namespace Go.Proofs.Ytjcaiecapapceaa.Nf
open P1
def catAll : F → D
 | .nil => (1, 0, ⟨#[]⟩, .nil)
 | .cons o n t k r => if r.len = 0 then (o, n, t, k) else (7, 0, ⟨#[]⟩, .cons o n t k (consD (catAll r) .nil))
def pr (g : F → F) : F → F × F
 | .nil => (.nil, .nil)
 | .cons o n t k r => ((if o = 7 then (pr g k).1 else .cons o n t (pr g k).2 .nil).app (pr g r).1, consD (catAll (g (if o = 7 then (pr g k).1 else .cons o n t (pr g k).2 .nil))) (pr g r).2)
def psD (g : F → F) (o n : Int) (t : ByteArray) (k : F) : F := if o = 7 then (pr g k).1 else .cons o n t (pr g k).2 .nil
def rowD (g : F → F) : Rule := fun o n t k => catAll (g (psD g o n t k))
end Go.Proofs.Ytjcaiecapapceaa.Nf
