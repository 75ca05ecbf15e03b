import Derived.Test.YtmkibpimjaofgaaPl
/-
  Normal forms as plain functions on lists of documents; nothing here speaks of the program.
-/
set_option linter.unusedVariables false
set_option linter.unusedSimpArgs false
namespace Go.Proofs.Ytmkibpimjaofgaa.Nf
open P1

def consD (d : D) (r : F) : F := .cons d.1 d.2.1 d.2.2.1 d.2.2.2 r
def zD : D := (0, 0, ⟨#[]⟩, .nil)
def hd : F → D
  | .nil => zD
  | .cons o n t k _ => (o, n, t, k)
def nice : F → Bool
  | .nil => true
  | .cons o n t k r => nodeB o n t k.len && nice k && nice r
def niceD (d : D) : Bool := nodeB d.1 d.2.1 d.2.2.1 d.2.2.2.len && nice d.2.2.2
theorem nice_consD (d : D) (r : F) : nice (consD d r) = (niceD d && nice r) := rfl
theorem nice_app (f g : F) : nice (f.app g) = (nice f && nice g) := by
  induction f with
  | nil => simp [F.app, nice]
  | cons o n t k r _ ih => simp [F.app, nice, ih, Bool.and_assoc]
theorem ok_nice : ∀ (f : F) (d : Nat), f.ok d = (nice f && decide (f.deep ≤ d)) := by
  intro f
  induction f with
  | nil => intro d; simp [F.ok, nice, F.deep]
  | cons o n t k r ihk ihr =>
    intro d
    have e0 : (F.cons o n t k r).ok d = (decide (0 < d) && nodeB o n t k.len && k.ok (d - 1) && r.ok d) := rfl
    have e1 : nice (.cons o n t k r) = (nodeB o n t k.len && nice k && nice r) := rfl
    have e2 : (F.cons o n t k r).deep = max (k.deep + 1) r.deep := rfl
    rw [e0, e1, ihk, ihr, Bool.eq_iff_iff]
    simp only [Bool.and_eq_true, decide_eq_true_eq, e2]
    constructor
    · rintro ⟨⟨⟨h0, h1⟩, h2, h3⟩, h4, h5⟩; exact ⟨⟨⟨h1, h2⟩, h4⟩, by omega⟩
    · rintro ⟨⟨⟨h1, h2⟩, h4⟩, h5⟩; exact ⟨⟨⟨by omega, h1⟩, h2, by omega⟩, h4, by omega⟩

theorem valid_nice {o n : Int} {t : ByteArray} {k : F} (h : validD o n t k = true) : niceD (o, n, t, k) = true ∧ k.deep ≤ 39 ∧ 1 + k.cnt ≤ 80 := by
  unfold validD okD at h
  rw [ok_nice, Bool.and_eq_true, Bool.and_eq_true, Bool.and_eq_true, Bool.and_eq_true] at h
  exact ⟨Bool.and_eq_true_iff.2 ⟨h.1.1.2, h.1.2.1⟩, of_decide_eq_true h.1.2.2, of_decide_eq_true h.2⟩

theorem nice_text {o n : Int} {t : ByteArray} {l : Nat} (h : nodeB o n t l = true) : t.size ≤ 12 := by
  unfold nodeB textB at h
  simp only [Bool.and_eq_true] at h
  obtain ⟨⟨_, h⟩, _⟩ := h
  split at h
  · have := (tv_len h)
    have e : t.data.toList.length = t.size := Array.length_toList
    omega
  · rw [decide_eq_true_eq] at h
    rw [h]; decide
theorem nice_size : ∀ (f : F), nice f = true → f.size ≤ 13 * f.cnt := by
  intro f
  induction f with
  | nil => intro _; simp [F.size]
  | cons o n t k r ihk ihr =>
    intro h
    simp only [nice, Bool.and_eq_true] at h
    have h1 := nice_text h.1.1
    have h2 := ihk h.1.2
    have h3 := ihr h.2
    simp only [F.size, F.cnt]
    omega

theorem nice_kids {o n : Int} {t : ByteArray} {k : F} (h : niceD (o, n, t, k) = true) : (k.len : Int) = kidsOf o ∧ nice k = true := by
  unfold niceD nodeB at h
  simp only [Bool.and_eq_true, decide_eq_true_eq] at h
  exact ⟨h.1.1.1, h.2⟩

def nests (i : Nat) (d : D) : D := if h : 0 < i then nests (i - min i 9) (6, ((min i 9 : Nat) : Int), ⟨#[]⟩, consD d .nil) else d
termination_by i
decreasing_by omega

end Go.Proofs.Ytmkibpimjaofgaa.Nf

namespace Go.Proofs.Ytmkibpimjaofgaa.Nf
open P1
end Go.Proofs.Ytmkibpimjaofgaa.Nf

namespace Go.Proofs.Ytmkibpimjaofgaa.Nf
open P1
theorem cnt_consD (m : Int → Bool) (d : D) (r : F) : cntF m (consD d r) = (if m d.1 then 1 else 0) + cntF m d.2.2.2 + cntF m r := rfl
theorem nests_ops (m : Int → Bool) (h6 : m 6 = false) : ∀ (q i : Nat) (d : D), i ≤ q → cntF m (consD (nests i d) .nil) = cntF m (consD d .nil) := by
  intro q
  induction q with
  | zero => intro i d hi; rw [nests, dif_neg (by omega)]
  | succ q ih =>
    intro i d hi
    rw [nests]
    split
    · rename_i h0
      rw [ih _ _ (by omega), cnt_consD]
      show (if m 6 then 1 else 0) + cntF m (consD d .nil) + cntF m .nil = _
      rw [h6]
      simp [cntF]
    · rfl
end Go.Proofs.Ytmkibpimjaofgaa.Nf

namespace Go.Proofs.Ytmkibpimjaofgaa.Nf
open P1

def catOn : F → D → D
  | .nil, d => d
  | .cons o n t k r, d => (7, 0, ⟨#[]⟩, .cons o n t k (consD (catOn r d) .nil))
def catAll : F → D
  | .nil => (1, 0, ⟨#[]⟩, .nil)
  | .cons o n t k r => if r.len = 0 then (o, n, t, k) else (7, 0, ⟨#[]⟩, .cons o n t k (consD (catAll r) .nil))
theorem catAll_snoc (p : F) (d : D) : catAll (p.app (consD d .nil)) = catOn p d := by
  induction p with
  | nil => rfl
  | cons o n t k r _ ih =>
    have h : (r.app (consD d .nil)).len ≠ 0 := by rw [F.len_app]; simp [consD, F.len]
    show (if (r.app (consD d .nil)).len = 0 then (o, n, t, k) else (7, 0, ⟨#[]⟩, .cons o n t k (consD (catAll (r.app (consD d .nil))) .nil))) = _
    rw [if_neg h, ih]
    rfl
end Go.Proofs.Ytmkibpimjaofgaa.Nf

