import Derived.Test.YtjcaiecapapceaaPl
/-
 Normal forms as plain functions on lists of documents; nothing here speaks of the program.
-/
set_option linter.unusedVariables false
set_option linter.unusedSimpArgs false
namespace Go.Proofs.Ytjcaiecapapceaa.Nf
open P1
def consD (d : D) (r : F) : F := .cons d.1 d.2.1 d.2.2.1 d.2.2.2 r
def zD : D := (0, 0, ⟨#[]⟩, .nil)
def hd : F → D
 | .nil => zD
 | .cons o n t k _ => (o, n, t, k)
def tl : F → F
 | .nil => .nil
 | .cons _ _ _ _ r => r
abbrev Rule := Int → Int → ByteArray → F → D
def mapL (φ : Rule) : F → F
 | .nil => .nil
 | .cons o n t k r => consD (φ o n t k) (mapL φ r)
theorem mapL_app (φ : Rule) (f g : F) : mapL φ (f.app g) = (mapL φ f).app (mapL φ g) := by
 induction f with
 | nil => rfl
 | cons o n t k r _ ih => simp only [F.app, mapL, ih]; rfl
theorem len_mapL (φ : Rule) (f : F) : (mapL φ f).len = f.len := by
 induction f with
 | nil => rfl
 | cons o n t k r _ ih => simp only [mapL, consD, F.len, ih]
def chL (rule : Rule) : F → F
 | .nil => .nil
 | .cons o n t k r => consD (rule o n t (chL rule k)) (chL rule r)
def chD (rule : Rule) : Rule := fun o n t k => rule o n t (chL rule k)
theorem chL_map (rule : Rule) (f : F) : chL rule f = mapL (chD rule) f := by
 induction f with
 | nil => rfl
 | cons o n t k r _ ih => simp only [chL, mapL, ih]; rfl
theorem len_chL (rule : Rule) (f : F) : (chL rule f).len = f.len := by rw [chL_map, len_mapL]
def nice : F → Bool
 | .nil => true
 | .cons o n t k r => nodeB o n t k.len && nice k && nice r
def niceD (d : D) : Bool := nodeB d.1 d.2.1 d.2.2.1 d.2.2.2.len && nice d.2.2.2
theorem nice_consD (d : D) (r : F) : nice (consD d r) = (niceD d && nice r) := rfl
theorem nice_app (f g : F) : nice (f.app g) = (nice f && nice g) := by
 induction f with
 | nil => simp [F.app, nice]
 | cons o n t k r _ ih => simp [F.app, nice, ih, Bool.and_assoc]
theorem ok_nice : ∀ (f : F) (d : Nat), f.ok d = (nice f && decide (f.deep ≤ d)) := by
 intro f
 induction f with
 | nil => intro d; simp [F.ok, nice, F.deep]
 | cons o n t k r ihk ihr =>
   intro d
   have e0 : (F.cons o n t k r).ok d = (decide (0 < d) && nodeB o n t k.len && k.ok (d - 1) && r.ok d) := rfl
   have e1 : nice (.cons o n t k r) = (nodeB o n t k.len && nice k && nice r) := rfl
   have e2 : (F.cons o n t k r).deep = max (k.deep + 1) r.deep := rfl
   rw [e0, e1, ihk, ihr, Bool.eq_iff_iff]
   simp only [Bool.and_eq_true, decide_eq_true_eq, e2]
   constructor
   ·rintro ⟨⟨⟨h0, h1⟩, h2, h3⟩, h4, h5⟩; exact ⟨⟨⟨h1, h2⟩, h4⟩, by omega⟩
   ·rintro ⟨⟨⟨h1, h2⟩, h4⟩, h5⟩; exact ⟨⟨⟨by omega, h1⟩, h2, by omega⟩, h4, by omega⟩
theorem valid_nice {o n : Int} {t : ByteArray} {k : F} (h : validD o n t k = true) : niceD (o, n, t, k) = true ∧ k.deep ≤ 39 ∧ 1 + k.cnt ≤ 80 := by
 unfold validD okD at h
 rw [ok_nice, Bool.and_eq_true, Bool.and_eq_true, Bool.and_eq_true, Bool.and_eq_true] at h
 exact ⟨Bool.and_eq_true_iff.2 ⟨h.1.1.2, h.1.2.1⟩, of_decide_eq_true h.1.2.2, of_decide_eq_true h.2⟩
theorem nice_text {o n : Int} {t : ByteArray} {l : Nat} (h : nodeB o n t l = true) : t.size ≤ 12 := by
 unfold nodeB textB at h
 simp only [Bool.and_eq_true] at h
 obtain ⟨⟨_, h⟩, _⟩ := h
 split at h
 ·have := (tv_len h)
  have e : t.data.toList.length = t.size := Array.length_toList
  omega
 ·rw [decide_eq_true_eq] at h
  rw [h]; decide
theorem nice_size : ∀ (f : F), nice f = true → f.size ≤ 13 * f.cnt := by
 intro f
 induction f with
 | nil => intro _; simp [F.size]
 | cons o n t k r ihk ihr =>
   intro h
   simp only [nice, Bool.and_eq_true] at h
   have h1 := nice_text h.1.1
   have h2 := ihk h.1.2
   have h3 := ihr h.2
   simp only [F.size, F.cnt]
   omega
theorem nice_kids {o n : Int} {t : ByteArray} {k : F} (h : niceD (o, n, t, k) = true) : (k.len : Int) = kidsOf o ∧ nice k = true := by
 unfold niceD nodeB at h
 simp only [Bool.and_eq_true, decide_eq_true_eq] at h
 exact ⟨h.1.1.1, h.2⟩
theorem kids_two {o n : Int} {t : ByteArray} {k : F} (h : niceD (o, n, t, k) = true) (ho : o = 7) : ∃ a b : D, k = consD a (consD b .nil) := by
 have h1 := (nice_kids h).1
 subst ho
 rw [show kidsOf 7 = 2 by decide] at h1
 cases k with
 | nil => simp [F.len] at h1
 | cons o1 n1 t1 k1 r1 =>
   cases r1 with
   | nil => simp [F.len] at h1
   | cons o2 n2 t2 k2 r2 =>
     cases r2 with
     | nil => exact ⟨(o1, n1, t1, k1), (o2, n2, t2, k2), rfl⟩
     | cons o3 n3 t3 k3 r3 => simp [F.len] at h1; omega
theorem kids_one {o n : Int} {t : ByteArray} {k : F} (h : niceD (o, n, t, k) = true) (ho : o = 6 ∨ o = 8) : ∃ a : D, k = consD a .nil := by
 have h1 := (nice_kids h).1
 rw [show kidsOf o = 1 by rcases ho with rfl | rfl <;> decide] at h1
 cases k with
 | nil => simp [F.len] at h1
 | cons o1 n1 t1 k1 r1 =>
   cases r1 with
   | nil => exact ⟨(o1, n1, t1, k1), rfl⟩
   | cons o2 n2 t2 k2 r2 => simp [F.len] at h1; omega
theorem kids_none {o n : Int} {t : ByteArray} {k : F} (h : niceD (o, n, t, k) = true) (h6 : o ≠ 6) (h7 : o ≠ 7) (h8 : o ≠ 8) : k = .nil := by
 have h1 := (nice_kids h).1
 rcases kidsOf_ways o with ⟨_, e⟩ | ⟨_, e⟩ | ⟨_, e⟩ | ⟨_, e⟩ | ⟨_, e⟩ | ⟨q, e⟩ | ⟨q, e⟩ | ⟨q, e⟩ | ⟨_, _, _, _, _, _, _, _, e⟩
 ·rw [e] at h1; exact F.len_eq_zero (by omega)
 ·rw [e] at h1; exact F.len_eq_zero (by omega)
 ·rw [e] at h1; exact F.len_eq_zero (by omega)
 ·rw [e] at h1; exact F.len_eq_zero (by omega)
 ·rw [e] at h1; exact F.len_eq_zero (by omega)
 ·exact absurd q h6
 ·exact absurd q h8
 ·exact absurd q h7
 ·rw [e] at h1; omega
def emR : Rule := fun o n t k =>
 if o = 7 ∧ (hd k).1 = 1 then hd (tl k) else if o = 7 ∧ (hd (tl k)).1 = 1 then hd k else if (o = 6 ∨ o = 8) ∧ (hd k).1 = 1 then hd k else (o, n, t, k)
def nlF (f : F) : Nat := cntF (fun x => x == 3 || x == 4 || x == 5) f
def hrF (f : F) : Nat := cntF (fun x => x == 5) f
def grR : Rule := fun o n t k => if o = 8 ∧ ((hd k).1 = 8 ∨ nlF k = 0 ∨ 0 < hrF k) then hd k else (o, n, t, k)
def nests (i : Nat) (d : D) : D := if h : 0 < i then nests (i - min i 9) (6, ((min i 9 : Nat) : Int), ⟨#[]⟩, consD d .nil) else d
termination_by i
decreasing_by omega
def pushL : F → Nat → F
 | .nil, _ => .nil
 | .cons o n t k r, i => consD (if o = 6 then hd (pushL k (i + n.toNat)) else if o = 3 ∨ o = 4 ∨ o = 5 then nests i (o, n, t, k) else (o, n, t, pushL k i)) (pushL r i)
def pushD (i : Nat) : Rule := fun o n t k => if o = 6 then hd (pushL k (i + n.toNat)) else if o = 3 ∨ o = 4 ∨ o = 5 then nests i (o, n, t, k) else (o, n, t, pushL k i)
theorem pushL_map (f : F) (i : Nat) : pushL f i = mapL (pushD i) f := by
 induction f with
 | nil => rfl
 | cons o n t k r _ ih => simp only [pushL, mapL, ih]; rfl
end Go.Proofs.Ytjcaiecapapceaa.Nf
namespace Go.Proofs.Ytjcaiecapapceaa.Nf
open P1
theorem hd_consD (d : D) (r : F) : hd (consD d r) = d := rfl
theorem nice_hd {f : F} (h : nice f = true) (hf : f.len ≠ 0) : niceD (hd f) = true ∧ 1 + (hd f).2.2.2.cnt ≤ f.cnt := by
 cases f with
 | nil => exact absurd rfl hf
 | cons o n t k r =>
   simp only [nice, Bool.and_eq_true] at h
   exact ⟨Bool.and_eq_true_iff.2 h.1, by show 1 + k.cnt ≤ 1 + k.cnt + r.cnt; omega⟩
theorem nests_nice : ∀ (m i : Nat) (d : D), i ≤ m → niceD d = true → niceD (nests i d) = true := by
 intro m
 induction m with
 | zero =>
   intro i d hi h
   rw [nests, dif_neg (by omega)]
   exact h
 | succ m ih =>
   intro i d hi h
   rw [nests]
   split
   ·rename_i h0
    refine ih _ _ (by omega) ?_
    obtain ⟨q, hq⟩ : ∃ q, min i 9 = q := ⟨_, rfl⟩
    have hq9 : q ≤ 9 := by omega
    rw [hq]
    have h1 : nodeB 6 (q : Int) ⟨#[]⟩ 1 = true := by
     have : (q : Int) ≤ 9 := by omega
     simp [nodeB, textB, numB, kidsOf, this]
    exact Bool.and_eq_true_iff.2 ⟨h1, by rw [show nice (consD d .nil) = (niceD d && nice .nil) from rfl, h]; rfl⟩
   ·exact h
theorem nests_cnt : ∀ (m i e : Nat) (d : D), i ≤ m → i ≤ 9 * e → (nests i d).2.2.2.cnt ≤ d.2.2.2.cnt + e := by
 intro m
 induction m with
 | zero =>
   intro i e d hi h
   rw [nests, dif_neg (by omega)]
   omega
 | succ m ih =>
   intro i e d hi h
   rw [nests]
   split
   ·rename_i h0
    obtain ⟨q, hq⟩ : ∃ q, min i 9 = q := ⟨_, rfl⟩
    rw [hq]
    have h1 := ih (i - q) (e - 1) (6, (q : Int), ⟨#[]⟩, consD d .nil) (by omega) (by omega)
    have h2 : (consD d .nil).cnt = 1 + d.2.2.2.cnt := by show 1 + d.2.2.2.cnt + 0 = _; omega
    have h3 : ((6, (q : Int), (⟨#[]⟩ : ByteArray), consD d .nil) : D).2.2.2.cnt = 1 + d.2.2.2.cnt := h2
    omega
   ·omega
theorem len_pushL (f : F) (i : Nat) : (pushL f i).len = f.len := by rw [pushL_map, len_mapL]
theorem push_nice : ∀ (f : F) (i : Nat), nice f = true → nice (pushL f i) = true := by
 intro f
 induction f with
 | nil => intro i _; rfl
 | cons o n t k r ihk ihr =>
   intro i h
   have hD : niceD (o, n, t, k) = true := by simp only [nice, Bool.and_eq_true] at h; exact Bool.and_eq_true_iff.2 h.1
   have hr : nice r = true := by simp only [nice, Bool.and_eq_true] at h; exact h.2
   have hk : nice k = true := (nice_kids hD).2
   rw [pushL, nice_consD, ihr i hr, Bool.and_true]
   split
   ·rename_i h6
    obtain ⟨a, ha⟩ := kids_one hD (Or.inl h6)
    exact (nice_hd (ihk _ hk) (by rw [len_pushL, ha]; simp [consD, F.len])).1
   ·split
    ·exact nests_nice i i _ (Nat.le_refl _) hD
    ·unfold niceD at hD ⊢
     rw [Bool.and_eq_true] at hD ⊢
     exact ⟨by rw [len_pushL]; exact hD.1, ihk i hk⟩
theorem push_cnt : ∀ (f : F) (i e : Nat), nice f = true → i ≤ 9 * e → (pushL f i).cnt ≤ f.cnt * (1 + e + f.deep) := by
 intro f
 induction f with
 | nil => intro i e _ _; simp [pushL, F.cnt]
 | cons o n t k r ihk ihr =>
   intro i e h he
   have hD : niceD (o, n, t, k) = true := by simp only [nice, Bool.and_eq_true] at h; exact Bool.and_eq_true_iff.2 h.1
   have hr : nice r = true := by simp only [nice, Bool.and_eq_true] at h; exact h.2
   have hk : nice k = true := (nice_kids hD).2
   have h1 := ihr i e hr he
   have hm : r.cnt * (1 + e + r.deep) ≤ r.cnt * (1 + e + (F.cons o n t k r).deep) := Nat.mul_le_mul_left _ (by show _ ≤ 1 + e + max (k.deep + 1) r.deep; omega)
   obtain ⟨B, hB⟩ : ∃ B, 1 + e + (F.cons o n t k r).deep = B := ⟨_, rfl⟩
   have hB1 : 1 + e + (k.deep + 1) ≤ B := by rw [← hB]; show _ ≤ 1 + e + max (k.deep + 1) r.deep; omega
   rw [hB] at hm ⊢
   have hc : (F.cons o n t k r).cnt * B = B + k.cnt * B + r.cnt * B := by show (1 + k.cnt + r.cnt) * B = _; rw [Nat.add_mul, Nat.add_mul, Nat.one_mul]
   rw [hc, pushL]
   show 1 + _ + (pushL r i).cnt ≤ _
   have h2 : k.cnt * (1 + e + (k.deep + 1)) ≤ k.cnt * B := Nat.mul_le_mul_left _ hB1
   split
   ·rename_i h6
    obtain ⟨a, ha⟩ := kids_one hD (Or.inl h6)
    have hn9 : n.toNat ≤ 9 := by
     have := nice_kids hD
     unfold niceD nodeB numB at hD
     rw [if_pos h6] at hD
     simp only [Bool.and_eq_true, decide_eq_true_eq] at hD
     omega
    have h3 := ihk (i + n.toNat) (e + 1) hk (by omega)
    have h4 := (nice_hd (push_nice k (i + n.toNat) hk) (by rw [len_pushL, ha]; simp [consD, F.len])).2
    rw [show 1 + (e + 1) + k.deep = 1 + e + (k.deep + 1) by omega] at h3
    omega
   ·split
    ·rename_i h6 h3
     have hkn : k = .nil := kids_none hD h6 (by omega) (by omega)
     have h5 := nests_cnt i i e (o, n, t, k) (Nat.le_refl _) he
     subst hkn
     have h6 : ((o, n, t, F.nil) : D).2.2.2.cnt = 0 := rfl
     rw [h6] at h5
     omega
    ·have h3 := ihk i e hk he
     have h4 : k.cnt * (1 + e + k.deep) ≤ k.cnt * (1 + e + (k.deep + 1)) := Nat.mul_le_mul_left _ (by omega)
     show 1 + (pushL k i).cnt + _ ≤ _
     omega
theorem pushD_nice {o n : Int} {t : ByteArray} {k : F} (h : niceD (o, n, t, k) = true) (i : Nat) : niceD (pushD i o n t k) = true := by
 have h1 := push_nice (.cons o n t k .nil) i (by rw [show nice (.cons o n t k .nil) = (niceD (o, n, t, k) && nice .nil) from rfl, h]; rfl)
 rw [pushL_map] at h1
 exact (Bool.and_eq_true_iff.1 h1).1
theorem pushD_cnt {o n : Int} {t : ByteArray} {k : F} (h : niceD (o, n, t, k) = true) : 1 + (pushD 0 o n t k).2.2.2.cnt ≤ (1 + k.cnt) * (2 + k.deep) := by
 have h1 := push_cnt (.cons o n t k .nil) 0 0 (by rw [show nice (.cons o n t k .nil) = (niceD (o, n, t, k) && nice .nil) from rfl, h]; rfl) (by omega)
 rw [pushL_map] at h1
 have e1 : (mapL (pushD 0) (.cons o n t k .nil)).cnt = 1 + (pushD 0 o n t k).2.2.2.cnt := by show 1 + (pushD 0 o n t k).2.2.2.cnt + 0 = _; omega
 have e2 : (F.cons o n t k .nil).cnt = 1 + k.cnt := by show 1 + k.cnt + 0 = _; omega
 have e3 : (F.cons o n t k .nil).deep = k.deep + 1 := by show max (k.deep + 1) 0 = _; omega
 rw [e1, e2, e3, show 1 + 0 + (k.deep + 1) = 2 + k.deep by omega] at h1
 exact h1
theorem push_fit {o n : Int} {t : ByteArray} {k : F} (h : niceD (o, n, t, k) = true) (hd : k.deep ≤ 39) (hc : 1 + k.cnt ≤ 80) : niceD (pushD 0 o n t k) = true ∧ (pushD 0 o n t k).2.2.2.cnt ≤ 10000 := by
 refine ⟨pushD_nice h 0, ?_⟩
 have h1 := pushD_cnt h
 have h2 : (1 + k.cnt) * (2 + k.deep) ≤ 80 * 41 := Nat.mul_le_mul hc (by omega)
 omega
theorem nest_num {n : Int} {t : ByteArray} {k : F} (h : niceD (6, n, t, k) = true) : 0 ≤ n ∧ n ≤ 9 := by
 unfold niceD nodeB numB at h
 simp at h
 exact h.1.2
end Go.Proofs.Ytjcaiecapapceaa.Nf
namespace Go.Proofs.Ytjcaiecapapceaa.Nf
open P1
end Go.Proofs.Ytjcaiecapapceaa.Nf
namespace Go.Proofs.Ytjcaiecapapceaa.Nf
open P1
def catOn : F → D → D
 | .nil, d => d
 | .cons o n t k r, d => (7, 0, ⟨#[]⟩, .cons o n t k (consD (catOn r d) .nil))
def catAll : F → D
 | .nil => (1, 0, ⟨#[]⟩, .nil)
 | .cons o n t k r => if r.len = 0 then (o, n, t, k) else (7, 0, ⟨#[]⟩, .cons o n t k (consD (catAll r) .nil))
theorem catAll_snoc (p : F) (d : D) : catAll (p.app (consD d .nil)) = catOn p d := by
 induction p with
 | nil => rfl
 | cons o n t k r _ ih =>
   have h : (r.app (consD d .nil)).len ≠ 0 := by rw [F.len_app]; simp [consD, F.len]
   show (if (r.app (consD d .nil)).len = 0 then (o, n, t, k) else (7, 0, ⟨#[]⟩, .cons o n t k (consD (catAll (r.app (consD d .nil))) .nil))) = _
   rw [if_neg h, ih]
   rfl
def parts0 : F → F
 | .nil => .nil
 | .cons o n t k r => (if o = 7 then parts0 k else .cons o n t k .nil).app (parts0 r)
def ptD (o n : Int) (t : ByteArray) (k : F) : F := if o = 7 then parts0 k else .cons o n t k .nil
theorem parts0_cons (o n : Int) (t : ByteArray) (k r : F) : parts0 (.cons o n t k r) = (ptD o n t k).app (parts0 r) := rfl
def pr (g : F → F) : F → F × F
 | .nil => (.nil, .nil)
 | .cons o n t k r => ((if o = 7 then (pr g k).1 else .cons o n t (pr g k).2 .nil).app (pr g r).1, consD (catAll (g (if o = 7 then (pr g k).1 else .cons o n t (pr g k).2 .nil))) (pr g r).2)
def psD (g : F → F) (o n : Int) (t : ByteArray) (k : F) : F := if o = 7 then (pr g k).1 else .cons o n t (pr g k).2 .nil
def rowD (g : F → F) : Rule := fun o n t k => catAll (g (psD g o n t k))
theorem pr_cons (g : F → F) (o n : Int) (t : ByteArray) (k r : F) : pr g (.cons o n t k r) = ((psD g o n t k).app (pr g r).1, consD (rowD g o n t k) (pr g r).2) := rfl
theorem pr_map (g : F → F) (f : F) : (pr g f).2 = mapL (rowD g) f := by
 induction f with
 | nil => rfl
 | cons o n t k r _ ih => rw [pr_cons]; show consD (rowD g o n t k) (pr g r).2 = _; rw [ih]; rfl
def kidR (g : F → F) : Rule := fun o n t k => (o, n, t, mapL (rowD g) k)
theorem pr_parts (g : F → F) (f : F) : (pr g f).1 = mapL (kidR g) (parts0 f) := by
 induction f with
 | nil => rfl
 | cons o n t k r ihk ihr =>
   rw [pr_cons, parts0_cons, mapL_app]
   show (psD g o n t k).app (pr g r).1 = _
   rw [ihr]
   congr 1
   unfold psD ptD
   split
   ·exact ihk
   ·show F.cons o n t (pr g k).2 .nil = consD (o, n, t, mapL (rowD g) k) .nil
    rw [pr_map]; rfl
theorem ps_parts (g : F → F) (o n : Int) (t : ByteArray) (k : F) : psD g o n t k = mapL (kidR g) (ptD o n t k) := by
 have h := pr_parts g (.cons o n t k .nil)
 rw [pr_cons, parts0_cons] at h
 have e1 : (pr g .nil).1 = .nil := rfl
 have e2 : parts0 .nil = .nil := rfl
 rw [e1, e2, F.app_nil, F.app_nil] at h
 exact h
def noCat : F → Bool
 | .nil => true
 | .cons o _ _ _ r => (o != 7) && noCat r
theorem noCat_app (f g : F) : noCat (f.app g) = (noCat f && noCat g) := by
 induction f with
 | nil => simp [F.app, noCat]
 | cons o n t k r _ ih => simp [F.app, noCat, ih, Bool.and_assoc]
theorem parts_noCat : ∀ f : F, noCat (parts0 f) = true := by
 intro f
 induction f with
 | nil => rfl
 | cons o n t k r ihk ihr =>
   rw [parts0_cons, noCat_app, ihr, Bool.and_true]
   unfold ptD
   split
   ·exact ihk
   ·rename_i h; simp [noCat, h]
theorem parts_len : ∀ f : F, nice f = true → f.len ≤ (parts0 f).len := by
 intro f
 induction f with
 | nil => intro _; exact Nat.le_refl _
 | cons o n t k r ihk ihr =>
   intro h
   have hD : niceD (o, n, t, k) = true := by simp only [nice, Bool.and_eq_true] at h; exact Bool.and_eq_true_iff.2 h.1
   have hr : nice r = true := by simp only [nice, Bool.and_eq_true] at h; exact h.2
   rw [parts0_cons, F.len_app]
   have h1 := ihr hr
   have h2 : 1 ≤ (ptD o n t k).len := by
    unfold ptD
    split
    ·rename_i h7
     have := ihk (nice_kids hD).2
     obtain ⟨a, b, hab⟩ := kids_two hD h7
     rw [hab] at this ⊢
     have e : (consD a (consD b .nil)).len = 2 := rfl
     omega
    ·simp [F.len]
   show r.len + 1 ≤ _
   omega
end Go.Proofs.Ytjcaiecapapceaa.Nf
