import Derived.Test.YtjcaiecapapceaaRnA
import Derived.Test.YtjcaiecapapceaaNfNx
import Derived.Test.YtjcaiecapapceaaNfFa
/-
 The changes of a normal form keep what a document is rendered to in each width; nothing here speaks of the program.
-/
set_option linter.unusedVariables false
set_option linter.unusedSimpArgs false
namespace Go.Proofs.Ytjcaiecapapceaa.Rq
open Go.RowKit P1 Cnt CntC Flat Wid ChP Rn Nf
def zz (s : St) : St := { s with flags := [] }
theorem zz_pre (s : St) : s = (zz s).pre [] s.flags := by
 unfold St.pre zz; simp
theorem zz_of (s : St) (R : List Bool) : zz (s.pre [] R) = zz s := by
 unfold St.pre zz; simp
theorem rnF_z (W : Int) (f : F) (i : Int) (B : Nat) {s s' : St} (h : zz s = zz s') : zz (rnF W f i B s) = zz (rnF W f i B s') := by
 rw [zz_pre s, zz_pre s', rnF_pre, rnF_pre, zz_of, zz_of, h]
theorem rnD_z (W : Int) (o n : Int) (t : ByteArray) (k : F) (i : Int) (B : Nat) {s s' : St} (h : zz s = zz s') : zz (rnD W o n t k i B s) = zz (rnD W o n t k i B s') := by
 rw [← rnF_one, ← rnF_one]; exact rnF_z W _ i B h
theorem zz_flag (s : St) (b : Bool) : zz (s.flag b) = zz s := rfl
theorem zz_put {s s' : St} (t : ByteArray) (h : zz s = zz s') : zz (s.put t) = zz (s'.put t) := by
 unfold zz at h ⊢
 injection h with h1 h2 h3 _
 simp only [St.put, h1, h2, h3]
theorem zz_fin {s s' : St} (h : zz s = zz s') : s.fin = s'.fin := by
 unfold zz at h
 injection h with h1 h2 h3 _
 simp only [St.fin, h1, h2, h3]
theorem put_put (s : St) (a b : ByteArray) : (s.put a).put b = s.put (a ++ b) := by
 simp only [St.put, ByteArray.append_assoc]
def rnO (W : Int) (d : D) (i : Int) (B : Nat) (s : St) : St := rnD W d.1 d.2.1 d.2.2.1 d.2.2.2 i B s
def ldO (d : D) : Nat := nD d.1 d.2.2.1 d.2.2.2
def enO (d : D) : Bool := Wid.eD d.1 d.2.2.2
structure Rq (i : Nat) (d d' : D) : Prop where
 no : noO d' = noO d
 fd : flO d' = flO d
 ld : ldO d' = ldO d
 en : enO d' = enO d
 rn : ∀ (W j : Int) (B : Nat) (s : St), zz (rnO W d' j B s) = zz (rnO W d (j + (i : Int)) B s)
theorem Rq.refl (d : D) : Rq 0 d d := ⟨rfl, rfl, rfl, rfl, fun W j B s => by rw [show j + ((0 : Nat) : Int) = j by omega]⟩
theorem Rq.comp {i j : Nat} {a b c : D} (h : Rq i a b) (k : Rq j b c) : Rq (i + j) a c :=
 ⟨k.no.trans h.no, k.fd.trans h.fd, k.ld.trans h.ld, k.en.trans h.en, fun W x B s => by rw [k.rn, h.rn]; congr 2; omega⟩
theorem Rq.trans {a b c : D} (h : Rq 0 a b) (k : Rq 0 b c) : Rq 0 a c := h.comp k
theorem rnF_oneD (W : Int) (d : D) (i : Int) (B : Nat) (s : St) : rnF W (consD d .nil) i B s = rnO W d i B s := rnF_one _ _ _ _ _ _ _ _
def RqL (i : Nat) : F → F → Prop
 | .nil, .nil => True
 | .cons o n t k r, .cons o' n' t' k' r' => Rq i (o, n, t, k) (o', n', t', k') ∧ RqL i r r'
 | .nil, .cons _ _ _ _ _ => False
 | .cons _ _ _ _ _, .nil => False
theorem RqL.all {i : Nat} : ∀ {f g : F}, RqL i f g → noF g = noF f ∧ fl g = fl f ∧ (ldN g = ldN f ∧ ldE g = ldE f) ∧ ∀ (W j : Int) (B : Nat) (s : St), zz (rnF W g j B s) = zz (rnF W f (j + (i : Int)) B s) := by
 intro f
 induction f with
 | nil => intro g h; cases g with
   | nil => exact ⟨rfl, rfl, ⟨rfl, rfl⟩, fun _ _ _ _ => rfl⟩
   | cons => exact h.elim
 | cons o n t k r _ ih => intro g h; cases g with
   | nil => exact h.elim
   | cons o' n' t' k' r' =>
     obtain ⟨i1, i2, ⟨i3, i4⟩, i5⟩ := ih h.2
     have h1 : Wid.noD o' k' = Wid.noD o k := h.1.no
     have h2 : flD o' t' k' = flD o t k := h.1.fd
     have h3 : nD o' t' k' = nD o t k := h.1.ld
     have h4 : Wid.eD o' k' = Wid.eD o k := h.1.en
     refine ⟨?_, ?_, ⟨?_, ?_⟩, fun W j B s => ?_⟩
     ·show ((o' != 5) && noF k' && noF r') = ((o != 5) && noF k && noF r)
      rw [i1]
      unfold Wid.noD at h1
      rw [h1]
     ·show flD o' t' k' ++ fl r' = flD o t k ++ fl r
      rw [i2, h2]
     ·show nD o' t' k' + (if Wid.eD o' k' then 0 else ldN r') = nD o t k + (if Wid.eD o k then 0 else ldN r)
      rw [h3, h4, i3]
     ·show (Wid.eD o' k' || ldE r') = (Wid.eD o k || ldE r)
      rw [h4, i4]
     ·have hb : bh r' B = bh r B := by unfold bh; rw [i3, i4]
      rw [rnF_cons, rnF_cons, i5, hb]
      exact rnF_z W r _ B (h.1.rn W j (bh r B) s)
theorem rq_node {i : Nat} {o : Int} (n : Int) (t : ByteArray) {k k' : F} (h : RqL i k k') (hn : nl o = false ∨ i = 0) : Rq i (o, n, t, k) (o, n, t, k') := by
 obtain ⟨h1, h2, ⟨h3, h4⟩, h5⟩ := h.all
 have ef : flD o t k' = flD o t k := by unfold flD; rw [h2]
 refine ⟨?_, ef, ?_, ?_, fun W j B s => ?_⟩
 ·show Wid.noD o k' = Wid.noD o k; unfold Wid.noD; rw [h1]
 ·show nD o t k' = nD o t k; unfold nD; rw [h3]
 ·show Wid.eD o k' = Wid.eD o k; unfold Wid.eD; rw [h4]
 ·show zz (rnD W o n t k' j B s) = zz (rnD W o n t k (j + (i : Int)) B s)
  have efit : fitB W B s t k' = fitB W B s t k := by unfold fitB flD; rw [h1, h2]
  unfold rnD
  rw [efit]
  by_cases hnl : nl o = true
  ·rw [if_pos hnl, if_pos hnl]
   rcases hn with hn | rfl
   ·rw [hnl] at hn; cases hn
   ·rw [show j + ((0 : Nat) : Int) = j by omega]
  ·rw [if_neg hnl, if_neg hnl]
   split
   ·rename_i hq
    rw [show o = 8 by simp only [Bool.and_eq_true, beq_iff_eq] at hq; exact hq.1] at ef
    rw [ef]
   ·rw [h5, show j + n + (i : Int) = j + (i : Int) + n by omega]
theorem ld_one (a : D) : ldN (consD a .nil) = ldO a ∧ ldE (consD a .nil) = enO a := by
 refine ⟨?_, ?_⟩
 ·show nD a.1 a.2.2.1 a.2.2.2 + (if Wid.eD a.1 a.2.2.2 then 0 else 0) = _
  split <;> rfl
 ·show (Wid.eD a.1 a.2.2.2 || false) = _
  rw [Bool.or_false]; rfl
theorem ldO_six (o n : Int) (h : o = 6 ∨ o = 8) (a : D) : ldO (o, n, ⟨#[]⟩, consD a .nil) = ldO a ∧ enO (o, n, ⟨#[]⟩, consD a .nil) = enO a ∧ noO (o, n, ⟨#[]⟩, consD a .nil) = noO a ∧ flO (o, n, ⟨#[]⟩, consD a .nil) = flO a := by
 obtain ⟨l1, l2⟩ := ld_one a
 have e0 : (⟨#[]⟩ : ByteArray).size = 0 := rfl
 have hn : nl o = false := by rcases h with rfl | rfl <;> rfl
 refine ⟨?_, ?_, ?_, ?_⟩
 ·show nD o ⟨#[]⟩ (consD a .nil) = _; unfold nD; rw [l1, e0, hn]; simp
 ·show Wid.eD o (consD a .nil) = _; unfold Wid.eD; rw [l2, hn]; simp
 ·show Wid.noD o (consD a .nil) = _; unfold Wid.noD; rw [no_one]; rcases h with rfl | rfl <;> rfl
 ·show flD o ⟨#[]⟩ (consD a .nil) = _; unfold flD; rw [fl_oneD]; rcases h with rfl | rfl <;> exact none_app _
theorem ch_nice (R : Rule) (hR : ∀ (o n : Int) (t : ByteArray) (k : F), niceD (o, n, t, k) = true → niceD (R o n t k) = true) : ∀ f : F, nice f = true → nice (chL R f) = true := by
 intro f
 induction f with
 | nil => intro _; rfl
 | cons o n t k r ihk ihr =>
   intro h
   simp only [nice, Bool.and_eq_true] at h
   show nice (consD (R o n t (chL R k)) (chL R r)) = true
   rw [nice_consD, ihr h.2, Bool.and_true]
   exact hR _ _ _ _ (Bool.and_eq_true_iff.2 ⟨by show nodeB o n t (chL R k).len = true; rw [len_chL]; exact h.1.1, ihk h.1.2⟩)
theorem ch_rq (R : Rule) (hR : ∀ (o n : Int) (t : ByteArray) (k : F), niceD (o, n, t, k) = true → niceD (R o n t k) = true ∧ Rq 0 (o, n, t, k) (R o n t k)) : ∀ f : F, nice f = true → RqL 0 f (chL R f) := by
 intro f
 induction f with
 | nil => intro _; trivial
 | cons o n t k r ihk ihr =>
   intro h
   simp only [nice, Bool.and_eq_true] at h
   refine ⟨?_, ihr h.2⟩
   have hK : niceD (o, n, t, chL R k) = true := Bool.and_eq_true_iff.2 ⟨by show nodeB o n t (chL R k).len = true; rw [len_chL]; exact h.1.1, ch_nice R (fun o n t k h => (hR o n t k h).1) k h.1.2⟩
   exact (rq_node n t (ihk h.1.2) (Or.inr rfl)).trans (hR o n t _ hK).2
theorem none_of {o n : Int} {t : ByteArray} {k : F} (h : niceD (o, n, t, k) = true) (h2 : o ≠ 2) : t = ⟨#[]⟩ := by
 unfold niceD nodeB textB at h
 simp only [Bool.and_eq_true, if_neg h2, decide_eq_true_eq] at h
 exact h.1.1.2
theorem num_of {o n : Int} {t : ByteArray} {k : F} (h : niceD (o, n, t, k) = true) (h6 : o ≠ 6) : n = 0 := by
 unfold niceD nodeB numB at h
 simp only [Bool.and_eq_true, if_neg h6, decide_eq_true_eq] at h
 exact h.1.2
theorem flat_rn (W : Int) : ∀ (f : F), nlF f = 0 → ∀ (i : Int) (B : Nat) (s : St), zz (rnF W f i B s) = zz (s.put (fl f)) := by
 intro f
 induction f with
 | nil => intro _ i B s; show zz s = zz (s.put ⟨#[]⟩); rw [St.put_none]
 | cons o n t k r ihk ihr =>
   intro h i B s
   unfold nlF at h ihk ihr
   simp only [cntF] at h
   have ho : nl o = false := by
    cases hq : nl o with
    | false => rfl
    | true => unfold nl at hq; rw [if_pos hq] at h; omega
   have h3 : (o == 3) = false := by
    unfold nl at ho
    simp only [Bool.or_eq_false_iff] at ho
    exact ho.1.1
   rw [rnF_cons, ihr (by omega)]
   have e : fl (.cons o n t k r) = (t ++ fl k) ++ fl r := by
    show (if o == 3 then ⟨#[32]⟩ else t ++ fl k) ++ fl r = _
    rw [h3]; simp
   rw [e, ← put_put]
   refine zz_put _ ?_
   unfold rnD
   rw [if_neg (by rw [ho]; decide)]
   split
   ·rename_i hq
    have e8 : flD 8 t k = t ++ fl k := by unfold flD; simp
    rw [e8]; rfl
   ·rw [ihk (by omega), put_put]
    split <;> rfl
theorem gr_rule {o n : Int} {t : ByteArray} {k : F} (h : niceD (o, n, t, k) = true) : niceD (grR o n t k) = true ∧ Rq 0 (o, n, t, k) (grR o n t k) := by
 refine ⟨(gr_keep o n t k h).1, ?_⟩
 unfold grR
 split
 ·rename_i hq
  obtain ⟨a, rfl⟩ := kids_one h (Or.inr hq.1)
  show Rq 0 (o, n, t, consD a .nil) a
  have et := none_of h (by omega)
  have en := num_of h (by omega)
  have eo := hq.1
  subst et en eo
  obtain ⟨h1, h2, h3, h4⟩ := ldO_six 8 0 (Or.inr rfl) a
  refine ⟨h3.symm, h4.symm, h1.symm, h2.symm, fun W j B s => ?_⟩
  rw [show j + ((0 : Nat) : Int) = j by omega]
  rcases hq.2 with q | q | q
  ·-- a group in a group
   obtain ⟨o1, n1, t1, k1⟩ := a
   simp only [hd, consD] at q
   subst q
   have hnk : niceD (8, n1, t1, k1) = true := by have := (nice_kids h).2; rw [nice_consD, Bool.and_eq_true] at this; exact this.1
   have et1 := none_of hnk (by omega)
   subst et1
   have ef : flD 8 ⟨#[]⟩ (consD (8, n1, ⟨#[]⟩, k1) .nil) = flD 8 ⟨#[]⟩ k1 := h4
   have efit : fitB W B s ⟨#[]⟩ (consD (8, n1, ⟨#[]⟩, k1) .nil) = fitB W B s ⟨#[]⟩ k1 := by
    unfold fitB
    rw [ef, no_one]
    rfl
   show zz (rnD W 8 n1 ⟨#[]⟩ k1 j B s) = zz (rnD W 8 0 ⟨#[]⟩ (consD (8, n1, ⟨#[]⟩, k1) .nil) j B s)
   have e : rnD W 8 0 ⟨#[]⟩ (consD (8, n1, ⟨#[]⟩, k1) .nil) j B s = if fitB W B s ⟨#[]⟩ k1 = true then (s.flag true).put (flD 8 ⟨#[]⟩ k1) else rnD W 8 n1 ⟨#[]⟩ k1 j B (s.flag false) := by
    rw [rnD, if_neg (by decide), efit, ef]
    cases hf : fitB W B s ⟨#[]⟩ k1 with
    | true => rw [if_pos (by decide), if_pos rfl]
    | false =>
      rw [if_neg (by decide), if_pos (by decide), if_neg (by decide), St.put_none, rnF_oneD, show j + 0 = j by omega]
      rfl
   rw [e]
   cases hf : fitB W B s ⟨#[]⟩ k1 with
   | true =>
     rw [if_pos rfl]
     unfold rnD
     rw [if_neg (by decide), hf, if_pos (by decide)]
   | false =>
     rw [if_neg (by decide)]
     exact rnD_z W 8 n1 ⟨#[]⟩ k1 j B (zz_flag s false).symm
  ·-- no newline
   have e1 := flat_rn W (consD a .nil) q j B s
   have q2 : nlF (consD (8, 0, ⟨#[]⟩, consD a .nil) .nil) = 0 := by
    show cntF _ _ = 0
    rw [cntF_consD]
    show (if ((8 : Int) == 3 || (8 : Int) == 4 || (8 : Int) == 5) = true then 1 else 0) + nlF (consD a .nil) + 0 = 0
    rw [q]; rfl
   have e2 := flat_rn W _ q2 j B s
   rw [rnF_oneD] at e1 e2
   rw [e1, e2, fl_oneD, fl_oneD, h4]
  ·-- a newline that has to stay
   have hno : noF (consD a .nil) = false := by
    rw [noF_cnt]
    have : hrF (consD a .nil) = cntF (fun x => x == 5) (consD a .nil) := rfl
    rw [← this]
    exact decide_eq_false (by omega)
   show _ = zz (rnD W 8 0 ⟨#[]⟩ (consD a .nil) j B s)
   unfold rnD
   have hfit : fitB W B s ⟨#[]⟩ (consD a .nil) = false := by unfold fitB; rw [hno]; rfl
   rw [if_neg (by decide), hfit, if_neg (by decide), if_pos (by decide), St.put_none, rnF_oneD, show j + 0 = j by omega]
   exact rnD_z W _ _ _ _ j B (zz_flag s false).symm
 ·exact Rq.refl _
theorem gr_rq (f : F) (h : nice f = true) : RqL 0 f (chL grR f) := ch_rq grR (fun o n t k h => gr_rule h) f h
theorem Rq.st {d d' : D} (h : Rq 0 d d') (W : Int) : (stD W d'.1 d'.2.1 d'.2.2.1 d'.2.2.2).fin = (stD W d.1 d.2.1 d.2.2.1 d.2.2.2).fin := by
 have := h.rn W 0 0 St.zero
 exact zz_fin this
end Go.Proofs.Ytjcaiecapapceaa.Rq
namespace Go.Proofs.Ytjcaiecapapceaa.Rq
open Go.RowKit P1 Rn Nf
end Go.Proofs.Ytjcaiecapapceaa.Rq
namespace Go.Proofs.Ytjcaiecapapceaa.Rq
open Go.RowKit P1 Rn Nf CntC
end Go.Proofs.Ytjcaiecapapceaa.Rq
