import Derived.Test.YtjcaiecapapceaaGreatRnA
import Derived.Test.YtjcaiecapapceaaGreatNfNx
import Derived.Test.YtjcaiecapapceaaGreatNfFa
/-
 The changes of a normal form keep what a document is rendered to in each width; nothing here speaks of the program.
-/
set_option linter.unusedVariables false
set_option linter.unusedSimpArgs false
namespace Go.Proofs.YtjcaiecapapceaaGreat.Rq
open Go.RowKit P1 Cnt CntC Flat Wid ChP Rn Nf
def zz (s : St) : St := { s with flags := [] }
theorem zz_pre (s : St) : s = (zz s).pre [] s.flags := by
 unfold St.pre zz; simp
theorem zz_of (s : St) (R : List Bool) : zz (s.pre [] R) = zz s := by
 unfold St.pre zz; simp
theorem rnF_z (W : Int) (f : F) (i : Int) (B : Nat) {s s' : St} (h : zz s = zz s') : zz (rnF W f i B s) = zz (rnF W f i B s') := by
 rw [zz_pre s, zz_pre s', rnF_pre, rnF_pre, zz_of, zz_of, h]
theorem rnD_z (W : Int) (o n : Int) (t : ByteArray) (k : F) (i : Int) (B : Nat) {s s' : St} (h : zz s = zz s') : zz (rnD W o n t k i B s) = zz (rnD W o n t k i B s') := by
 rw [← rnF_one, ← rnF_one]; exact rnF_z W _ i B h
theorem zz_flag (s : St) (b : Bool) : zz (s.flag b) = zz s := rfl
theorem zz_put {s s' : St} (t : ByteArray) (h : zz s = zz s') : zz (s.put t) = zz (s'.put t) := by
 unfold zz at h ⊢
 injection h with h1 h2 h3 _
 simp only [St.put, h1, h2, h3]
theorem zz_fin {s s' : St} (h : zz s = zz s') : s.fin = s'.fin := by
 unfold zz at h
 injection h with h1 h2 h3 _
 simp only [St.fin, h1, h2, h3]
theorem put_put (s : St) (a b : ByteArray) : (s.put a).put b = s.put (a ++ b) := by
 simp only [St.put, ByteArray.append_assoc]
def rnO (W : Int) (d : D) (i : Int) (B : Nat) (s : St) : St := rnD W d.1 d.2.1 d.2.2.1 d.2.2.2 i B s
def ldO (d : D) : Nat := nD d.1 d.2.2.1 d.2.2.2
def enO (d : D) : Bool := Wid.eD d.1 d.2.2.2
structure Rq (i : Nat) (d d' : D) : Prop where
 no : noO d' = noO d
 fd : flO d' = flO d
 ld : ldO d' = ldO d
 en : enO d' = enO d
 rn : ∀ (W j : Int) (B : Nat) (s : St), zz (rnO W d' j B s) = zz (rnO W d (j + (i : Int)) B s)
theorem Rq.refl (d : D) : Rq 0 d d := ⟨rfl, rfl, rfl, rfl, fun W j B s => by rw [show j + ((0 : Nat) : Int) = j by omega]⟩
theorem Rq.comp {i j : Nat} {a b c : D} (h : Rq i a b) (k : Rq j b c) : Rq (i + j) a c :=
 ⟨k.no.trans h.no, k.fd.trans h.fd, k.ld.trans h.ld, k.en.trans h.en, fun W x B s => by rw [k.rn, h.rn]; congr 2; omega⟩
theorem Rq.trans {a b c : D} (h : Rq 0 a b) (k : Rq 0 b c) : Rq 0 a c := h.comp k
theorem Rq.symm {a b : D} (h : Rq 0 a b) : Rq 0 b a :=
 ⟨h.no.symm, h.fd.symm, h.ld.symm, h.en.symm, fun W j B s => by
  have := h.rn W j B s
  rw [show j + ((0 : Nat) : Int) = j by omega] at this ⊢
  exact this.symm⟩
theorem rnF_consD (W : Int) (d : D) (r : F) (i : Int) (B : Nat) (s : St) : rnF W (consD d r) i B s = rnF W r i B (rnO W d i (bh r B) s) := rfl
theorem bh_consD (d : D) (r : F) (B : Nat) : bh (consD d r) B = ldO d + (if enO d then 0 else bh r B) := bh_cons _ _ _ _ _ _
theorem rnF_oneD (W : Int) (d : D) (i : Int) (B : Nat) (s : St) : rnF W (consD d .nil) i B s = rnO W d i B s := rnF_one _ _ _ _ _ _ _ _
def RqL (i : Nat) : F → F → Prop
 | .nil, .nil => True
 | .cons o n t k r, .cons o' n' t' k' r' => Rq i (o, n, t, k) (o', n', t', k') ∧ RqL i r r'
 | .nil, .cons _ _ _ _ _ => False
 | .cons _ _ _ _ _, .nil => False
theorem RqL.all {i : Nat} : ∀ {f g : F}, RqL i f g → noF g = noF f ∧ fl g = fl f ∧ (ldN g = ldN f ∧ ldE g = ldE f) ∧ ∀ (W j : Int) (B : Nat) (s : St), zz (rnF W g j B s) = zz (rnF W f (j + (i : Int)) B s) := by
 intro f
 induction f with
 | nil => intro g h; cases g with
   | nil => exact ⟨rfl, rfl, ⟨rfl, rfl⟩, fun _ _ _ _ => rfl⟩
   | cons => exact h.elim
 | cons o n t k r _ ih => intro g h; cases g with
   | nil => exact h.elim
   | cons o' n' t' k' r' =>
     obtain ⟨i1, i2, ⟨i3, i4⟩, i5⟩ := ih h.2
     have h1 : Wid.noD o' k' = Wid.noD o k := h.1.no
     have h2 : flD o' t' k' = flD o t k := h.1.fd
     have h3 : nD o' t' k' = nD o t k := h.1.ld
     have h4 : Wid.eD o' k' = Wid.eD o k := h.1.en
     refine ⟨?_, ?_, ⟨?_, ?_⟩, fun W j B s => ?_⟩
     ·show ((o' != 5) && noF k' && noF r') = ((o != 5) && noF k && noF r)
      rw [i1]
      unfold Wid.noD at h1
      rw [h1]
     ·show flD o' t' k' ++ fl r' = flD o t k ++ fl r
      rw [i2, h2]
     ·show nD o' t' k' + (if Wid.eD o' k' then 0 else ldN r') = nD o t k + (if Wid.eD o k then 0 else ldN r)
      rw [h3, h4, i3]
     ·show (Wid.eD o' k' || ldE r') = (Wid.eD o k || ldE r)
      rw [h4, i4]
     ·have hb : bh r' B = bh r B := by unfold bh; rw [i3, i4]
      rw [rnF_cons, rnF_cons, i5, hb]
      exact rnF_z W r _ B (h.1.rn W j (bh r B) s)
theorem RqL.one {i : Nat} {a : D} {g : F} (h : RqL i (consD a .nil) g) : ∃ a', g = consD a' .nil ∧ Rq i a a' := by
 cases g with
 | nil => exact h.elim
 | cons o n t k r =>
   cases r with
   | nil => exact ⟨(o, n, t, k), rfl, h.1⟩
   | cons _ _ _ _ _ => exact h.2.elim
theorem RqL.two {i : Nat} {a b : D} {g : F} (h : RqL i (consD a (consD b .nil)) g) : ∃ a' b', g = consD a' (consD b' .nil) ∧ Rq i a a' ∧ Rq i b b' := by
 cases g with
 | nil => exact h.elim
 | cons o n t k r =>
   obtain ⟨b', rfl, hb⟩ := RqL.one (a := b) h.2
   exact ⟨(o, n, t, k), b', rfl, h.1, hb⟩
theorem rq_node {i : Nat} {o : Int} (n : Int) (t : ByteArray) {k k' : F} (h : RqL i k k') (hn : nl o = false ∨ i = 0) : Rq i (o, n, t, k) (o, n, t, k') := by
 obtain ⟨h1, h2, ⟨h3, h4⟩, h5⟩ := h.all
 have ef : flD o t k' = flD o t k := by unfold flD; rw [h2]
 refine ⟨?_, ef, ?_, ?_, fun W j B s => ?_⟩
 ·show Wid.noD o k' = Wid.noD o k; unfold Wid.noD; rw [h1]
 ·show nD o t k' = nD o t k; unfold nD; rw [h3]
 ·show Wid.eD o k' = Wid.eD o k; unfold Wid.eD; rw [h4]
 ·show zz (rnD W o n t k' j B s) = zz (rnD W o n t k (j + (i : Int)) B s)
  have efit : fitB W B s t k' = fitB W B s t k := by unfold fitB flD; rw [h1, h2]
  unfold rnD
  rw [efit]
  by_cases hnl : nl o = true
  ·rw [if_pos hnl, if_pos hnl]
   rcases hn with hn | rfl
   ·rw [hnl] at hn; cases hn
   ·rw [show j + ((0 : Nat) : Int) = j by omega]
  ·rw [if_neg hnl, if_neg hnl]
   split
   ·rename_i hq
    rw [show o = 8 by simp only [Bool.and_eq_true, beq_iff_eq] at hq; exact hq.1] at ef
    rw [ef]
   ·rw [h5, show j + n + (i : Int) = j + (i : Int) + n by omega]
theorem rn_six (W : Int) (n : Int) (a : D) (j : Int) (B : Nat) (s : St) : rnO W (6, n, ⟨#[]⟩, consD a .nil) j B s = rnO W a (j + n) B s := by
 show rnD W 6 n ⟨#[]⟩ (consD a .nil) j B s = _
 unfold rnD
 rw [if_neg (by decide), if_neg (by simp), if_neg (by decide), St.put_none, rnF_oneD]
theorem ld_one (a : D) : ldN (consD a .nil) = ldO a ∧ ldE (consD a .nil) = enO a := by
 refine ⟨?_, ?_⟩
 ·show nD a.1 a.2.2.1 a.2.2.2 + (if Wid.eD a.1 a.2.2.2 then 0 else 0) = _
  split <;> rfl
 ·show (Wid.eD a.1 a.2.2.2 || false) = _
  rw [Bool.or_false]; rfl
theorem ldO_six (o n : Int) (h : o = 6 ∨ o = 8) (a : D) : ldO (o, n, ⟨#[]⟩, consD a .nil) = ldO a ∧ enO (o, n, ⟨#[]⟩, consD a .nil) = enO a ∧ noO (o, n, ⟨#[]⟩, consD a .nil) = noO a ∧ flO (o, n, ⟨#[]⟩, consD a .nil) = flO a := by
 obtain ⟨l1, l2⟩ := ld_one a
 have e0 : (⟨#[]⟩ : ByteArray).size = 0 := rfl
 have hn : nl o = false := by rcases h with rfl | rfl <;> rfl
 refine ⟨?_, ?_, ?_, ?_⟩
 ·show nD o ⟨#[]⟩ (consD a .nil) = _; unfold nD; rw [l1, e0, hn]; simp
 ·show Wid.eD o (consD a .nil) = _; unfold Wid.eD; rw [l2, hn]; simp
 ·show Wid.noD o (consD a .nil) = _; unfold Wid.noD; rw [no_one]; rcases h with rfl | rfl <;> rfl
 ·show flD o ⟨#[]⟩ (consD a .nil) = _; unfold flD; rw [fl_oneD]; rcases h with rfl | rfl <;> exact none_app _
theorem rq_nest (q : Nat) (d : D) : Rq q d (6, (q : Int), ⟨#[]⟩, consD d .nil) := by
 obtain ⟨h1, h2, h3, h4⟩ := ldO_six 6 (q : Int) (Or.inl rfl) d
 exact ⟨h3, h4, h1, h2, fun W j B s => by rw [rn_six]⟩
theorem rq_nests : ∀ (m i : Nat) (d : D), i ≤ m → Rq i d (nests i d) := by
 intro m
 induction m with
 | zero =>
   intro i d hi
   rw [nests, dif_neg (by omega), show i = 0 by omega]
   exact Rq.refl d
 | succ m ih =>
   intro i d hi
   rw [nests]
   split
   ·rename_i h0
    obtain ⟨q, hq⟩ : ∃ q, min i 9 = q := ⟨_, rfl⟩
    rw [hq]
    have h1 := (rq_nest q d).comp (ih (i - q) (6, (q : Int), ⟨#[]⟩, consD d .nil) (by omega))
    rw [show q + (i - q) = i by omega] at h1
    exact h1
   ·rw [show i = 0 by omega]; exact Rq.refl d
theorem rq_push : ∀ (f : F) (i : Nat), nice f = true → RqL i f (pushL f i) := by
 intro f
 induction f with
 | nil => intro i _; trivial
 | cons o n t k r ihk ihr =>
   intro i h
   have hD : niceD (o, n, t, k) = true := by simp only [nice, Bool.and_eq_true] at h; exact Bool.and_eq_true_iff.2 h.1
   have hr : nice r = true := by simp only [nice, Bool.and_eq_true] at h; exact h.2
   have hk : nice k = true := (nice_kids hD).2
   refine ⟨?_, ihr i hr⟩
   show Rq i (o, n, t, k) (pushD i o n t k)
   by_cases h6 : o = 6
   ·obtain ⟨a, ha⟩ := kids_one hD (Or.inl h6)
    subst h6
    obtain ⟨h0, _⟩ := nest_num hD
    have ht : t = ⟨#[]⟩ := by
     unfold niceD nodeB textB at hD
     simp at hD
     exact hD.1.1.2
    have h1 := ihk (i + n.toNat) hk
    subst ht
    rw [ha] at h1 ⊢
    rw [push_six]
    have h2 : Rq (i + n.toNat) a (pushOf (i + n.toNat) a) := h1.1
    have h3 := rq_nest n.toNat a
    rw [show ((n.toNat : Nat) : Int) = n by omega] at h3
    refine ⟨h2.no.trans h3.no.symm, h2.fd.trans h3.fd.symm, h2.ld.trans h3.ld.symm, h2.en.trans h3.en.symm, fun W j B s => ?_⟩
    rw [h2.rn, rn_six]
    congr 2
    omega
   ·by_cases hl : o = 3 ∨ o = 4 ∨ o = 5
    ·rw [show pushD i o n t k = nests i (o, n, t, k) by unfold pushD; rw [if_neg h6, if_pos hl]]
     exact rq_nests i i _ (Nat.le_refl _)
    ·rw [show pushD i o n t k = (o, n, t, pushL k i) by unfold pushD; rw [if_neg h6, if_neg hl]]
     exact rq_node n t (ihk i hk) (Or.inl (by
      unfold nl
      rw [beq_eq_false_iff_ne.2 (fun e => hl (Or.inl e)), beq_eq_false_iff_ne.2 (fun e => hl (Or.inr (Or.inl e))), beq_eq_false_iff_ne.2 (fun e => hl (Or.inr (Or.inr e)))]; rfl))
theorem push_rq {d : D} (h : niceD d = true) : Rq 0 d (pushOf 0 d) := by
 have h1 := rq_push (consD d .nil) 0 (by rw [nice_consD, h]; rfl)
 exact h1.1
theorem rn_cat (W : Int) (a b : D) (j : Int) (B : Nat) (s : St) : rnO W (catD a b) j B s = rnO W b j B (rnO W a j (ldO b + (if enO b then 0 else B)) s) := by
 show rnD W 7 0 ⟨#[]⟩ (consD a (consD b .nil)) j B s = _
 unfold rnD
 rw [if_neg (by decide), if_neg (by simp), if_neg (by decide), St.put_none, rnF_consD, rnF_oneD, bh_consD, bh_nil, show j + 0 = j by omega]
theorem ldO_cat (a b : D) : ldO (catD a b) = ldO a + (if enO a then 0 else ldO b) ∧ enO (catD a b) = (enO a || enO b) := by
 obtain ⟨l1, l2⟩ := ld_one b
 have e0 : (⟨#[]⟩ : ByteArray).size = 0 := rfl
 refine ⟨?_, ?_⟩
 ·show nD 7 ⟨#[]⟩ (consD a (consD b .nil)) = _
  show 0 + (nD a.1 a.2.2.1 a.2.2.2 + (if Wid.eD a.1 a.2.2.2 then 0 else ldN (consD b .nil))) = _
  rw [l1, Nat.zero_add]; rfl
 ·show Wid.eD 7 (consD a (consD b .nil)) = _
  show (false || (Wid.eD a.1 a.2.2.2 || ldE (consD b .nil))) = _
  rw [l2, Bool.false_or]; rfl
theorem cat_rq {a a' b b' : D} (h : Rq 0 a a') (k : Rq 0 b b') : Rq 0 (catD a b) (catD a' b') := rq_node (o := 7) 0 ⟨#[]⟩ (k := consD a (consD b .nil)) (k' := consD a' (consD b' .nil)) ⟨h, k, trivial⟩ (Or.inr rfl)
theorem assoc_rq (a b c : D) : Rq 0 (catD (catD a b) c) (catD a (catD b c)) := by
 refine ⟨by rw [no_cat, no_cat, no_cat, no_cat, Bool.and_assoc], by rw [fl_cat, fl_cat, fl_cat, fl_cat, ByteArray.append_assoc], ?_, by rw [(ldO_cat _ _).2, (ldO_cat _ _).2, (ldO_cat _ _).2, (ldO_cat _ _).2, Bool.or_assoc], fun W j B s => ?_⟩
 ·rw [(ldO_cat _ _).1, (ldO_cat _ _).1, (ldO_cat _ _).1, (ldO_cat _ _).1, (ldO_cat _ _).2]
  cases enO a <;> cases enO b <;> simp <;> omega
 ·rw [show j + ((0 : Nat) : Int) = j by omega, rn_cat, rn_cat, rn_cat, rn_cat, (ldO_cat _ _).1, (ldO_cat _ _).2]
  have e : ldO b + (if enO b then 0 else ldO c) + (if (enO b || enO c) = true then 0 else B) = ldO b + (if enO b then 0 else ldO c + (if enO c then 0 else B)) := by
   cases enO b <;> cases enO c <;> simp <;> omega
  rw [e]
theorem all_rq (Q : F) (hQ : Q ≠ .nil) : ∀ P : F, P ≠ .nil → Rq 0 (catAll (P.app Q)) (catD (catAll P) (catAll Q)) := by
 intro P
 induction P with
 | nil => intro h; exact absurd rfl h
 | cons o n t k r _ ih =>
   intro _
   have hrq : r.app Q ≠ .nil := by
    intro e
    have := congrArg F.len e
    rw [F.len_app] at this
    simp only [F.len] at this
    exact hQ (F.len_eq_zero (by omega))
   have e : catAll ((F.cons o n t k r).app Q) = catD (o, n, t, k) (catAll (r.app Q)) := catAll_cons (o, n, t, k) hrq
   rw [e]
   by_cases he : r = .nil
   ·subst he
    exact Rq.refl _
   ·have e2 : catAll (.cons o n t k r) = catD (o, n, t, k) (catAll r) := catAll_cons (o, n, t, k) he
    rw [e2]
    exact (cat_rq (Rq.refl _) (ih he)).trans (assoc_rq _ _ _).symm
theorem row_rq (Φ : F → F) (hk : ∀ (o n : Int) (t : ByteArray) (k : F), niceD (o, n, t, k) = true → nice (psD Φ o n t k) = true) (hΦ : ∀ P, nice P = true → P ≠ .nil → Rq 0 (catAll P) (catAll (Φ P))) : ∀ f : F, nice f = true → RqL 0 f (mapL (rowD Φ) f) := by
 intro f
 induction f with
 | nil => intro _; trivial
 | cons o n t k r ihk ihr =>
   intro h
   have hD : niceD (o, n, t, k) = true := by simp only [nice, Bool.and_eq_true] at h; exact Bool.and_eq_true_iff.2 h.1
   have hr : nice r = true := by simp only [nice, Bool.and_eq_true] at h; exact h.2
   have hkn : nice k = true := (nice_kids hD).2
   refine ⟨?_, ihr hr⟩
   show Rq 0 (o, n, t, k) (catAll (Φ (psD Φ o n t k)))
   refine Rq.trans ?_ (hΦ _ (hk o n t k hD) (ps_ne Φ hD))
   have ih := ihk hkn
   by_cases h7 : o = 7
   ·obtain ⟨⟨o1, n1, t1, k1⟩, ⟨o2, n2, t2, k2⟩, rfl⟩ := kids_two hD h7
    subst h7
    simp only [consD, nice, Bool.and_eq_true] at hkn
    have hk1 : niceD (o1, n1, t1, k1) = true := Bool.and_eq_true_iff.2 hkn.1
    have hk2 : niceD (o2, n2, t2, k2) = true := Bool.and_eq_true_iff.2 hkn.2.1
    obtain ⟨a', b', e, ha, hb⟩ := ih.two
    have e' : consD (rowD Φ o1 n1 t1 k1) (consD (rowD Φ o2 n2 t2 k2) .nil) = consD a' (consD b' .nil) := e
    have ea : rowD Φ o1 n1 t1 k1 = a' := congrArg hd e'
    have eb : rowD Φ o2 n2 t2 k2 = b' := congrArg (fun f => hd (tl f)) e'
    rw [← ea] at ha
    rw [← eb] at hb
    have hz : n = 0 ∧ t = ⟨#[]⟩ := by
     unfold niceD nodeB textB numB at hD
     simp at hD
     exact ⟨hD.1.2, hD.1.1.2⟩
    obtain ⟨rfl, rfl⟩ := hz
    have eps : psD Φ 7 0 ⟨#[]⟩ (consD (o1, n1, t1, k1) (consD (o2, n2, t2, k2) .nil)) = (psD Φ o1 n1 t1 k1).app (psD Φ o2 n2 t2 k2) := by
     show (psD Φ o1 n1 t1 k1).app ((psD Φ o2 n2 t2 k2).app .nil) = _
     rw [F.app_nil]
    rw [eps]
    have ha' := ha.trans (hΦ _ (hk _ _ _ _ hk1) (ps_ne Φ hk1)).symm
    have hb' := hb.trans (hΦ _ (hk _ _ _ _ hk2) (ps_ne Φ hk2)).symm
    exact (cat_rq ha' hb').trans (all_rq _ (ps_ne Φ hk2) _ (ps_ne Φ hk1)).symm
   ·have e : psD Φ o n t k = .cons o n t (mapL (rowD Φ) k) .nil := by unfold psD; rw [if_neg h7, pr_map]
    rw [e]
    exact rq_node n t ih (Or.inr rfl)
theorem pair_rq {d : D} {o n : Int} {t : ByteArray} {k : F} (hd : niceD d = true) (h : niceD (o, n, t, k) = true) (hf : fits d o t = true) : Rq 0 (catD d (o, n, t, k)) (d.1, d.2.1, d.2.2.1 ++ t, d.2.2.2) := by
 obtain ⟨o0, n0, t0, k0⟩ := d
 obtain ⟨h1, h2, _⟩ := fits_iff.1 hf
 simp only at h1
 subst h1; subst h2
 have e0 : k0 = .nil := kids_none hd (by omega) (by omega) (by omega)
 have e1 : k = .nil := kids_none h (by omega) (by omega) (by omega)
 subst e0; subst e1
 have hl : ∀ (n : Int) (t : ByteArray), ldO (2, n, t, .nil) = t.size := fun _ _ => rfl
 have he : ∀ (n : Int) (t : ByteArray), enO (2, n, t, .nil) = false := fun _ _ => rfl
 refine ⟨rfl, ?_, ?_, rfl, fun W j B s => ?_⟩
 ·rw [fl_cat]
  show (t0 ++ t) ++ (⟨#[]⟩ : ByteArray) = (t0 ++ (⟨#[]⟩ : ByteArray)) ++ (t ++ (⟨#[]⟩ : ByteArray))
  rw [Nf.app_none, Nf.app_none, Nf.app_none]
 ·rw [(ldO_cat _ _).1, he, hl, hl, hl, ByteArray.size_append]; rfl
 ·rw [rn_cat]
  show zz (s.put (t0 ++ t)) = zz ((s.put t0).put t)
  rw [put_put]
theorem fz_rq : ∀ (f : F) (d : D), niceD d = true → nice f = true → Rq 0 (catAll (consD d f)) (catAll (fz d f)) := by
 intro f
 induction f with
 | nil => intro d _ _; exact Rq.refl _
 | cons o n t k r _ ih =>
   intro d hd h
   have hD : niceD (o, n, t, k) = true := by simp only [nice, Bool.and_eq_true] at h; exact Bool.and_eq_true_iff.2 h.1
   have hr : nice r = true := by simp only [nice, Bool.and_eq_true] at h; exact h.2
   have e1 : catAll (consD d (.cons o n t k r)) = catD d (catAll (consD (o, n, t, k) r)) := catAll_cons d (consD_ne (o, n, t, k) r)
   rw [e1]
   by_cases hf : fits d o t = true
   ·rw [fz_yes hf]
    refine Rq.trans ?_ (ih _ (nice_join hd hD hf) hr)
    by_cases he : r = .nil
    ·subst he
     exact pair_rq hd hD hf
    ·rw [catAll_cons _ he, catAll_cons _ he]
     exact (assoc_rq _ _ _).symm.trans (cat_rq (pair_rq hd hD hf) (Rq.refl _))
   ·rw [fz_no (by simpa using hf)]
    have hne : fz (o, n, t, k) r ≠ .nil := by
     intro e
     have := (fz_len r (o, n, t, k)).1
     rw [e] at this
     simp [F.len] at this
    rw [catAll_cons _ hne]
    exact cat_rq (Rq.refl _) (ih _ hD hr)
theorem fzR_rq {P : F} (h : nice P = true) (hP : P ≠ .nil) : Rq 0 (catAll P) (catAll (fzR P)) := by
 cases P with
 | nil => exact absurd rfl hP
 | cons o n t k r =>
   have hD : niceD (o, n, t, k) = true := by simp only [nice, Bool.and_eq_true] at h; exact Bool.and_eq_true_iff.2 h.1
   have hr : nice r = true := by simp only [nice, Bool.and_eq_true] at h; exact h.2
   exact fz_rq r (o, n, t, k) hD hr
theorem ch_nice (R : Rule) (hR : ∀ (o n : Int) (t : ByteArray) (k : F), niceD (o, n, t, k) = true → niceD (R o n t k) = true) : ∀ f : F, nice f = true → nice (chL R f) = true := by
 intro f
 induction f with
 | nil => intro _; rfl
 | cons o n t k r ihk ihr =>
   intro h
   simp only [nice, Bool.and_eq_true] at h
   show nice (consD (R o n t (chL R k)) (chL R r)) = true
   rw [nice_consD, ihr h.2, Bool.and_true]
   exact hR _ _ _ _ (Bool.and_eq_true_iff.2 ⟨by show nodeB o n t (chL R k).len = true; rw [len_chL]; exact h.1.1, ihk h.1.2⟩)
theorem ch_rq (R : Rule) (hR : ∀ (o n : Int) (t : ByteArray) (k : F), niceD (o, n, t, k) = true → niceD (R o n t k) = true ∧ Rq 0 (o, n, t, k) (R o n t k)) : ∀ f : F, nice f = true → RqL 0 f (chL R f) := by
 intro f
 induction f with
 | nil => intro _; trivial
 | cons o n t k r ihk ihr =>
   intro h
   simp only [nice, Bool.and_eq_true] at h
   refine ⟨?_, ihr h.2⟩
   have hK : niceD (o, n, t, chL R k) = true := Bool.and_eq_true_iff.2 ⟨by show nodeB o n t (chL R k).len = true; rw [len_chL]; exact h.1.1, ch_nice R (fun o n t k h => (hR o n t k h).1) k h.1.2⟩
   exact (rq_node n t (ihk h.1.2) (Or.inr rfl)).trans (hR o n t _ hK).2
theorem none_of {o n : Int} {t : ByteArray} {k : F} (h : niceD (o, n, t, k) = true) (h2 : o ≠ 2) : t = ⟨#[]⟩ := by
 unfold niceD nodeB textB at h
 simp only [Bool.and_eq_true, if_neg h2, decide_eq_true_eq] at h
 exact h.1.1.2
theorem num_of {o n : Int} {t : ByteArray} {k : F} (h : niceD (o, n, t, k) = true) (h6 : o ≠ 6) : n = 0 := by
 unfold niceD nodeB numB at h
 simp only [Bool.and_eq_true, if_neg h6, decide_eq_true_eq] at h
 exact h.1.2
theorem empty_of {d : D} (h : niceD d = true) (h1 : d.1 = 1) : d = (1, 0, ⟨#[]⟩, .nil) := by
 obtain ⟨o, n, t, k⟩ := d
 simp only at h1
 subst h1
 rw [none_of h (by omega), num_of h (by omega), kids_none h (by omega) (by omega) (by omega)]
theorem rn_empty (W : Int) (j : Int) (B : Nat) (s : St) : rnO W (1, 0, ⟨#[]⟩, .nil) j B s = s := by
 show s.put ⟨#[]⟩ = s
 exact St.put_none s
theorem em_rule {o n : Int} {t : ByteArray} {k : F} (h : niceD (o, n, t, k) = true) : niceD (emR o n t k) = true ∧ Rq 0 (o, n, t, k) (emR o n t k) := by
 have hkn := (nice_kids h).2
 unfold emR
 split
 ·rename_i hq
  obtain ⟨a, b, rfl⟩ := kids_two h hq.1
  rw [nice_consD, nice_consD, Bool.and_eq_true, Bool.and_eq_true] at hkn
  refine ⟨hkn.2.1, ?_⟩
  show Rq 0 (o, n, t, consD a (consD b .nil)) b
  have ea := empty_of hkn.1 hq.2
  have et := none_of h (by omega)
  have en := num_of h (by omega)
  have eo := hq.1
  subst ea et en eo
  show Rq 0 (catD (1, 0, ⟨#[]⟩, .nil) b) b
  refine ⟨by rw [no_cat]; rfl, by rw [fl_cat]; exact (none_app _).symm, ?_, by rw [(ldO_cat _ _).2]; rfl, fun W j B s => ?_⟩
  ·rw [(ldO_cat _ _).1]; show _ = 0 + ldO b; omega
  ·rw [show j + ((0 : Nat) : Int) = j by omega, rn_cat, rn_empty]
 ·split
  ·rename_i hq
   obtain ⟨a, b, rfl⟩ := kids_two h hq.1
   rw [nice_consD, nice_consD, Bool.and_eq_true, Bool.and_eq_true] at hkn
   refine ⟨hkn.1, ?_⟩
   show Rq 0 (o, n, t, consD a (consD b .nil)) a
   have eb := empty_of hkn.2.1 hq.2
   have et := none_of h (by omega)
   have en := num_of h (by omega)
   have eo := hq.1
   subst eb et en eo
   show Rq 0 (catD a (1, 0, ⟨#[]⟩, .nil)) a
   refine ⟨by rw [no_cat]; exact (Bool.and_true _).symm, by rw [fl_cat]; exact (Nf.app_none _).symm, ?_, by rw [(ldO_cat _ _).2]; exact (Bool.or_false _).symm, fun W j B s => ?_⟩
   ·rw [(ldO_cat _ _).1]; show _ = ldO a + (if enO a then 0 else 0); split <;> omega
   ·rw [show j + ((0 : Nat) : Int) = j by omega, rn_cat, rn_empty]
    show _ = zz (rnO W a j (0 + B) s)
    rw [Nat.zero_add]
  ·split
   ·rename_i hq
    obtain ⟨a, rfl⟩ := kids_one h hq.1
    rw [nice_consD, Bool.and_eq_true] at hkn
    refine ⟨hkn.1, ?_⟩
    show Rq 0 (o, n, t, consD a .nil) a
    have ea := empty_of hkn.1 hq.2
    have et := none_of h (by omega)
    subst ea et
    obtain ⟨h1, h2, h3, h4⟩ := ldO_six o n hq.1 (1, 0, ⟨#[]⟩, .nil)
    refine ⟨h3.symm, h4.symm, h1.symm, h2.symm, fun W j B s => ?_⟩
    rw [rn_empty]
    rcases hq.1 with rfl | rfl
    ·rw [rn_six, rn_empty]
    ·show zz s = zz (rnD W 8 n ⟨#[]⟩ (consD (1, 0, ⟨#[]⟩, .nil) .nil) _ B s)
     unfold rnD
     rw [if_neg (by decide)]
     split
     ·show zz s = zz ((s.flag true).put ⟨#[]⟩); rw [St.put_none]; rfl
     ·rw [rnF_oneD, rn_empty]
      show zz s = zz ((s.flag false).put ⟨#[]⟩); rw [St.put_none]; rfl
   ·exact ⟨h, Rq.refl _⟩
theorem em_rq (f : F) (h : nice f = true) : RqL 0 f (chL emR f) := ch_rq emR (fun o n t k h => em_rule h) f h
theorem flat_rn (W : Int) : ∀ (f : F), nlF f = 0 → ∀ (i : Int) (B : Nat) (s : St), zz (rnF W f i B s) = zz (s.put (fl f)) := by
 intro f
 induction f with
 | nil => intro _ i B s; show zz s = zz (s.put ⟨#[]⟩); rw [St.put_none]
 | cons o n t k r ihk ihr =>
   intro h i B s
   unfold nlF at h ihk ihr
   simp only [cntF] at h
   have ho : nl o = false := by
    cases hq : nl o with
    | false => rfl
    | true => unfold nl at hq; rw [if_pos hq] at h; omega
   have h3 : (o == 3) = false := by
    unfold nl at ho
    simp only [Bool.or_eq_false_iff] at ho
    exact ho.1.1
   rw [rnF_cons, ihr (by omega)]
   have e : fl (.cons o n t k r) = (t ++ fl k) ++ fl r := by
    show (if o == 3 then ⟨#[32]⟩ else t ++ fl k) ++ fl r = _
    rw [h3]; simp
   rw [e, ← put_put]
   refine zz_put _ ?_
   unfold rnD
   rw [if_neg (by rw [ho]; decide)]
   split
   ·rename_i hq
    have e8 : flD 8 t k = t ++ fl k := by unfold flD; simp
    rw [e8]; rfl
   ·rw [ihk (by omega), put_put]
    split <;> rfl
theorem gr_rule {o n : Int} {t : ByteArray} {k : F} (h : niceD (o, n, t, k) = true) : niceD (grR o n t k) = true ∧ Rq 0 (o, n, t, k) (grR o n t k) := by
 refine ⟨(gr_keep o n t k h).1, ?_⟩
 unfold grR
 split
 ·rename_i hq
  obtain ⟨a, rfl⟩ := kids_one h (Or.inr hq.1)
  show Rq 0 (o, n, t, consD a .nil) a
  have et := none_of h (by omega)
  have en := num_of h (by omega)
  have eo := hq.1
  subst et en eo
  obtain ⟨h1, h2, h3, h4⟩ := ldO_six 8 0 (Or.inr rfl) a
  refine ⟨h3.symm, h4.symm, h1.symm, h2.symm, fun W j B s => ?_⟩
  rw [show j + ((0 : Nat) : Int) = j by omega]
  rcases hq.2 with q | q | q
  ·-- a group in a group
   obtain ⟨o1, n1, t1, k1⟩ := a
   simp only [hd, consD] at q
   subst q
   have hnk : niceD (8, n1, t1, k1) = true := by have := (nice_kids h).2; rw [nice_consD, Bool.and_eq_true] at this; exact this.1
   have et1 := none_of hnk (by omega)
   subst et1
   have ef : flD 8 ⟨#[]⟩ (consD (8, n1, ⟨#[]⟩, k1) .nil) = flD 8 ⟨#[]⟩ k1 := h4
   have efit : fitB W B s ⟨#[]⟩ (consD (8, n1, ⟨#[]⟩, k1) .nil) = fitB W B s ⟨#[]⟩ k1 := by
    unfold fitB
    rw [ef, no_one]
    rfl
   show zz (rnD W 8 n1 ⟨#[]⟩ k1 j B s) = zz (rnD W 8 0 ⟨#[]⟩ (consD (8, n1, ⟨#[]⟩, k1) .nil) j B s)
   have e : rnD W 8 0 ⟨#[]⟩ (consD (8, n1, ⟨#[]⟩, k1) .nil) j B s = if fitB W B s ⟨#[]⟩ k1 = true then (s.flag true).put (flD 8 ⟨#[]⟩ k1) else rnD W 8 n1 ⟨#[]⟩ k1 j B (s.flag false) := by
    rw [rnD, if_neg (by decide), efit, ef]
    cases hf : fitB W B s ⟨#[]⟩ k1 with
    | true => rw [if_pos (by decide), if_pos rfl]
    | false =>
      rw [if_neg (by decide), if_pos (by decide), if_neg (by decide), St.put_none, rnF_oneD, show j + 0 = j by omega]
      rfl
   rw [e]
   cases hf : fitB W B s ⟨#[]⟩ k1 with
   | true =>
     rw [if_pos rfl]
     unfold rnD
     rw [if_neg (by decide), hf, if_pos (by decide)]
   | false =>
     rw [if_neg (by decide)]
     exact rnD_z W 8 n1 ⟨#[]⟩ k1 j B (zz_flag s false).symm
  ·-- no newline
   have e1 := flat_rn W (consD a .nil) q j B s
   have q2 : nlF (consD (8, 0, ⟨#[]⟩, consD a .nil) .nil) = 0 := by
    show cntF _ _ = 0
    rw [cntF_consD]
    show (if ((8 : Int) == 3 || (8 : Int) == 4 || (8 : Int) == 5) = true then 1 else 0) + nlF (consD a .nil) + 0 = 0
    rw [q]; rfl
   have e2 := flat_rn W _ q2 j B s
   rw [rnF_oneD] at e1 e2
   rw [e1, e2, fl_oneD, fl_oneD, h4]
  ·-- a newline that has to stay
   have hno : noF (consD a .nil) = false := by
    rw [noF_cnt]
    have : hrF (consD a .nil) = cntF (fun x => x == 5) (consD a .nil) := rfl
    rw [← this]
    exact decide_eq_false (by omega)
   show _ = zz (rnD W 8 0 ⟨#[]⟩ (consD a .nil) j B s)
   unfold rnD
   have hfit : fitB W B s ⟨#[]⟩ (consD a .nil) = false := by unfold fitB; rw [hno]; rfl
   rw [if_neg (by decide), hfit, if_neg (by decide), if_pos (by decide), St.put_none, rnF_oneD, show j + 0 = j by omega]
   exact rnD_z W _ _ _ _ j B (zz_flag s false).symm
 ·exact Rq.refl _
theorem gr_rq (f : F) (h : nice f = true) : RqL 0 f (chL grR f) := ch_rq grR (fun o n t k h => gr_rule h) f h
theorem open_rn (W : Int) (hW : W < 0) : ∀ (f : F), nice f = true → ∀ (i : Int) (B : Nat) (s : St), 0 ≤ i → 0 ≤ s.ind → (∀ b ∈ s.flags, b = false) → 0 ≤ (rnF W f i B s).ind ∧ ∀ b ∈ (rnF W f i B s).flags, b = false := by
 intro f
 induction f with
 | nil => intro _ i B s _ h1 h2; exact ⟨h1, h2⟩
 | cons o n t k r ihk ihr =>
   intro h i B s hi h1 h2
   have hD : niceD (o, n, t, k) = true := by simp only [nice, Bool.and_eq_true] at h; exact Bool.and_eq_true_iff.2 h.1
   have hr : nice r = true := by simp only [nice, Bool.and_eq_true] at h; exact h.2
   have hn0 : 0 ≤ n := by
    by_cases h6 : o = 6
    ·subst h6; exact (nest_num hD).1
    ·rw [num_of hD h6]; exact Int.le_refl 0
   rw [rnF_cons]
   have hx : 0 ≤ (rnD W o n t k i (bh r B) s).ind ∧ ∀ b ∈ (rnD W o n t k i (bh r B) s).flags, b = false := by
    unfold rnD
    split
    ·exact ⟨hi, h2⟩
    ·have hfit : fitB W (bh r B) s t k = false := by
      unfold fitB
      rw [Bool.and_eq_false_iff]
      refine Or.inr (decide_eq_false ?_)
      unfold St.used
      omega
     rw [hfit, if_neg (by simp)]
     split
     ·exact ihk (nice_kids hD).2 (i + n) (bh r B) _ (by omega) h1 (fun b hb => by
       rcases List.mem_append.1 (show b ∈ s.flags ++ [false] from hb) with hb | hb
       ·exact h2 b hb
       ·simpa using hb)
     ·exact ihk (nice_kids hD).2 (i + n) (bh r B) _ (by omega) h1 h2
   exact ihr hr i B _ hi hx.1 hx.2
theorem open_neg {o n : Int} {t : ByteArray} {k : F} (h : validD o n t k = true) : (stD (-1) o n t k).fin = openD o n t k := by
 refine (rn_opened (-1) h).2 ?_
 have h1 := open_rn (-1) (by decide) (.cons o n t k .nil) (by have := (valid_nice h).1; rw [show nice (.cons o n t k .nil) = (niceD (o, n, t, k) && nice .nil) from rfl, this]; rfl) 0 0 St.zero (Int.le_refl 0) (Int.le_refl 0) (by intro b hb; cases hb)
 rw [rnF_one] at h1
 exact h1.2
theorem Rq.st {d d' : D} (h : Rq 0 d d') (W : Int) : (stD W d'.1 d'.2.1 d'.2.2.1 d'.2.2.2).fin = (stD W d.1 d.2.1 d.2.2.1 d.2.2.2).fin := by
 have := h.rn W 0 0 St.zero
 exact zz_fin this
theorem Rq.opened {d d' : D} (h : Rq 0 d d') (hv : validD d.1 d.2.1 d.2.2.1 d.2.2.2 = true) (hv' : validD d'.1 d'.2.1 d'.2.2.1 d'.2.2.2 = true) : openD d'.1 d'.2.1 d'.2.2.1 d'.2.2.2 = openD d.1 d.2.1 d.2.2.1 d.2.2.2 := by
 rw [← open_neg hv, ← open_neg hv']
 exact h.st (-1)
end Go.Proofs.YtjcaiecapapceaaGreat.Rq
namespace Go.Proofs.YtjcaiecapapceaaGreat.Rq
open Go.RowKit P1 Rn Nf
theorem no_rq {d : D} (hv : validD d.1 d.2.1 d.2.2.1 d.2.2.2 = true) : Rq 0 d (Nf.noD d) := by
 have hd : ∀ {x : D}, niceD x = true → nice (consD x .nil) = true := fun {x} h => by rw [nice_consD, h]; rfl
 have hn := (valid_nice hv).1
 obtain ⟨m1, _, _⟩ := no_1 hv
 obtain ⟨m2, _⟩ := no_2 hv
 obtain ⟨m3, _⟩ := no_3 hv
 obtain ⟨m4, _⟩ := no_4 hv
 have s1 : Rq 0 d (n1D d) := (em_rq (consD d .nil) (hd hn)).1
 have s2 : Rq 0 (n1D d) (n2D d) := push_rq m1
 have s3 : Rq 0 (n2D d) (n3D d) := (gr_rq (consD (n2D d) .nil) (hd m2)).1
 have s4 : Rq 0 (n3D d) (n4D d) := (em_rq (consD (n3D d) .nil) (hd m3)).1
 have s5 : Rq 0 (n4D d) (Nf.noD d) := (row_rq fzR (fun o n t k h => (row_parts fzR_ok h).1) (fun P h1 h2 => fzR_rq h1 h2) (consD (n4D d) .nil) (hd m4)).1
 exact (((s1.trans s2).trans s3).trans s4).trans s5
theorem ch_rn {d d' : D} {o n : Int} {t : ByteArray} {k : F} (h : Nf.chR d d' = (true, o, n, t, k)) (hq : validD d.1 d.2.1 d.2.2.1 d.2.2.2 = true → Rq 0 d d') : validD d.1 d.2.1 d.2.2.1 d.2.2.2 = true ∧ validD o n t k = true ∧ (∀ W : Int, (stD W o n t k).fin = (stD W d.1 d.2.1 d.2.2.1 d.2.2.2).fin) ∧ openD o n t k = openD d.1 d.2.1 d.2.2.1 d.2.2.2 := by
 obtain ⟨h1, h2, h3⟩ := ch_ok (d := d) (d' := d') (by rw [h])
 rw [h] at h3
 have e : d' = (o, n, t, k) := (Prod.mk.inj h3).2.symm
 subst e
 exact ⟨h1, h2, fun W => (hq h1).st W, (hq h1).opened h1 h2⟩
theorem no_rn {o n : Int} {t : ByteArray} {k : F} {o2 n2 : Int} {t2 : ByteArray} {k2 : F} (h : noRes o n t k = (true, o2, n2, t2, k2)) : validD o n t k = true ∧ validD o2 n2 t2 k2 = true ∧ (∀ W : Int, (stD W o2 n2 t2 k2).fin = (stD W o n t k).fin) ∧ openD o2 n2 t2 k2 = openD o n t k :=
 ch_rn (d := (o, n, t, k)) h (fun hv => no_rq hv)
end Go.Proofs.YtjcaiecapapceaaGreat.Rq
namespace Go.Proofs.YtjcaiecapapceaaGreat.Rq
open Go.RowKit P1 Rn Nf CntC
theorem ch_le (m : Int → Bool) (R : Rule) (hR : ∀ (o n : Int) (t : ByteArray) (k : F), niceD (o, n, t, k) = true → niceD (R o n t k) = true ∧ cntF m (consD (R o n t k) .nil) ≤ cntF m (.cons o n t k .nil)) : ∀ f : F, nice f = true → cntF m (chL R f) ≤ cntF m f := by
 intro f
 induction f with
 | nil => intro _; exact Nat.le_refl _
 | cons o n t k r ihk ihr =>
   intro h
   simp only [nice, Bool.and_eq_true] at h
   have hK : niceD (o, n, t, chL R k) = true := Bool.and_eq_true_iff.2 ⟨by show nodeB o n t (chL R k).len = true; rw [len_chL]; exact h.1.1, ch_nice R (fun o n t k h => (hR o n t k h).1) k h.1.2⟩
   have h1 := (hR o n t _ hK).2
   have h2 := ihk h.1.2
   have h3 := ihr h.2
   show cntF m (consD (R o n t (chL R k)) (chL R r)) ≤ (if m o then 1 else 0) + cntF m k + cntF m r
   rw [cntF_consD] at h1 ⊢
   have e1 : cntF m (.cons o n t (chL R k) .nil) = (if m o then 1 else 0) + cntF m (chL R k) + 0 := rfl
   have e2 : cntF m .nil = 0 := rfl
   rw [e1, e2] at h1
   omega
theorem em_le (m : Int → Bool) (f : F) (h : nice f = true) : cntF m (chL emR f) ≤ cntF m f := ch_le m emR (fun o n t k h => ⟨(em_rule h).1, by
 have e : cntF m (.cons o n t k .nil) = (if m o then 1 else 0) + cntF m k + 0 := rfl
 have e0 : cntF m .nil = 0 := rfl
 unfold emR
 split
 ·rename_i hq
  obtain ⟨a, b, rfl⟩ := kids_two h hq.1
  rw [e, cntF_consD m a, cntF_consD m b]
  show cntF m (consD b .nil) ≤ _
  rw [cntF_consD]; omega
 ·split
  ·rename_i hq
   obtain ⟨a, b, rfl⟩ := kids_two h hq.1
   rw [e, cntF_consD m a, cntF_consD m b]
   show cntF m (consD a .nil) ≤ _
   rw [cntF_consD]; omega
  ·split
   ·rename_i hq
    obtain ⟨a, rfl⟩ := kids_one h hq.1
    rw [e, cntF_consD m a]
    show cntF m (consD a .nil) ≤ _
    rw [cntF_consD]; omega
   ·exact Nat.le_refl _⟩) f h
theorem gr_le (m : Int → Bool) (f : F) (h : nice f = true) : cntF m (chL grR f) ≤ cntF m f := ch_le m grR (fun o n t k h => ⟨(gr_keep o n t k h).1, by
 have e : cntF m (.cons o n t k .nil) = (if m o then 1 else 0) + cntF m k + 0 := rfl
 unfold grR
 split
 ·rename_i hq
  obtain ⟨a, rfl⟩ := kids_one h (Or.inr hq.1)
  rw [e, cntF_consD m a]
  show cntF m (consD a .nil) ≤ _
  rw [cntF_consD]; omega
 ·exact Nat.le_refl _⟩) f h
theorem no_ops (m : Int → Bool) (h6 : m 6 = false) (h7 : m 7 = false) {d : D} (hv : validD d.1 d.2.1 d.2.2.1 d.2.2.2 = true) : cntF m (consD (Nf.noD d) .nil) ≤ cntF m (consD d .nil) := by
 have hd : ∀ {x : D}, niceD x = true → nice (consD x .nil) = true := fun {x} h => by rw [nice_consD, h]; rfl
 have hn := (valid_nice hv).1
 obtain ⟨m1, _, _⟩ := no_1 hv
 obtain ⟨m2, _⟩ := no_2 hv
 obtain ⟨m3, _⟩ := no_3 hv
 obtain ⟨m4, _⟩ := no_4 hv
 have s1 : cntF m (consD (n1D d) .nil) ≤ cntF m (consD d .nil) := em_le m (consD d .nil) (hd hn)
 have s2 : cntF m (consD (n2D d) .nil) = cntF m (consD (n1D d) .nil) := push_ops m h6 (consD (n1D d) .nil) 0 (hd m1)
 have s3 : cntF m (consD (n3D d) .nil) ≤ cntF m (consD (n2D d) .nil) := gr_le m (consD (n2D d) .nil) (hd m2)
 have s4 : cntF m (consD (n4D d) .nil) ≤ cntF m (consD (n3D d) .nil) := em_le m (consD (n3D d) .nil) (hd m3)
 have s5 : cntF m (consD (Nf.noD d) .nil) ≤ cntF m (consD (n4D d) .nil) := by
  have := (row_ops m h7 (consD (n4D d) .nil) (hd m4)).2
  rw [pr_map] at this
  exact this
 omega
theorem no_8 {o n : Int} {t : ByteArray} {k : F} {o2 n2 : Int} {t2 : ByteArray} {k2 : F} (h : noRes o n t k = (true, o2, n2, t2, k2)) : opsD 8 o2 k2 ≤ opsD 8 o k := by
 have hv := (no_rn h).1
 have h1 := no_ops (fun x => x == 8) (by decide) (by decide) (d := (o, n, t, k)) hv
 obtain ⟨_, _, h3⟩ := ch_ok (d := (o, n, t, k)) (d' := Nf.noD (o, n, t, k)) (by show (noRes o n t k).1 = true; rw [h])
 have e : Nf.noD (o, n, t, k) = (o2, n2, t2, k2) := by
  have h4 : noRes o n t k = (true, Nf.noD (o, n, t, k)) := h3
  rw [h] at h4
  exact (Prod.mk.inj h4).2.symm
 rw [e] at h1
 exact h1
end Go.Proofs.YtjcaiecapapceaaGreat.Rq
