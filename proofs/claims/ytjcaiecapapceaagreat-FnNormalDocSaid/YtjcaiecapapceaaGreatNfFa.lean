import Derived.Test.YtjcaiecapapceaaGreatFuX
/-
 Texts joined: valid documents, and counts of nodes; nothing here speaks of layouts.
-/
set_option linter.unusedVariables false
set_option linter.unusedSimpArgs false
namespace Go.Proofs.YtjcaiecapapceaaGreat.Nf
open P1 CatD
theorem cnt_cons (m : Int → Bool) (o n : Int) (t : ByteArray) (k r : F) : cntF m (.cons o n t k r) = (if m o then 1 else 0) + cntF m k + cntF m r := rfl
theorem cat_ops (m : Int → Bool) (h7 : m 7 = false) : ∀ P : F, P ≠ .nil → cntF m (consD (catAll P) .nil) = cntF m P := by
 intro P
 induction P with
 | nil => intro h; exact absurd rfl h
 | cons o n t k r _ ih =>
   intro _
   by_cases he : r = .nil
   ·subst he; rfl
   ·have e : catAll (.cons o n t k r) = (7, 0, ⟨#[]⟩, .cons o n t k (consD (catAll r) .nil)) := by show (if r.len = 0 then _ else _) = _; rw [if_neg (fun e => he (F.len_eq_zero e))]
    rw [e]
    show (if m 7 then 1 else 0) + cntF m (.cons o n t k (consD (catAll r) .nil)) + cntF m .nil = _
    rw [h7, cnt_cons, ih he, cnt_cons]
    show (if false = true then 1 else 0) + _ + 0 = _
    simp
theorem fz_ops (m : Int → Bool) : ∀ (f : F) (d : D), cntF m (fz d f) ≤ cntF m (consD d f) := by
 intro f
 induction f with
 | nil => intro d; exact Nat.le_refl _
 | cons o n t k r _ ih =>
   intro d
   have e : cntF m (consD d (.cons o n t k r)) = (if m d.1 then 1 else 0) + cntF m d.2.2.2 + ((if m o then 1 else 0) + cntF m k + cntF m r) := rfl
   by_cases hf : fits d o t = true
   ·rw [fz_yes hf, e]
    have h1 := ih (d.1, d.2.1, d.2.2.1 ++ t, d.2.2.2)
    have e1 : cntF m (consD (d.1, d.2.1, d.2.2.1 ++ t, d.2.2.2) r) = (if m d.1 then 1 else 0) + cntF m d.2.2.2 + cntF m r := rfl
    omega
   ·rw [fz_no (by simpa using hf), e]
    have h1 := ih (o, n, t, k)
    have e1 : cntF m (consD (o, n, t, k) r) = (if m o then 1 else 0) + cntF m k + cntF m r := rfl
    have e2 : cntF m (consD d (fz (o, n, t, k) r)) = (if m d.1 then 1 else 0) + cntF m d.2.2.2 + cntF m (fz (o, n, t, k) r) := rfl
    omega
theorem fzR_ops (m : Int → Bool) (P : F) : cntF m (fzR P) ≤ cntF m P := by
 cases P with
 | nil => exact Nat.le_refl _
 | cons o n t k r => exact fz_ops m r (o, n, t, k)
theorem cntF_app' (m : Int → Bool) (f g : F) : cntF m (f.app g) = cntF m f + cntF m g := by
 induction f with
 | nil => show _ = 0 + _; rw [Nat.zero_add]; rfl
 | cons o n t k r _ ih => show cntF m (.cons o n t k (r.app g)) = _; rw [cnt_cons, cnt_cons, ih]; omega
theorem row_ops (m : Int → Bool) (h7 : m 7 = false) : ∀ f : F, nice f = true → cntF m (pr fzR f).1 ≤ cntF m f ∧ cntF m (pr fzR f).2 ≤ cntF m f := by
 intro f
 induction f with
 | nil => intro _; exact ⟨Nat.le_refl _, Nat.le_refl _⟩
 | cons o n t k r ihk ihr =>
   intro h
   have hD : niceD (o, n, t, k) = true := by simp only [nice, Bool.and_eq_true] at h; exact Bool.and_eq_true_iff.2 h.1
   have hr : nice r = true := by simp only [nice, Bool.and_eq_true] at h; exact h.2
   obtain ⟨a1, a2⟩ := ihk (nice_kids hD).2
   obtain ⟨b1, b2⟩ := ihr hr
   have hps : cntF m (psD fzR o n t k) ≤ (if m o then 1 else 0) + cntF m k := by
    unfold psD
    split
    ·omega
    ·rw [cnt_cons]
     show _ + cntF m (pr fzR k).2 + 0 ≤ _
     omega
   have hq := fzR_ops m (psD fzR o n t k)
   have hne : fzR (psD fzR o n t k) ≠ .nil := (fzR_keep (row_parts fzR_ok hD).1 (ps_ne fzR hD)).2.2
   have hc := cat_ops m h7 _ hne
   rw [pr_cons]
   refine ⟨?_, ?_⟩
   ·show cntF m ((psD fzR o n t k).app (pr fzR r).1) ≤ _
    rw [cntF_app', cnt_cons]
    omega
   ·have e : cntF m (consD (rowD fzR o n t k) (pr fzR r).2) = cntF m (consD (catAll (fzR (psD fzR o n t k))) .nil) + cntF m (pr fzR r).2 := by
     show (if m (catAll (fzR (psD fzR o n t k))).1 then 1 else 0) + cntF m (catAll (fzR (psD fzR o n t k))).2.2.2 + cntF m (pr fzR r).2 = (if m (catAll (fzR (psD fzR o n t k))).1 then 1 else 0) + cntF m (catAll (fzR (psD fzR o n t k))).2.2.2 + 0 + cntF m (pr fzR r).2
     rw [Nat.add_zero]
    show cntF m (consD (rowD fzR o n t k) (pr fzR r).2) ≤ _
    rw [e, hc, cnt_cons]
    omega
end Go.Proofs.YtjcaiecapapceaaGreat.Nf
