import Derived.Test.YtjcaiecapapceaaGreatNfA
/-
 A document without its groups, as a plain function: it is valid when the document is, and has no group; nothing here speaks of the program.
-/
set_option linter.unusedVariables false
set_option linter.unusedSimpArgs false
namespace Go.Proofs.YtjcaiecapapceaaGreat.Nf
open P1
def woR : Rule := fun o n t k => if o = 8 then hd k else (o, n, t, k)
theorem wo_list : ∀ f : F, nice f = true → nice (chL woR f) = true ∧ (chL woR f).cnt + cntF (fun x => x == 8) f = f.cnt ∧ (chL woR f).deep ≤ f.deep ∧ cntF (fun x => x == 8) (chL woR f) = 0 := by
 intro f
 induction f with
 | nil => intro _; exact ⟨rfl, rfl, Nat.le_refl _, rfl⟩
 | cons o n t k r ihk ihr =>
   intro h
   have hD : niceD (o, n, t, k) = true := by simp only [nice, Bool.and_eq_true] at h; exact Bool.and_eq_true_iff.2 h.1
   have hr : nice r = true := by simp only [nice, Bool.and_eq_true] at h; exact h.2
   obtain ⟨a1, a2, a3, a4⟩ := ihk (nice_kids hD).2
   obtain ⟨b1, b2, b3, b4⟩ := ihr hr
   have hl := len_chL woR k
   have hK : niceD (o, n, t, chL woR k) = true := by
    unfold niceD at hD ⊢
    rw [Bool.and_eq_true] at hD ⊢
    exact ⟨by rw [hl]; exact hD.1, a1⟩
   rw [chL]
   obtain ⟨K, hKK⟩ : ∃ K, chL woR k = K := ⟨_, rfl⟩
   rw [hKK] at a1 a2 a3 a4 hK ⊢
   have e2 : cntF (fun x => x == 8) (.cons o n t k r) = (if o == 8 then 1 else 0) + cntF (fun x => x == 8) k + cntF (fun x => x == 8) r := rfl
   have e3 : (F.cons o n t k r).cnt = 1 + k.cnt + r.cnt := rfl
   have e4 : (F.cons o n t k r).deep = max (k.deep + 1) r.deep := rfl
   rw [e2, e3, e4]
   by_cases h8 : o = 8
   ·obtain ⟨⟨o1, n1, t1, k1⟩, ha⟩ := kids_one hK (Or.inr h8)
    have ew : woR o n t K = (o1, n1, t1, k1) := by unfold woR; rw [if_pos h8, ha]; rfl
    rw [ha] at a1 a2 a3 a4
    rw [ew]
    have c1 : cntF (fun x => x == 8) (consD (o1, n1, t1, k1) .nil) = (if o1 == 8 then 1 else 0) + cntF (fun x => x == 8) k1 + 0 := rfl
    have c2 : (consD ((o1, n1, t1, k1) : D) .nil).cnt = 1 + k1.cnt + 0 := rfl
    have c3 : (consD ((o1, n1, t1, k1) : D) .nil).deep = max (k1.deep + 1) 0 := rfl
    have d1 : (consD ((o1, n1, t1, k1) : D) (chL woR r)).cnt = 1 + k1.cnt + (chL woR r).cnt := rfl
    have d2 : (consD ((o1, n1, t1, k1) : D) (chL woR r)).deep = max (k1.deep + 1) (chL woR r).deep := rfl
    have d3 : cntF (fun x => x == 8) (consD (o1, n1, t1, k1) (chL woR r)) = (if o1 == 8 then 1 else 0) + cntF (fun x => x == 8) k1 + cntF (fun x => x == 8) (chL woR r) := rfl
    rw [c2] at a2
    rw [c3] at a3
    rw [c1] at a4
    rw [nice_consD, Bool.and_eq_true] at a1
    rw [d1, d2, d3, nice_consD, a1.1, b1, show (o == 8) = true by rw [beq_iff_eq]; exact h8]
    refine ⟨rfl, ?_, by omega, by omega⟩
    simp only [if_true]
    omega
   ·have ew : woR o n t K = (o, n, t, K) := by unfold woR; rw [if_neg h8]
    rw [ew]
    have d1 : (consD ((o, n, t, K) : D) (chL woR r)).cnt = 1 + K.cnt + (chL woR r).cnt := rfl
    have d2 : (consD ((o, n, t, K) : D) (chL woR r)).deep = max (K.deep + 1) (chL woR r).deep := rfl
    have d3 : cntF (fun x => x == 8) (consD (o, n, t, K) (chL woR r)) = (if o == 8 then 1 else 0) + cntF (fun x => x == 8) K + cntF (fun x => x == 8) (chL woR r) := rfl
    have q8 : (o == 8) = false := by rw [beq_eq_false_iff_ne]; exact h8
    rw [d1, d2, d3, nice_consD, hK, b1, q8]
    simp only [Bool.false_eq_true, if_false]
    exact ⟨rfl, by omega, by omega, by omega⟩
def woD (d : D) : D := chD woR d.1 d.2.1 d.2.2.1 d.2.2.2
theorem wo_one (d : D) : chL woR (consD d .nil) = consD (woD d) .nil := rfl
theorem wo_doc {d : D} (h : niceD d = true) : niceD (woD d) = true ∧ (woD d).2.2.2.cnt + cntF (fun x => x == 8) (consD d .nil) = d.2.2.2.cnt ∧ (woD d).2.2.2.deep ≤ d.2.2.2.deep ∧ cntF (fun x => x == 8) (consD (woD d) .nil) = 0 := by
 obtain ⟨a1, a2, a3, a4⟩ := wo_list (consD d .nil) (by rw [nice_consD, h]; rfl)
 rw [wo_one] at a1 a2 a3 a4
 rw [nice_consD, Bool.and_eq_true] at a1
 have e1 : (consD (woD d) .nil).cnt = 1 + (woD d).2.2.2.cnt + 0 := rfl
 have e2 : (consD d .nil).cnt = 1 + d.2.2.2.cnt + 0 := rfl
 have e3 : (consD (woD d) .nil).deep = max ((woD d).2.2.2.deep + 1) 0 := rfl
 have e4 : (consD d .nil).deep = max (d.2.2.2.deep + 1) 0 := rfl
 exact ⟨a1.1, by omega, by omega, a4⟩
theorem wo_valid {o n : Int} {t : ByteArray} {k : F} (h : validD o n t k = true) : validD (chD woR o n t k).1 (chD woR o n t k).2.1 (chD woR o n t k).2.2.1 (chD woR o n t k).2.2.2 = true := by
 obtain ⟨h1, h2, h3⟩ := valid_nice h
 obtain ⟨g1, g2, g3, _⟩ := wo_doc h1
 have hcn : (woD (o, n, t, k)).2.2.2.cnt ≤ k.cnt := by have : ((o, n, t, k) : D).2.2.2.cnt = k.cnt := rfl; omega
 have hdp : (woD (o, n, t, k)).2.2.2.deep ≤ k.deep := g3
 show validD (woD (o, n, t, k)).1 (woD (o, n, t, k)).2.1 (woD (o, n, t, k)).2.2.1 (woD (o, n, t, k)).2.2.2 = true
 obtain ⟨d, hd⟩ : ∃ d, woD (o, n, t, k) = d := ⟨_, rfl⟩
 rw [hd] at g1 hcn hdp ⊢
 obtain ⟨o', n', t', k'⟩ := d
 unfold niceD at g1
 rw [Bool.and_eq_true] at g1
 have q1 : nodeB o' n' t' k'.len = true := g1.1
 have q2 : nice k' = true := g1.2
 have q3 : k'.deep ≤ 39 := by have : k'.deep ≤ k.deep := hdp; omega
 have q4 : 1 + k'.cnt ≤ 80 := by have : k'.cnt ≤ k.cnt := hcn; omega
 show (okD 40 o' n' t' k' && decide (1 + k'.cnt ≤ 80)) = true
 unfold okD
 rw [ok_nice]
 simp [q1, q2, q3, q4]
end Go.Proofs.YtjcaiecapapceaaGreat.Nf
