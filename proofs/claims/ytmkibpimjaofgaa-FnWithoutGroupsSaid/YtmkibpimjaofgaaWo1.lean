import Derived.Test.YtmkibpimjaofgaaWo0
import Derived.Test.YtmkibpimjaofgaaChP
/-
  A document without its groups: again, its open layout, one choice. Nothing here speaks of the program.
-/
set_option linter.unusedVariables false
set_option linter.unusedSimpArgs false
namespace Go.Proofs.Ytmkibpimjaofgaa.Nf
open P1 ChP

theorem g8_cons (o n : Int) (t : ByteArray) (k r : F) : cntF (fun x => x == 8) (.cons o n t k r) = (if (o == 8) = true then 1 else 0) + cntF (fun x => x == 8) k + cntF (fun x => x == 8) r := rfl
theorem wo_id : ∀ f : F, cntF (fun x => x == 8) f = 0 → chL woR f = f := by
  intro f
  induction f with
  | nil => intro _; rfl
  | cons o n t k r ihk ihr =>
    intro h
    rw [g8_cons] at h
    have h8 : o ≠ 8 := by intro h8; subst h8; simp at h
    show consD (woR o n t (chL woR k)) (chL woR r) = consD (o, n, t, k) r
    rw [ihk (by omega), ihr (by omega)]
    unfold woR
    rw [if_neg h8]
theorem consD_inj {d d' : D} (h : consD d .nil = consD d' .nil) : d = d' := by
  have := congrArg hd h
  exact this
theorem wo_again {d : D} (h : niceD d = true) : woD (woD d) = woD d := by
  have h1 := (wo_doc h).2.2.2
  have h2 := wo_id _ h1
  rw [wo_one] at h2
  exact consD_inj h2
theorem wo_opens : ∀ f : F, nice f = true → opens (chL woR f) = opens f := by
  intro f
  induction f with
  | nil => intro _; rfl
  | cons o n t k r ihk ihr =>
    intro h
    have hD : niceD (o, n, t, k) = true := by simp only [nice, Bool.and_eq_true] at h; exact Bool.and_eq_true_iff.2 h.1
    have hr : nice r = true := by simp only [nice, Bool.and_eq_true] at h; exact h.2
    have e1 := ihk (nice_kids hD).2
    show opens (consD (woR o n t (chL woR k)) (chL woR r)) = opn o n t (opens k) :: opens r
    have e2 : ∀ d : D, opens (consD d (chL woR r)) = opn d.1 d.2.1 d.2.2.1 (opens d.2.2.2) :: opens (chL woR r) := fun _ => rfl
    rw [e2, ihr hr]
    by_cases h8 : o = 8
    · obtain ⟨a, ha⟩ := kids_one hD (Or.inr h8)
      have hK : chL woR k = consD (woD a) .nil := by rw [ha]; rfl
      have e3 : woR o n t (chL woR k) = woD a := by
        show (if o = 8 then hd (chL woR k) else (o, n, t, chL woR k)) = _
        rw [if_pos h8, hK]; rfl
      rw [e3, h8]
      rw [hK] at e1
      have e4 : opens (consD (woD a) .nil) = [opn (woD a).1 (woD a).2.1 (woD a).2.2.1 (opens (woD a).2.2.2)] := rfl
      rw [← e1, e4]
      rfl
    · have e3 : woR o n t (chL woR k) = (o, n, t, chL woR k) := by
        show (if o = 8 then hd (chL woR k) else (o, n, t, chL woR k)) = _
        rw [if_neg h8]
      rw [e3]
      show opn o n t (opens (chL woR k)) :: _ = _
      rw [e1]
theorem wo_openD {d : D} (h : niceD d = true) : openD (woD d).1 (woD d).2.1 (woD d).2.2.1 (woD d).2.2.2 = openD d.1 d.2.1 d.2.2.1 d.2.2.2 := by
  have h1 := wo_opens (consD d .nil) (by rw [nice_consD, h]; rfl)
  rw [wo_one] at h1
  exact (List.cons.inj h1).1
theorem ct_none : ∀ f : F, cntF (fun x => x == 8) f = 0 → ctF f = 1 := by
  intro f
  induction f with
  | nil => intro _; rfl
  | cons o n t k r ihk ihr =>
    intro h
    rw [g8_cons] at h
    have h8 : o ≠ 8 := by intro h8; subst h8; simp at h
    rw [ctF_cons, ctD_other h8, ihk (by omega), ihr (by omega)]
theorem wo_ct {d : D} (h : niceD d = true) : ctD (woD d).1 (woD d).2.2.2 = 1 := by
  have h1 := ct_none _ (wo_doc h).2.2.2
  have e : ctF (consD (woD d) .nil) = ctD (woD d).1 (woD d).2.2.2 := ctF_one _ _ _ _
  rw [← e]; exact h1

end Go.Proofs.Ytmkibpimjaofgaa.Nf

