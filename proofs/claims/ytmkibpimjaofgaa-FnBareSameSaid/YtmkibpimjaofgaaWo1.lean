import Derived.Test.YtmkibpimjaofgaaWo0
import Derived.Test.YtmkibpimjaofgaaChP
import Derived.Test.YtmkibpimjaofgaaNfGx
/-
  A document without its groups: again, its open layout, one choice; dropping groups again, and of a document without groups. Nothing here speaks of the program.
-/
set_option linter.unusedVariables false
set_option linter.unusedSimpArgs false
namespace Go.Proofs.Ytmkibpimjaofgaa.Nf
open P1 ChP

theorem g8_cons (o n : Int) (t : ByteArray) (k r : F) : cntF (fun x => x == 8) (.cons o n t k r) = (if (o == 8) = true then 1 else 0) + cntF (fun x => x == 8) k + cntF (fun x => x == 8) r := rfl
theorem wo_id : ∀ f : F, cntF (fun x => x == 8) f = 0 → chL woR f = f := by
  intro f
  induction f with
  | nil => intro _; rfl
  | cons o n t k r ihk ihr =>
    intro h
    rw [g8_cons] at h
    have h8 : o ≠ 8 := by intro h8; subst h8; simp at h
    show consD (woR o n t (chL woR k)) (chL woR r) = consD (o, n, t, k) r
    rw [ihk (by omega), ihr (by omega)]
    unfold woR
    rw [if_neg h8]
theorem consD_inj {d d' : D} (h : consD d .nil = consD d' .nil) : d = d' := by
  have := congrArg hd h
  exact this
theorem wo_again {d : D} (h : niceD d = true) : woD (woD d) = woD d := by
  have h1 := (wo_doc h).2.2.2
  have h2 := wo_id _ h1
  rw [wo_one] at h2
  exact consD_inj h2
theorem wo_opens : ∀ f : F, nice f = true → opens (chL woR f) = opens f := by
  intro f
  induction f with
  | nil => intro _; rfl
  | cons o n t k r ihk ihr =>
    intro h
    have hD : niceD (o, n, t, k) = true := by simp only [nice, Bool.and_eq_true] at h; exact Bool.and_eq_true_iff.2 h.1
    have hr : nice r = true := by simp only [nice, Bool.and_eq_true] at h; exact h.2
    have e1 := ihk (nice_kids hD).2
    show opens (consD (woR o n t (chL woR k)) (chL woR r)) = opn o n t (opens k) :: opens r
    have e2 : ∀ d : D, opens (consD d (chL woR r)) = opn d.1 d.2.1 d.2.2.1 (opens d.2.2.2) :: opens (chL woR r) := fun _ => rfl
    rw [e2, ihr hr]
    by_cases h8 : o = 8
    · obtain ⟨a, ha⟩ := kids_one hD (Or.inr h8)
      have hK : chL woR k = consD (woD a) .nil := by rw [ha]; rfl
      have e3 : woR o n t (chL woR k) = woD a := by
        show (if o = 8 then hd (chL woR k) else (o, n, t, chL woR k)) = _
        rw [if_pos h8, hK]; rfl
      rw [e3, h8]
      rw [hK] at e1
      have e4 : opens (consD (woD a) .nil) = [opn (woD a).1 (woD a).2.1 (woD a).2.2.1 (opens (woD a).2.2.2)] := rfl
      rw [← e1, e4]
      rfl
    · have e3 : woR o n t (chL woR k) = (o, n, t, chL woR k) := by
        show (if o = 8 then hd (chL woR k) else (o, n, t, chL woR k)) = _
        rw [if_neg h8]
      rw [e3]
      show opn o n t (opens (chL woR k)) :: _ = _
      rw [e1]
theorem wo_openD {d : D} (h : niceD d = true) : openD (woD d).1 (woD d).2.1 (woD d).2.2.1 (woD d).2.2.2 = openD d.1 d.2.1 d.2.2.1 d.2.2.2 := by
  have h1 := wo_opens (consD d .nil) (by rw [nice_consD, h]; rfl)
  rw [wo_one] at h1
  exact (List.cons.inj h1).1
theorem ct_none : ∀ f : F, cntF (fun x => x == 8) f = 0 → ctF f = 1 := by
  intro f
  induction f with
  | nil => intro _; rfl
  | cons o n t k r ihk ihr =>
    intro h
    rw [g8_cons] at h
    have h8 : o ≠ 8 := by intro h8; subst h8; simp at h
    rw [ctF_cons, ctD_other h8, ihk (by omega), ihr (by omega)]
theorem wo_ct {d : D} (h : niceD d = true) : ctD (woD d).1 (woD d).2.2.2 = 1 := by
  have h1 := ct_none _ (wo_doc h).2.2.2
  have e : ctF (consD (woD d) .nil) = ctD (woD d).1 (woD d).2.2.2 := ctF_one _ _ _ _
  rw [← e]; exact h1

/-! ## dropping groups again -/

theorem wg_id : ∀ f : F, cntF (fun x => x == 8) f = 0 → chL grR f = f := by
  intro f
  induction f with
  | nil => intro _; rfl
  | cons o n t k r ihk ihr =>
    intro h
    rw [g8_cons] at h
    have h8 : o ≠ 8 := by intro h8; subst h8; simp at h
    show consD (grR o n t (chL grR k)) (chL grR r) = consD (o, n, t, k) r
    rw [ihk (by omega), ihr (by omega)]
    unfold grR
    rw [if_neg (fun h => h8 h.1)]
/-- every group makes a difference -/
def gfW : F → Prop
  | .nil => True
  | .cons o n t k r => (o = 8 → (hd k).1 ≠ 8 ∧ nlF k ≠ 0 ∧ hrF k = 0) ∧ gfW k ∧ gfW r
theorem gfW_fix : ∀ f : F, gfW f → chL grR f = f := by
  intro f
  induction f with
  | nil => intro _; rfl
  | cons o n t k r ihk ihr =>
    intro h
    show consD (grR o n t (chL grR k)) (chL grR r) = consD (o, n, t, k) r
    rw [ihk h.2.1, ihr h.2.2]
    unfold grR
    rw [if_neg (fun hc => by obtain ⟨a, b, c⟩ := h.1 hc.1; rcases hc.2 with h | h | h; exact a h; exact b h; omega)]
theorem gr_gfW : ∀ f : F, gfW (chL grR f) ∧ cntF (fun x => x == 8) (chL grR f) ≤ cntF (fun x => x == 8) f := by
  intro f
  induction f with
  | nil => exact ⟨trivial, Nat.le_refl _⟩
  | cons o n t k r ihk ihr =>
    show gfW (consD (grR o n t (chL grR k)) (chL grR r)) ∧ _
    rw [g8_cons]
    obtain ⟨ihk, ck⟩ := ihk
    obtain ⟨ihr, cr⟩ := ihr
    show _ ∧ cntF (fun x => x == 8) (consD (grR o n t (chL grR k)) (chL grR r)) ≤ _
    rw [cntF_consD]
    obtain ⟨K, hK⟩ : ∃ K, chL grR k = K := ⟨_, rfl⟩
    rw [hK] at ihk ck ⊢
    obtain ⟨m, hm⟩ : ∃ m : Int → Bool, (fun x : Int => x == 8) = m := ⟨_, rfl⟩
    have hm8 : ∀ x : Int, m x = (x == 8) := fun x => by rw [← hm]
    rw [hm] at ck cr ⊢
    show gfW (consD (if o = 8 ∧ ((hd K).1 = 8 ∨ nlF K = 0 ∨ 0 < hrF K) then hd K else (o, n, t, K)) (chL grR r)) ∧ _
    by_cases hc : o = 8 ∧ ((hd K).1 = 8 ∨ nlF K = 0 ∨ 0 < hrF K)
    · have e1 : grR o n t K = hd K := if_pos hc
      rw [if_pos hc, e1, if_pos (show (o == 8) = true by rw [beq_iff_eq]; exact hc.1)]
      cases K with
      | nil =>
        refine ⟨⟨fun h => absurd h (by decide), trivial, ihr⟩, ?_⟩
        show (if ((0 : Int) == 8) = true then 1 else 0) + 0 + _ ≤ _
        rw [if_neg (by decide)]
        omega
      | cons o1 n1 t1 k1 r1 =>
        have e2 : cntF m (.cons o1 n1 t1 k1 r1) = (if m o1 = true then 1 else 0) + cntF m k1 + cntF m r1 := rfl
        rw [e2, hm8] at ck
        refine ⟨⟨ihk.1, ihk.2.1, ihr⟩, ?_⟩
        show (if (o1 == 8) = true then 1 else 0) + cntF m k1 + _ ≤ _
        obtain ⟨u, hu⟩ : ∃ u : Nat, (if (o1 == 8) = true then 1 else 0) = u := ⟨_, rfl⟩
        rw [hu] at ck ⊢
        omega
    · have e1 : grR o n t K = (o, n, t, K) := if_neg hc
      rw [if_neg hc, e1]
      refine ⟨⟨fun h8 => ⟨fun h => hc ⟨h8, .inl h⟩, fun h => hc ⟨h8, .inr (.inl h)⟩, ?_⟩, ihk, ihr⟩, ?_⟩
      · show hrF K = 0
        cases h : hrF K with
        | zero => rfl
        | succ q => exact absurd ⟨h8, .inr (.inr (by omega))⟩ hc
      · show (if (o == 8) = true then 1 else 0) + cntF m K + _ ≤ _
        obtain ⟨u, hu⟩ : ∃ u : Nat, (if (o == 8) = true then 1 else 0) = u := ⟨_, rfl⟩
        rw [hu]
        omega
theorem wg_one (d : D) : chL grR (consD d .nil) = consD (chD grR d.1 d.2.1 d.2.2.1 d.2.2.2) .nil := rfl
theorem wg_again (d : D) : (chD grR (chD grR d.1 d.2.1 d.2.2.1 d.2.2.2).1 (chD grR d.1 d.2.1 d.2.2.1 d.2.2.2).2.1 (chD grR d.1 d.2.1 d.2.2.1 d.2.2.2).2.2.1 (chD grR d.1 d.2.1 d.2.2.1 d.2.2.2).2.2.2) = chD grR d.1 d.2.1 d.2.2.1 d.2.2.2 ∧ cntF (fun x => x == 8) (consD (chD grR d.1 d.2.1 d.2.2.1 d.2.2.2) .nil) ≤ cntF (fun x => x == 8) (consD d .nil) := by
  have h1 := gr_gfW (consD d .nil)
  rw [wg_one] at h1
  have h2 := gfW_fix _ h1.1
  rw [wg_one] at h2
  exact ⟨consD_inj h2, h1.2⟩
theorem wg_bare {d : D} (h : niceD d = true) : chD grR (woD d).1 (woD d).2.1 (woD d).2.2.1 (woD d).2.2.2 = woD d := by
  have h2 := wg_id _ (wo_doc h).2.2.2
  rw [wg_one] at h2
  exact consD_inj h2

end Go.Proofs.Ytmkibpimjaofgaa.Nf

