import Derived.Test.YtafhefmjnjibdaaNfQ
/-
  DropGroups as a plain function; nothing here speaks of the program.
-/
set_option linter.unusedVariables false
set_option linter.unusedSimpArgs false
namespace Go.Proofs.Ytafhefmjnjibdaa.Nf
open P1

theorem gr_keep (o n : Int) (t : ByteArray) (k : F) (h : niceD (o, n, t, k) = true) : niceD (grR o n t k) = true ∧ (grR o n t k).2.2.2.cnt ≤ k.cnt := by
  unfold grR
  split
  · rename_i hq
    obtain ⟨a, rfl⟩ := kids_one h (Or.inr hq.1)
    have hn := (nice_kids h).2
    rw [nice_consD, Bool.and_eq_true] at hn
    exact ⟨hn.1, by show a.2.2.2.cnt ≤ 1 + a.2.2.2.cnt + 0; omega⟩
  · exact ⟨h, Nat.le_refl _⟩

theorem cntF_consD (m : Int → Bool) (d : D) (r : F) : cntF m (consD d r) = (if m d.1 then 1 else 0) + cntF m d.2.2.2 + cntF m r := rfl

theorem gr_cnt (m : Int → Bool) (h8 : m 8 = false) : ∀ f : F, nice f = true → cntF m (chL grR f) = cntF m f := by
  intro f
  induction f with
  | nil => intro _; rfl
  | cons o n t k r ihk ihr =>
    intro h
    have hD : niceD (o, n, t, k) = true := by simp only [nice, Bool.and_eq_true] at h; exact Bool.and_eq_true_iff.2 h.1
    have hr : nice r = true := by simp only [nice, Bool.and_eq_true] at h; exact h.2
    have hk := ihk (nice_kids hD).2
    rw [chL, cntF_consD, ihr hr]
    show _ = (if m o then 1 else 0) + cntF m k + cntF m r
    obtain ⟨K, hK⟩ : ∃ K, chL grR k = K := ⟨_, rfl⟩
    rw [hK] at hk ⊢
    unfold grR
    split
    · rename_i hq
      obtain ⟨a, ha⟩ := kids_one hD (Or.inr hq.1)
      have e : ∃ b, K = consD b .nil := ⟨grR a.1 a.2.1 a.2.2.1 (chL grR a.2.2.2), by rw [← hK, ha]; rfl⟩
      obtain ⟨b, rfl⟩ := e
      rw [cntF_consD] at hk
      rw [hd_consD]
      have h0 : cntF m .nil = 0 := rfl
      rw [h0] at hk
      rw [show m o = false by rw [hq.1]; exact h8]
      simp only [Bool.false_eq_true, if_false]
      omega
    · show (if m o then 1 else 0) + cntF m K + _ = _
      rw [hk]

theorem gr_nl (f : F) (h : nice f = true) : nlF (chL grR f) = nlF f := gr_cnt _ (by decide) f h
theorem gr_hr (f : F) (h : nice f = true) : hrF (chL grR f) = hrF f := gr_cnt _ (by decide) f h

theorem nl_sum : ∀ f : F, nlF f = cntF (fun x => x == 3) f + cntF (fun x => x == 4) f + cntF (fun x => x == 5) f := by
  intro f
  induction f with
  | nil => rfl
  | cons o n t k r ihk ihr =>
    unfold nlF at ihk ihr ⊢
    simp only [cntF, ihk, ihr]
    by_cases h3 : o = 3
    · subst h3; simp; omega
    · by_cases h4 : o = 4
      · subst h4; simp; omega
      · by_cases h5 : o = 5
        · subst h5; simp; omega
        · simp [h3, h4, h5]; omega
theorem nl_le (f : F) : nlF f ≤ f.size := cntF_le _ f
theorem hr_le (f : F) : hrF f ≤ f.size := cntF_le _ f

end Go.Proofs.Ytafhefmjnjibdaa.Nf

