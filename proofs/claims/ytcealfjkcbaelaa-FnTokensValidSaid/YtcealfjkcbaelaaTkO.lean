import Derived.Test.YtcealfjkcbaelaaTkV
/-
  Valid tokens between a begin and an end, and twice; nothing here speaks of the program.
-/
set_option linter.unusedVariables false
set_option linter.unusedSimpArgs false
namespace Go.Proofs.Ytcealfjkcbaelaa.Tk
open Go.RowKit P1

/-- how many groups and nests begin -/
def opens : List (Int × Int × ByteArray) → Nat
  | [] => 0
  | r :: l => (if r.1 = 5 ∨ r.1 = 7 then 1 else 0) + opens l
theorem opens_app (l k : List (Int × Int × ByteArray)) : opens (l ++ k) = opens l + opens k := by
  induction l with
  | nil => simp [opens]
  | cons r l ih => simp only [List.cons_append, opens, ih]; omega
theorem opens_le (l : List (Int × Int × ByteArray)) : opens l ≤ l.length := by
  induction l with
  | nil => simp [opens]
  | cons r l ih => simp only [opens, List.length_cons]; split <;> omega

theorem run_base (base : List Int) : ∀ (X : List (Int × Int × ByteArray)) (st st' : List Int), st.length + base.length + opens X ≤ 50 → run st X = some st' → run (st ++ base) X = some (st' ++ base)
  | [], st, st', _, h => by simp only [run, Option.some.injEq] at h ⊢; rw [h]
  | r :: l, st, st', hl, h => by
    simp only [run] at h ⊢
    simp only [opens] at hl
    by_cases hk : kt r.1 r.2.1 r.2.2 = true
    · rw [if_pos hk] at h ⊢
      by_cases h1 : r.1 = 5 ∨ r.1 = 7
      · rw [if_pos h1] at hl
        have e1 : stp st r.1 = some (r.1 :: st) := by unfold stp; rw [if_pos h1, if_pos (by omega)]
        have e2 : stp (st ++ base) r.1 = some (r.1 :: st ++ base) := by unfold stp; rw [if_pos h1, if_pos (by rw [List.length_append]; omega)]; rfl
        rw [e1] at h
        rw [e2]
        exact run_base base l _ _ (by simp; omega) h
      · rw [if_neg h1] at hl
        by_cases h2 : r.1 = 6 ∨ r.1 = 8
        · cases st with
          | nil =>
            have e1 : stp [] r.1 = none := by unfold stp; rw [if_neg h1, if_pos h2]
            rw [e1] at h; cases h
          | cons x q =>
            by_cases h3 : x + 1 = r.1
            · have e1 : stp (x :: q) r.1 = some q := by unfold stp; rw [if_neg h1, if_pos h2]; simp [h3]
              have e2 : stp (x :: q ++ base) r.1 = some (q ++ base) := by unfold stp; rw [if_neg h1, if_pos h2]; simp [h3]
              rw [e1] at h
              rw [e2]
              exact run_base base l _ _ (by simp at hl; omega) h
            · have e1 : stp (x :: q) r.1 = none := by unfold stp; rw [if_neg h1, if_pos h2]; simp [h3]
              rw [e1] at h; cases h
        · have e1 : stp st r.1 = some st := by unfold stp; rw [if_neg h1, if_neg h2]
          have e2 : stp (st ++ base) r.1 = some (st ++ base) := by unfold stp; rw [if_neg h1, if_neg h2]
          rw [e1] at h
          rw [e2]
          exact run_base base l _ _ (by omega) h
    · rw [if_neg hk] at h; cases h

theorem tkv_run {X : List (Int × Int × ByteArray)} (h : tkv X = true) : X.length < 200 ∧ run [] X = some [] := by
  simpa [tkv] using h
theorem tkv_wide {X : List (Int × Int × ByteArray)} (h : tkv X = true) (hl : X.length ≤ 150) (hd : opens X < 50) : tkv ([(5, 0, ⟨#[]⟩)] ++ X ++ [(6, 0, ⟨#[]⟩)]) = true := by
  have hr := run_base [5] X [] [] (by simp; omega) (tkv_run h).2
  simp only [List.nil_append] at hr
  have e : run [] ([(5, 0, ⟨#[]⟩)] ++ X ++ [(6, 0, ⟨#[]⟩)]) = some [] := by
    rw [run_app, run_app]
    have e0 : run [] [((5 : Int), (0 : Int), (⟨#[]⟩ : ByteArray))] = some [5] := by decide
    rw [e0]
    show (run [5] X).bind _ = _
    rw [hr]
    decide
  unfold tkv
  rw [e]
  simp; omega
theorem tkv_twice {X : List (Int × Int × ByteArray)} (h : tkv X = true) (hl : X.length + X.length < 200) : tkv (X ++ X) = true := by
  have e : run [] (X ++ X) = some [] := by
    rw [run_app, (tkv_run h).2]
    exact (tkv_run h).2
  unfold tkv
  rw [e]
  simp; omega

end Go.Proofs.Ytcealfjkcbaelaa.Tk

