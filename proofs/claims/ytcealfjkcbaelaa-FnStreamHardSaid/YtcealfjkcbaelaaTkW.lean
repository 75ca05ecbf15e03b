import Derived.Test.YtcealfjkcbaelaaTkV
import Derived.Test.YtcealfjkcbaelaaText
import Derived.BigQuiet
import Derived.Deep.QuietTactic
/-
  What tokenValid of the program and l6Is of the model come to.
-/
set_option linter.unusedVariables false
set_option linter.unusedSimpArgs false
namespace Go.Proofs.Ytcealfjkcbaelaa.Tk
open Go.RowKit P1 TextV

theorem drewN_below {w w' : World} {B : Nat} (h : Below B w w') : ∀ n, Below B w (w'.drewN n)
  | 0 => h
  | n + 1 => (drewN_below h n).drew
theorem no_text {t : ByteArray} (h : t ≠ ⟨#[]⟩) : t.toList.isEmpty = false := by
  have := bytes_ne h
  cases hl : t.toList with
  | nil => rw [hl] at this; simp at this
  | cons x r => rfl
theorem kt_text (n : Int) (t : ByteArray) : kt 1 n t = (tv t.data.toList && decide (n = 0)) := by simp [kt]
theorem kt_in (n : Int) (t : ByteArray) : kt 7 n t = (decide (t = ⟨#[]⟩) && (decide (0 ≤ n) && decide (n ≤ 9))) := by simp [kt]
theorem kt_some {k : Int} (h1 : k ≠ 1) (h7 : k ≠ 7) (h2 : 2 ≤ k) (h8 : k ≤ 8) (n : Int) (t : ByteArray) : kt k n t = (decide (t = ⟨#[]⟩) && decide (n = 0)) := by simp [kt, h1, h7, h2, h8]
theorem kt_other {k : Int} (h1 : k ≠ 1) (h : k < 2 ∨ 8 < k) (n : Int) (t : ByteArray) : kt k n t = false := by
  have h7 : k ≠ 7 := by omega
  rcases h with h | h
  · have : ¬ 2 ≤ k := by omega
    simp [kt, h1, h7, this]
  · have : ¬ k ≤ 8 := by omega
    simp [kt, h1, h7, this]

set_option maxRecDepth 100000 in
set_option maxHeartbeats 3200000 in
theorem specIs (k n : Int) (t : ByteArray) (ht : t.size ≤ maxLen) (w : World) :
    Calls Try.prog 89 #[.agg #[.int .i64 k, .int .i64 n, .string t]] w fun e w' => e = .returned (.bool (kt k n t)) ∧ Below w.heap.size w w' := by
  have HT := Lib.hid (fun W => specTextValid t ht W)
  have B1 := Lib.hid (show ∀ ob, Below w.heap.size w (w.alloc ob) from fun ob => (Below.refl _ _).alloc (Nat.le_refl _) _)
  by_cases h1 : k = 1
  · subst h1
    cases hv : tv t.data.toList with
    | false =>
      rw [hv] at HT
      have HK := Lib.hid (show kt 1 n t = false from by rw [kt_text, hv]; rfl)
      go_enter Try.func89, Try.ntmps89
      go_wp2_with (go_at_call 131; refine (HT.out _).mono ?_; rintro e1 w1 ⟨rfl, rfl⟩)
      go_ret
      exact ⟨ret_bool HK.out.symm, B1.out _⟩
    | true =>
      rw [hv] at HT
      by_cases hn : n = 0
      · subst hn
        have HK := Lib.hid (show kt 1 0 t = true from by rw [kt_text, hv]; rfl)
        go_enter Try.func89, Try.ntmps89
        go_wp2_with (go_at_call 131; refine (HT.out _).mono ?_; rintro e1 w1 ⟨rfl, rfl⟩)
        go_ret
        exact ⟨ret_bool HK.out.symm, B1.out _⟩
      · have hb : (n == 0) = false := beq_eq_false_iff_ne.2 hn
        have HK := Lib.hid (show kt 1 n t = false from by rw [kt_text, hv]; simp [hn])
        go_enter Try.func89, Try.ntmps89
        go_wp2_with (go_at_call 131; refine (HT.out _).mono ?_; rintro e1 w1 ⟨rfl, rfl⟩)
        go_ret
        exact ⟨ret_bool HK.out.symm, B1.out _⟩
  · have hb1 : (k == 1) = false := beq_eq_false_iff_ne.2 h1
    by_cases h7 : k = 7
    · subst h7
      by_cases h0 : t = ⟨#[]⟩
      · subst h0
        by_cases hn0 : 0 ≤ n
        · by_cases hn9 : n ≤ 9
          · have HK := Lib.hid (show kt 7 n ⟨#[]⟩ = true from by rw [kt_in]; simp [hn0, hn9])
            go_enter Try.func89, Try.ntmps89
            go_wp2_with fail
            go_ret
            exact ⟨ret_bool HK.out.symm, B1.out _⟩
          · have HK := Lib.hid (show kt 7 n ⟨#[]⟩ = false from by rw [kt_in]; simp [hn9])
            go_enter Try.func89, Try.ntmps89
            go_wp2_with fail
            go_ret
            exact ⟨ret_bool HK.out.symm, B1.out _⟩
        · have HK := Lib.hid (show kt 7 n ⟨#[]⟩ = false from by rw [kt_in]; simp [hn0])
          go_enter Try.func89, Try.ntmps89
          go_wp2_with fail
          go_ret
          exact ⟨ret_bool HK.out.symm, B1.out _⟩
      · have hne := no_text h0
        have HK := Lib.hid (show kt 7 n t = false from by rw [kt_in]; simp [h0])
        go_enter Try.func89, Try.ntmps89
        go_wp2_with fail
        go_ret
        exact ⟨ret_bool HK.out.symm, B1.out _⟩
    · have hb7 : (k == 7) = false := beq_eq_false_iff_ne.2 h7
      by_cases h2 : 2 ≤ k
      · by_cases h8 : k ≤ 8
        · by_cases h0 : t = ⟨#[]⟩
          · subst h0
            by_cases hn : n = 0
            · subst hn
              have HK := Lib.hid (show kt k 0 ⟨#[]⟩ = true from by rw [kt_some h1 h7 h2 h8]; rfl)
              go_enter Try.func89, Try.ntmps89
              go_wp2_with fail
              go_ret
              exact ⟨ret_bool HK.out.symm, B1.out _⟩
            · have hb : (n == 0) = false := beq_eq_false_iff_ne.2 hn
              have HK := Lib.hid (show kt k n ⟨#[]⟩ = false from by rw [kt_some h1 h7 h2 h8]; simp [hn])
              go_enter Try.func89, Try.ntmps89
              go_wp2_with fail
              go_ret
              exact ⟨ret_bool HK.out.symm, B1.out _⟩
          · have hne := no_text h0
            have HK := Lib.hid (show kt k n t = false from by rw [kt_some h1 h7 h2 h8]; simp [h0])
            go_enter Try.func89, Try.ntmps89
            go_wp2_with fail
            go_ret
            exact ⟨ret_bool HK.out.symm, B1.out _⟩
        · have HK := Lib.hid (show kt k n t = false from by exact kt_other h1 (.inr (by omega)) n t)
          go_enter Try.func89, Try.ntmps89
          go_wp2_with fail
          go_ret
          exact ⟨ret_bool HK.out.symm, B1.out _⟩
      · have HK := Lib.hid (show kt k n t = false from by exact kt_other h1 (.inl (by omega)) n t)
        go_enter Try.func89, Try.ntmps89
        go_wp2_with fail
        go_ret
        exact ⟨ret_bool HK.out.symm, B1.out _⟩

set_option maxRecDepth 100000 in
set_option maxHeartbeats 6400000 in
theorem implTok (k n : Int) (t : ByteArray) (ht : t.size ≤ maxLen) (w : World) :
    Calls Try.prog 83 #[.agg #[.int .i64 k, .int .i64 n, .string t]] w fun e w' => e = .returned (.bool (kt k n t)) ∧ Below w.heap.size w w' := by
  have HT := Lib.hid (fun W => implTextValid t ht W)
  have B1 := Lib.hid (show ∀ ob m, Below w.heap.size w ((w.alloc ob).drewN m) from fun ob m => drewN_below ((Below.refl _ _).alloc (Nat.le_refl _) _) m)
  obtain ⟨x, hx, hxt⟩ : ∃ x : Bool, t.toList.isEmpty = x ∧ decide (t = ⟨#[]⟩) = x := by
    by_cases h : t = ⟨#[]⟩
    · subst h; exact ⟨true, by rw [show (⟨#[]⟩ : ByteArray).toList = [] from by first | rfl | simp | (unfold ByteArray.toList ByteArray.toList.loop; simp)]; rfl, by simp⟩
    · exact ⟨false, no_text h, by simp [h]⟩
  obtain ⟨y, hy, hyn⟩ : ∃ y : Bool, (n == 0) = y ∧ decide (n = 0) = y := ⟨_, rfl, by by_cases h : n = 0 <;> simp [h]⟩
  by_cases h1 : k = 1
  · subst h1
    cases hv : tv t.data.toList with
    | false =>
      rw [hv] at HT
      have HK := Lib.hid (show kt 1 n t = false from by rw [kt_text, hv]; rfl)
      clear hv hxt hyn
      go_enter Try.func83, Try.ntmps83
      go_wp2_with fail
      go_quiet (fail)
      go_wp2_with (go_at_call 128; refine (HT.out _).mono ?_; rintro e1 w1 ⟨rfl, rfl⟩)
      go_ret
      exact ⟨ret_bool (by first | exact HK.out.symm | (rw [HK.out]; first | rfl | (simp; omega))), B1.out _ _⟩
    | true =>
      rw [hv] at HT
      cases y with
      | false =>
        have HK := Lib.hid (show kt 1 n t = false from by rw [kt_text, hv, hyn]; rfl)
        clear hv hxt hyn
        go_enter Try.func83, Try.ntmps83
        go_wp2_with fail
        go_quiet (fail)
        go_wp2_with (go_at_call 128; refine (HT.out _).mono ?_; rintro e1 w1 ⟨rfl, rfl⟩)
        go_ret
        exact ⟨ret_bool (by first | exact HK.out.symm | (rw [HK.out]; first | rfl | (simp; omega))), B1.out _ _⟩
      | true =>
        have HK := Lib.hid (show kt 1 n t = true from by rw [kt_text, hv, hyn]; rfl)
        clear hv hxt hyn
        go_enter Try.func83, Try.ntmps83
        go_wp2_with fail
        go_quiet (fail)
        go_wp2_with (go_at_call 128; refine (HT.out _).mono ?_; rintro e1 w1 ⟨rfl, rfl⟩)
        go_ret
        exact ⟨ret_bool (by first | exact HK.out.symm | (rw [HK.out]; first | rfl | (simp; omega))), B1.out _ _⟩
  · by_cases h7 : k = 7
    · subst h7
      cases x with
      | false =>
        by_cases hn0 : 0 ≤ n
        · by_cases hn9 : n ≤ 9
          · have HK := Lib.hid (show kt 7 n t = false from by rw [kt_in, hxt]; rfl)
            clear hxt hyn h1
            go_enter Try.func83, Try.ntmps83
            go_wp2_with fail
            go_quiet (fail)
            go_wp2_with fail
            go_ret
            exact ⟨ret_bool (by first | exact HK.out.symm | (rw [HK.out]; first | rfl | (simp; omega))), B1.out _ _⟩
          · have HK := Lib.hid (show kt 7 n t = false from by rw [kt_in, hxt]; rfl)
            clear hxt hyn h1
            go_enter Try.func83, Try.ntmps83
            go_wp2_with fail
            go_quiet (fail)
            go_wp2_with fail
            go_ret
            exact ⟨ret_bool (by first | exact HK.out.symm | (rw [HK.out]; first | rfl | (simp; omega))), B1.out _ _⟩
        · have HK := Lib.hid (show kt 7 n t = false from by rw [kt_in, hxt]; rfl)
          clear hxt hyn h1
          go_enter Try.func83, Try.ntmps83
          go_wp2_with fail
          go_quiet (fail)
          go_wp2_with fail
          go_ret
          exact ⟨ret_bool (by first | exact HK.out.symm | (rw [HK.out]; first | rfl | (simp; omega))), B1.out _ _⟩
      | true =>
        by_cases hn0 : 0 ≤ n
        · by_cases hn9 : n ≤ 9
          · have HK := Lib.hid (show kt 7 n t = true from by rw [kt_in, hxt]; simp [hn0, hn9])
            clear hxt hyn h1
            go_enter Try.func83, Try.ntmps83
            go_wp2_with fail
            go_quiet (fail)
            go_wp2_with fail
            go_ret
            exact ⟨ret_bool (by first | exact HK.out.symm | (rw [HK.out]; first | rfl | (simp; omega))), B1.out _ _⟩
          · have HK := Lib.hid (show kt 7 n t = false from by rw [kt_in, hxt]; simp [hn9])
            clear hxt hyn h1
            go_enter Try.func83, Try.ntmps83
            go_wp2_with fail
            go_quiet (fail)
            go_wp2_with fail
            go_ret
            exact ⟨ret_bool (by first | exact HK.out.symm | (rw [HK.out]; first | rfl | (simp; omega))), B1.out _ _⟩
        · have HK := Lib.hid (show kt 7 n t = false from by rw [kt_in, hxt]; simp [hn0])
          clear hxt hyn h1
          go_enter Try.func83, Try.ntmps83
          go_wp2_with fail
          go_quiet (fail)
          go_wp2_with fail
          go_ret
          exact ⟨ret_bool (by first | exact HK.out.symm | (rw [HK.out]; first | rfl | (simp; omega))), B1.out _ _⟩
    · by_cases hr : 2 ≤ k ∧ k ≤ 8
      · have HK := Lib.hid (show kt k n t = (x && y) from by rw [kt_some h1 h7 hr.1 hr.2, hxt, hyn])
        have h6 : k = 2 ∨ k = 3 ∨ k = 4 ∨ k = 5 ∨ k = 6 ∨ k = 8 := by omega
        clear hxt hyn h1 h7 hr
        cases x <;> cases y
        · rcases h6 with rfl | rfl | rfl | rfl | rfl | rfl
          all_goals
            go_enter Try.func83, Try.ntmps83
            go_wp2_with fail
            go_quiet (fail)
            go_wp2_with fail
            go_ret
            exact ⟨ret_bool (by first | exact HK.out.symm | (rw [HK.out]; first | rfl | (simp; omega))), B1.out _ _⟩
        · rcases h6 with rfl | rfl | rfl | rfl | rfl | rfl
          all_goals
            go_enter Try.func83, Try.ntmps83
            go_wp2_with fail
            go_quiet (fail)
            go_wp2_with fail
            go_ret
            exact ⟨ret_bool (by first | exact HK.out.symm | (rw [HK.out]; first | rfl | (simp; omega))), B1.out _ _⟩
        · rcases h6 with rfl | rfl | rfl | rfl | rfl | rfl
          all_goals
            go_enter Try.func83, Try.ntmps83
            go_wp2_with fail
            go_quiet (fail)
            go_wp2_with fail
            go_ret
            exact ⟨ret_bool (by first | exact HK.out.symm | (rw [HK.out]; first | rfl | (simp; omega))), B1.out _ _⟩
        · rcases h6 with rfl | rfl | rfl | rfl | rfl | rfl
          all_goals
            go_enter Try.func83, Try.ntmps83
            go_wp2_with fail
            go_quiet (fail)
            go_wp2_with fail
            go_ret
            exact ⟨ret_bool (by first | exact HK.out.symm | (rw [HK.out]; first | rfl | (simp; omega))), B1.out _ _⟩
      · have HK := Lib.hid (show kt k n t = false from kt_other h1 (by omega) n t)
        have b1 : (k == 1) = false := beq_eq_false_iff_ne.2 h1
        have b2 : (k == 2) = false := beq_eq_false_iff_ne.2 (by omega)
        have b3 : (k == 3) = false := beq_eq_false_iff_ne.2 (by omega)
        have b4 : (k == 4) = false := beq_eq_false_iff_ne.2 (by omega)
        have b5 : (k == 5) = false := beq_eq_false_iff_ne.2 (by omega)
        have b6 : (k == 6) = false := beq_eq_false_iff_ne.2 (by omega)
        have b7 : (k == 7) = false := beq_eq_false_iff_ne.2 h7
        have b8 : (k == 8) = false := beq_eq_false_iff_ne.2 (by omega)
        clear hxt hyn h1 h7 hr
        go_enter Try.func83, Try.ntmps83
        go_wp2_with fail
        go_quiet (fail)
        go_wp2_with fail
        go_ret
        exact ⟨ret_bool (by first | exact HK.out.symm | (rw [HK.out]; first | rfl | (simp; omega))), B1.out _ _⟩

end Go.Proofs.Ytcealfjkcbaelaa.Tk

