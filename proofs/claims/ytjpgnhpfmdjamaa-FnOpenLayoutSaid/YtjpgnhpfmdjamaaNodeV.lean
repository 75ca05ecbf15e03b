/-
  What the program's nodeValid comes to.
-/
import Derived.Test.YtjpgnhpfmdjamaaValid
import Derived.Test.YtjpgnhpfmdjamaaText
import Derived.Test.YtjpgnhpfmdjamaaEq
import Derived.Deep.QuietTactic
import Derived.BigQuiet
set_option linter.unusedVariables false
set_option linter.unusedSimpArgs false
namespace Go.Proofs.Ytjpgnhpfmdjamaa.NodeV
open Go.RowKit P1

theorem drewN_below {B : Nat} {a w : World} (h : Below B a w) (n : Nat) : Below B a (w.drewN n) := by
  induction n with
  | zero => exact h
  | succ n ih => exact ih.drew

theorem ret_bool {a b : Bool} (h : a = b) : Ending.returned (.bool a) = .returned (.bool b) := by rw [h]
theorem bytes_ne_empty {t : ByteArray} (h : t ≠ ⟨#[]⟩) : (t.toList == ([] : List UInt8)) = false ∧ t.toList.isEmpty = false := by
  have h1 := bytes_ne h
  have h2 : (t.toList == ([] : List UInt8)) = false := by simpa using h1
  refine ⟨h2, ?_⟩
  cases hq : t.toList with
  | nil => rw [hq] at h2; simp at h2
  | cons => rfl

theorem plainB {o : Int} (h2 : o ≠ 2) (h6 : o ≠ 6) (n : Int) (t : ByteArray) (l : Nat) : nodeB o n t l = (decide ((l : Int) = kidsOf o) && decide (t = ⟨#[]⟩) && decide (n = 0)) := by simp [nodeB, textB, numB, h2, h6]
theorem twoB (n : Int) (t : ByteArray) (l : Nat) : nodeB 2 n t l = (decide ((l : Int) = kidsOf 2) && tv t.data.toList && decide (n = 0)) := by simp [nodeB, textB, numB]
theorem sixB (n : Int) (t : ByteArray) (l : Nat) : nodeB 6 n t l = (decide ((l : Int) = kidsOf 6) && decide (t = ⟨#[]⟩) && (decide (0 ≤ n) && decide (n ≤ 9))) := by simp [nodeB, textB, numB]

set_option maxRecDepth 100000 in
set_option maxHeartbeats 1600000 in
theorem op1 (w : World) (n : Int) (t : ByteArray) (L : Nat) (a : Option Addr) (cap : Nat) (hl : L ≤ maxLen) :
    Calls Try.prog 86 #[.agg #[.int .i64 1, .int .i64 n, .string t, .slice a L cap]] w fun e w' => e = .returned (.bool (nodeB 1 n t L)) ∧ Below w.heap.size w w' := by
  have B1 : ∀ (ob : Obj) (nq : Nat), Below w.heap.size w ((w.alloc ob).drewN nq) := fun ob nq => drewN_below ((Below.refl _ _).alloc (Nat.le_refl _) _) _
  rw [plainB (by omega) (by omega), show kidsOf 1 = 0 from rfl]
  unfold maxLen at hl
  by_cases hL : (L : Int) = 0
  · have HL := Lib.hid hL
    have bL : ((L : Int) == 0) = true := beq_iff_eq.2 hL
    clear hL
    by_cases hn : n = 0
    · subst hn
      by_cases ht : t = ⟨#[]⟩
      · subst ht
        go_enter Try.func86, Try.ntmps86
        go_wp2_with fail
        go_quiet (fail)
        go_wp2_with fail
        all_goals
          go_ret
          exact ⟨ret_bool (by simp [HL.out]), B1 _ _⟩
      · have HT := Lib.hid ht
        obtain ⟨t1, t2⟩ := bytes_ne_empty ht
        clear ht
        go_enter Try.func86, Try.ntmps86
        go_wp2_with fail
        go_quiet (fail)
        go_wp2_with fail
        all_goals
          go_ret
          exact ⟨ret_bool (by simp [HT.out]), B1 _ _⟩
    · have HN := Lib.hid hn
      have bn : (n == 0) = false := beq_eq_false_iff_ne.2 hn
      go_enter Try.func86, Try.ntmps86
      go_wp2_with fail
      go_quiet (fail)
      go_wp2_with fail
      all_goals
        go_ret
        exact ⟨ret_bool (by simp [HN.out]), B1 _ _⟩
  · have HL := Lib.hid hL
    have bL : ((L : Int) == 0) = false := beq_eq_false_iff_ne.2 hL
    go_enter Try.func86, Try.ntmps86
    go_wp2_with fail
    go_quiet (fail)
    go_wp2_with fail
    all_goals
      go_ret
      exact ⟨ret_bool (by rw [decide_eq_false HL.out, Bool.false_and, Bool.false_and]), B1 _ _⟩

set_option maxRecDepth 100000 in
set_option maxHeartbeats 1600000 in
theorem op3 (w : World) (n : Int) (t : ByteArray) (L : Nat) (a : Option Addr) (cap : Nat) (hl : L ≤ maxLen) :
    Calls Try.prog 86 #[.agg #[.int .i64 3, .int .i64 n, .string t, .slice a L cap]] w fun e w' => e = .returned (.bool (nodeB 3 n t L)) ∧ Below w.heap.size w w' := by
  have B1 : ∀ (ob : Obj) (nq : Nat), Below w.heap.size w ((w.alloc ob).drewN nq) := fun ob nq => drewN_below ((Below.refl _ _).alloc (Nat.le_refl _) _) _
  rw [plainB (by omega) (by omega), show kidsOf 3 = 0 from rfl]
  unfold maxLen at hl
  by_cases hL : (L : Int) = 0
  · have HL := Lib.hid hL
    have bL : ((L : Int) == 0) = true := beq_iff_eq.2 hL
    clear hL
    by_cases hn : n = 0
    · subst hn
      by_cases ht : t = ⟨#[]⟩
      · subst ht
        go_enter Try.func86, Try.ntmps86
        go_wp2_with fail
        go_quiet (fail)
        go_wp2_with fail
        all_goals
          go_ret
          exact ⟨ret_bool (by simp [HL.out]), B1 _ _⟩
      · have HT := Lib.hid ht
        obtain ⟨t1, t2⟩ := bytes_ne_empty ht
        clear ht
        go_enter Try.func86, Try.ntmps86
        go_wp2_with fail
        go_quiet (fail)
        go_wp2_with fail
        all_goals
          go_ret
          exact ⟨ret_bool (by simp [HT.out]), B1 _ _⟩
    · have HN := Lib.hid hn
      have bn : (n == 0) = false := beq_eq_false_iff_ne.2 hn
      go_enter Try.func86, Try.ntmps86
      go_wp2_with fail
      go_quiet (fail)
      go_wp2_with fail
      all_goals
        go_ret
        exact ⟨ret_bool (by simp [HN.out]), B1 _ _⟩
  · have HL := Lib.hid hL
    have bL : ((L : Int) == 0) = false := beq_eq_false_iff_ne.2 hL
    go_enter Try.func86, Try.ntmps86
    go_wp2_with fail
    go_quiet (fail)
    go_wp2_with fail
    all_goals
      go_ret
      exact ⟨ret_bool (by rw [decide_eq_false HL.out, Bool.false_and, Bool.false_and]), B1 _ _⟩

set_option maxRecDepth 100000 in
set_option maxHeartbeats 1600000 in
theorem op4 (w : World) (n : Int) (t : ByteArray) (L : Nat) (a : Option Addr) (cap : Nat) (hl : L ≤ maxLen) :
    Calls Try.prog 86 #[.agg #[.int .i64 4, .int .i64 n, .string t, .slice a L cap]] w fun e w' => e = .returned (.bool (nodeB 4 n t L)) ∧ Below w.heap.size w w' := by
  have B1 : ∀ (ob : Obj) (nq : Nat), Below w.heap.size w ((w.alloc ob).drewN nq) := fun ob nq => drewN_below ((Below.refl _ _).alloc (Nat.le_refl _) _) _
  rw [plainB (by omega) (by omega), show kidsOf 4 = 0 from rfl]
  unfold maxLen at hl
  by_cases hL : (L : Int) = 0
  · have HL := Lib.hid hL
    have bL : ((L : Int) == 0) = true := beq_iff_eq.2 hL
    clear hL
    by_cases hn : n = 0
    · subst hn
      by_cases ht : t = ⟨#[]⟩
      · subst ht
        go_enter Try.func86, Try.ntmps86
        go_wp2_with fail
        go_quiet (fail)
        go_wp2_with fail
        all_goals
          go_ret
          exact ⟨ret_bool (by simp [HL.out]), B1 _ _⟩
      · have HT := Lib.hid ht
        obtain ⟨t1, t2⟩ := bytes_ne_empty ht
        clear ht
        go_enter Try.func86, Try.ntmps86
        go_wp2_with fail
        go_quiet (fail)
        go_wp2_with fail
        all_goals
          go_ret
          exact ⟨ret_bool (by simp [HT.out]), B1 _ _⟩
    · have HN := Lib.hid hn
      have bn : (n == 0) = false := beq_eq_false_iff_ne.2 hn
      go_enter Try.func86, Try.ntmps86
      go_wp2_with fail
      go_quiet (fail)
      go_wp2_with fail
      all_goals
        go_ret
        exact ⟨ret_bool (by simp [HN.out]), B1 _ _⟩
  · have HL := Lib.hid hL
    have bL : ((L : Int) == 0) = false := beq_eq_false_iff_ne.2 hL
    go_enter Try.func86, Try.ntmps86
    go_wp2_with fail
    go_quiet (fail)
    go_wp2_with fail
    all_goals
      go_ret
      exact ⟨ret_bool (by rw [decide_eq_false HL.out, Bool.false_and, Bool.false_and]), B1 _ _⟩

set_option maxRecDepth 100000 in
set_option maxHeartbeats 1600000 in
theorem op5 (w : World) (n : Int) (t : ByteArray) (L : Nat) (a : Option Addr) (cap : Nat) (hl : L ≤ maxLen) :
    Calls Try.prog 86 #[.agg #[.int .i64 5, .int .i64 n, .string t, .slice a L cap]] w fun e w' => e = .returned (.bool (nodeB 5 n t L)) ∧ Below w.heap.size w w' := by
  have B1 : ∀ (ob : Obj) (nq : Nat), Below w.heap.size w ((w.alloc ob).drewN nq) := fun ob nq => drewN_below ((Below.refl _ _).alloc (Nat.le_refl _) _) _
  rw [plainB (by omega) (by omega), show kidsOf 5 = 0 from rfl]
  unfold maxLen at hl
  by_cases hL : (L : Int) = 0
  · have HL := Lib.hid hL
    have bL : ((L : Int) == 0) = true := beq_iff_eq.2 hL
    clear hL
    by_cases hn : n = 0
    · subst hn
      by_cases ht : t = ⟨#[]⟩
      · subst ht
        go_enter Try.func86, Try.ntmps86
        go_wp2_with fail
        go_quiet (fail)
        go_wp2_with fail
        all_goals
          go_ret
          exact ⟨ret_bool (by simp [HL.out]), B1 _ _⟩
      · have HT := Lib.hid ht
        obtain ⟨t1, t2⟩ := bytes_ne_empty ht
        clear ht
        go_enter Try.func86, Try.ntmps86
        go_wp2_with fail
        go_quiet (fail)
        go_wp2_with fail
        all_goals
          go_ret
          exact ⟨ret_bool (by simp [HT.out]), B1 _ _⟩
    · have HN := Lib.hid hn
      have bn : (n == 0) = false := beq_eq_false_iff_ne.2 hn
      go_enter Try.func86, Try.ntmps86
      go_wp2_with fail
      go_quiet (fail)
      go_wp2_with fail
      all_goals
        go_ret
        exact ⟨ret_bool (by simp [HN.out]), B1 _ _⟩
  · have HL := Lib.hid hL
    have bL : ((L : Int) == 0) = false := beq_eq_false_iff_ne.2 hL
    go_enter Try.func86, Try.ntmps86
    go_wp2_with fail
    go_quiet (fail)
    go_wp2_with fail
    all_goals
      go_ret
      exact ⟨ret_bool (by rw [decide_eq_false HL.out, Bool.false_and, Bool.false_and]), B1 _ _⟩

set_option maxRecDepth 100000 in
set_option maxHeartbeats 1600000 in
theorem op7 (w : World) (n : Int) (t : ByteArray) (L : Nat) (a : Option Addr) (cap : Nat) (hl : L ≤ maxLen) :
    Calls Try.prog 86 #[.agg #[.int .i64 7, .int .i64 n, .string t, .slice a L cap]] w fun e w' => e = .returned (.bool (nodeB 7 n t L)) ∧ Below w.heap.size w w' := by
  have B1 : ∀ (ob : Obj) (nq : Nat), Below w.heap.size w ((w.alloc ob).drewN nq) := fun ob nq => drewN_below ((Below.refl _ _).alloc (Nat.le_refl _) _) _
  rw [plainB (by omega) (by omega), show kidsOf 7 = 2 from rfl]
  unfold maxLen at hl
  by_cases hL : (L : Int) = 2
  · have HL := Lib.hid hL
    have bL : ((L : Int) == 2) = true := beq_iff_eq.2 hL
    clear hL
    by_cases hn : n = 0
    · subst hn
      by_cases ht : t = ⟨#[]⟩
      · subst ht
        go_enter Try.func86, Try.ntmps86
        go_wp2_with fail
        go_quiet (fail)
        go_wp2_with fail
        all_goals
          go_ret
          exact ⟨ret_bool (by simp [HL.out]), B1 _ _⟩
      · have HT := Lib.hid ht
        obtain ⟨t1, t2⟩ := bytes_ne_empty ht
        clear ht
        go_enter Try.func86, Try.ntmps86
        go_wp2_with fail
        go_quiet (fail)
        go_wp2_with fail
        all_goals
          go_ret
          exact ⟨ret_bool (by simp [HT.out]), B1 _ _⟩
    · have HN := Lib.hid hn
      have bn : (n == 0) = false := beq_eq_false_iff_ne.2 hn
      go_enter Try.func86, Try.ntmps86
      go_wp2_with fail
      go_quiet (fail)
      go_wp2_with fail
      all_goals
        go_ret
        exact ⟨ret_bool (by simp [HN.out]), B1 _ _⟩
  · have HL := Lib.hid hL
    have bL : ((L : Int) == 2) = false := beq_eq_false_iff_ne.2 hL
    go_enter Try.func86, Try.ntmps86
    go_wp2_with fail
    go_quiet (fail)
    go_wp2_with fail
    all_goals
      go_ret
      exact ⟨ret_bool (by rw [decide_eq_false HL.out, Bool.false_and, Bool.false_and]), B1 _ _⟩

set_option maxRecDepth 100000 in
set_option maxHeartbeats 1600000 in
theorem op8 (w : World) (n : Int) (t : ByteArray) (L : Nat) (a : Option Addr) (cap : Nat) (hl : L ≤ maxLen) :
    Calls Try.prog 86 #[.agg #[.int .i64 8, .int .i64 n, .string t, .slice a L cap]] w fun e w' => e = .returned (.bool (nodeB 8 n t L)) ∧ Below w.heap.size w w' := by
  have B1 : ∀ (ob : Obj) (nq : Nat), Below w.heap.size w ((w.alloc ob).drewN nq) := fun ob nq => drewN_below ((Below.refl _ _).alloc (Nat.le_refl _) _) _
  rw [plainB (by omega) (by omega), show kidsOf 8 = 1 from rfl]
  unfold maxLen at hl
  by_cases hL : (L : Int) = 1
  · have HL := Lib.hid hL
    have bL : ((L : Int) == 1) = true := beq_iff_eq.2 hL
    clear hL
    by_cases hn : n = 0
    · subst hn
      by_cases ht : t = ⟨#[]⟩
      · subst ht
        go_enter Try.func86, Try.ntmps86
        go_wp2_with fail
        go_quiet (fail)
        go_wp2_with fail
        all_goals
          go_ret
          exact ⟨ret_bool (by simp [HL.out]), B1 _ _⟩
      · have HT := Lib.hid ht
        obtain ⟨t1, t2⟩ := bytes_ne_empty ht
        clear ht
        go_enter Try.func86, Try.ntmps86
        go_wp2_with fail
        go_quiet (fail)
        go_wp2_with fail
        all_goals
          go_ret
          exact ⟨ret_bool (by simp [HT.out]), B1 _ _⟩
    · have HN := Lib.hid hn
      have bn : (n == 0) = false := beq_eq_false_iff_ne.2 hn
      go_enter Try.func86, Try.ntmps86
      go_wp2_with fail
      go_quiet (fail)
      go_wp2_with fail
      all_goals
        go_ret
        exact ⟨ret_bool (by simp [HN.out]), B1 _ _⟩
  · have HL := Lib.hid hL
    have bL : ((L : Int) == 1) = false := beq_eq_false_iff_ne.2 hL
    go_enter Try.func86, Try.ntmps86
    go_wp2_with fail
    go_quiet (fail)
    go_wp2_with fail
    all_goals
      go_ret
      exact ⟨ret_bool (by rw [decide_eq_false HL.out, Bool.false_and, Bool.false_and]), B1 _ _⟩

set_option maxRecDepth 100000 in
set_option maxHeartbeats 1600000 in
theorem op2 (w : World) (n : Int) (t : ByteArray) (L : Nat) (a : Option Addr) (cap : Nat) (hl : L ≤ maxLen) (hts : t.size ≤ maxLen) :
    Calls Try.prog 86 #[.agg #[.int .i64 2, .int .i64 n, .string t, .slice a L cap]] w fun e w' => e = .returned (.bool (nodeB 2 n t L)) ∧ Below w.heap.size w w' := by
  have B1 : ∀ (ob : Obj) (nq : Nat), Below w.heap.size w ((w.alloc ob).drewN nq) := fun ob nq => drewN_below ((Below.refl _ _).alloc (Nat.le_refl _) _) _
  rw [twoB, show kidsOf 2 = 0 from rfl]
  unfold maxLen at hl
  cases ht : tv t.data.toList with
  | false =>
    have HT := Lib.hid ht
    clear ht
    by_cases hL : (L : Int) = 0
    · have HL := Lib.hid hL
      have bL : ((L : Int) == 0) = true := beq_iff_eq.2 hL
      clear hL
      go_enter Try.func86, Try.ntmps86
      go_wp2_with fail
      go_quiet (fail)
      go_wp2_with (go_at_call 104; refine (TextV.implTextValid _ hts _).mono ?_; rw [HT.out]; rintro e w' ⟨rfl, rfl⟩)
      all_goals
        go_ret
        exact ⟨ret_bool (by simp), B1 _ _⟩
    · have HL := Lib.hid hL
      have bL : ((L : Int) == 0) = false := beq_eq_false_iff_ne.2 hL
      go_enter Try.func86, Try.ntmps86
      go_wp2_with fail
      go_quiet (fail)
      go_wp2_with (go_at_call 104; refine (TextV.implTextValid _ hts _).mono ?_; rw [HT.out]; rintro e w' ⟨rfl, rfl⟩)
      all_goals
        go_ret
        exact ⟨ret_bool (by simp), B1 _ _⟩
  | true =>
    have HT := Lib.hid ht
    clear ht
    by_cases hL : (L : Int) = 0
    · have HL := Lib.hid hL
      have bL : ((L : Int) == 0) = true := beq_iff_eq.2 hL
      clear hL
      by_cases hn : n = 0
      · subst hn
        go_enter Try.func86, Try.ntmps86
        go_wp2_with fail
        go_quiet (fail)
        go_wp2_with (go_at_call 104; refine (TextV.implTextValid _ hts _).mono ?_; rw [HT.out]; rintro e w' ⟨rfl, rfl⟩)
        all_goals
          go_ret
          exact ⟨ret_bool (by simp [HL.out]), B1 _ _⟩
      · have HN := Lib.hid hn
        have bn : (n == 0) = false := beq_eq_false_iff_ne.2 hn
        go_enter Try.func86, Try.ntmps86
        go_wp2_with fail
        go_quiet (fail)
        go_wp2_with (go_at_call 104; refine (TextV.implTextValid _ hts _).mono ?_; rw [HT.out]; rintro e w' ⟨rfl, rfl⟩)
        all_goals
          go_ret
          exact ⟨ret_bool (by simp [HN.out]), B1 _ _⟩
    · have HL := Lib.hid hL
      have bL : ((L : Int) == 0) = false := beq_eq_false_iff_ne.2 hL
      go_enter Try.func86, Try.ntmps86
      go_wp2_with fail
      go_quiet (fail)
      go_wp2_with (go_at_call 104; refine (TextV.implTextValid _ hts _).mono ?_; rw [HT.out]; rintro e w' ⟨rfl, rfl⟩)
      all_goals
        go_ret
        exact ⟨ret_bool (by rw [decide_eq_false HL.out, Bool.false_and, Bool.false_and]), B1 _ _⟩

set_option maxRecDepth 100000 in
set_option maxHeartbeats 1600000 in
theorem op6 (w : World) (n : Int) (t : ByteArray) (L : Nat) (a : Option Addr) (cap : Nat) (hl : L ≤ maxLen) (hts : t.size ≤ maxLen) :
    Calls Try.prog 86 #[.agg #[.int .i64 6, .int .i64 n, .string t, .slice a L cap]] w fun e w' => e = .returned (.bool (nodeB 6 n t L)) ∧ Below w.heap.size w w' := by
  have B1 : ∀ (ob : Obj) (nq : Nat), Below w.heap.size w ((w.alloc ob).drewN nq) := fun ob nq => drewN_below ((Below.refl _ _).alloc (Nat.le_refl _) _) _
  rw [sixB, show kidsOf 6 = 1 from rfl]
  unfold maxLen at hl
  clear hts
  by_cases hL : (L : Int) = 1
  · have HL := Lib.hid hL
    have bL : ((L : Int) == 1) = true := beq_iff_eq.2 hL
    clear hL
    by_cases ht : t = ⟨#[]⟩
    · subst ht
      by_cases h0 : 0 ≤ n
      · have b0 : decide (0 ≤ n) = true := by simpa using h0
        by_cases h9 : n ≤ 9
        · have b9 : decide (n ≤ 9) = true := by simpa using h9
          go_enter Try.func86, Try.ntmps86
          go_wp2_with fail
          go_quiet (fail)
          go_wp2_with fail
          go_quiet (fail)
          go_wp2_with fail
          all_goals
            go_ret
            exact ⟨ret_bool (by simp [HL.out, h0, h9]), by repeat (first | exact (Below.refl _ _).alloc (Nat.le_refl _) _ | refine drewN_below ?_ _)⟩
        · have b9 : decide (n ≤ 9) = false := by simpa using h9
          go_enter Try.func86, Try.ntmps86
          go_wp2_with fail
          go_quiet (fail)
          go_wp2_with fail
          go_quiet (fail)
          go_wp2_with fail
          all_goals
            go_ret
            exact ⟨ret_bool (by simp; intros; omega), by repeat (first | exact (Below.refl _ _).alloc (Nat.le_refl _) _ | refine drewN_below ?_ _)⟩
      · have b0 : decide (0 ≤ n) = false := by simpa using h0
        go_enter Try.func86, Try.ntmps86
        go_wp2_with fail
        go_quiet (fail)
        go_wp2_with fail
        go_quiet (fail)
        go_wp2_with fail
        all_goals
          go_ret
          exact ⟨ret_bool (by simp; intros; omega), by repeat (first | exact (Below.refl _ _).alloc (Nat.le_refl _) _ | refine drewN_below ?_ _)⟩
    · have HT := Lib.hid ht
      obtain ⟨t1, t2⟩ := bytes_ne_empty ht
      clear ht
      by_cases h0 : 0 ≤ n
      · have b0 : decide (0 ≤ n) = true := by simpa using h0
        go_enter Try.func86, Try.ntmps86
        go_wp2_with fail
        go_quiet (fail)
        go_wp2_with fail
        go_quiet (fail)
        go_wp2_with fail
        all_goals
          go_ret
          exact ⟨ret_bool (by simp [HT.out]), by repeat (first | exact (Below.refl _ _).alloc (Nat.le_refl _) _ | refine drewN_below ?_ _)⟩
      · have b0 : decide (0 ≤ n) = false := by simpa using h0
        go_enter Try.func86, Try.ntmps86
        go_wp2_with fail
        go_quiet (fail)
        go_wp2_with fail
        go_quiet (fail)
        go_wp2_with fail
        all_goals
          go_ret
          exact ⟨ret_bool (by simp [HT.out]), by repeat (first | exact (Below.refl _ _).alloc (Nat.le_refl _) _ | refine drewN_below ?_ _)⟩
  · have HL := Lib.hid hL
    have bL : ((L : Int) == 1) = false := beq_eq_false_iff_ne.2 hL
    by_cases h0 : 0 ≤ n
    · have b0 : decide (0 ≤ n) = true := by simpa using h0
      go_enter Try.func86, Try.ntmps86
      go_wp2_with fail
      go_quiet (fail)
      go_wp2_with fail
      go_quiet (fail)
      go_wp2_with fail
      all_goals
        go_ret
        exact ⟨ret_bool (by rw [decide_eq_false HL.out, Bool.false_and, Bool.false_and]), by repeat (first | exact (Below.refl _ _).alloc (Nat.le_refl _) _ | refine drewN_below ?_ _)⟩
    · have b0 : decide (0 ≤ n) = false := by simpa using h0
      go_enter Try.func86, Try.ntmps86
      go_wp2_with fail
      go_quiet (fail)
      go_wp2_with fail
      go_quiet (fail)
      go_wp2_with fail
      all_goals
        go_ret
        exact ⟨ret_bool (by rw [decide_eq_false HL.out, Bool.false_and, Bool.false_and]), by repeat (first | exact (Below.refl _ _).alloc (Nat.le_refl _) _ | refine drewN_below ?_ _)⟩

set_option maxRecDepth 100000 in
set_option maxHeartbeats 1600000 in
theorem other (w : World) (o n : Int) (t : ByteArray) (L : Nat) (a : Option Addr) (cap : Nat) (h1 : o ≠ 1) (h2 : o ≠ 2) (h3 : o ≠ 3) (h4 : o ≠ 4) (h5 : o ≠ 5) (h6 : o ≠ 6) (h7 : o ≠ 7) (h8 : o ≠ 8) :
    Calls Try.prog 86 #[.agg #[.int .i64 o, .int .i64 n, .string t, .slice a L cap]] w fun e w' => e = .returned (.bool false) ∧ Below w.heap.size w w' := by
  have B1 : ∀ (ob : Obj) (nq : Nat), Below w.heap.size w ((w.alloc ob).drewN nq) := fun ob nq => drewN_below ((Below.refl _ _).alloc (Nat.le_refl _) _) _
  have b1 : (o == 1) = false := beq_eq_false_iff_ne.2 h1
  have b2 : (o == 2) = false := beq_eq_false_iff_ne.2 h2
  have b3 : (o == 3) = false := beq_eq_false_iff_ne.2 h3
  have b4 : (o == 4) = false := beq_eq_false_iff_ne.2 h4
  have b5 : (o == 5) = false := beq_eq_false_iff_ne.2 h5
  have b6 : (o == 6) = false := beq_eq_false_iff_ne.2 h6
  have b7 : (o == 7) = false := beq_eq_false_iff_ne.2 h7
  have b8 : (o == 8) = false := beq_eq_false_iff_ne.2 h8
  clear h1 h2 h3 h4 h5 h6 h7 h8
  go_enter Try.func86, Try.ntmps86
  go_wp2_with fail
  go_quiet (fail)
  go_wp2_with fail
  all_goals
    go_ret
    exact ⟨rfl, B1 _ _⟩

/-- What nodeValid comes to. -/
theorem nodeValid (w : World) (o n : Int) (t : ByteArray) (L : Nat) (a : Option Addr) (cap : Nat) (hl : L ≤ maxLen) (hts : t.size ≤ maxLen) :
    Calls Try.prog 86 #[.agg #[.int .i64 o, .int .i64 n, .string t, .slice a L cap]] w fun e w' => e = .returned (.bool (nodeB o n t L)) ∧ Below w.heap.size w w' := by
  rcases kidsOf_ways o with ⟨h, _⟩ | ⟨h, _⟩ | ⟨h, _⟩ | ⟨h, _⟩ | ⟨h, _⟩ | ⟨h, _⟩ | ⟨h, _⟩ | ⟨h, _⟩ | ⟨h1, h2, h3, h4, h5, h6, h7, h8, e⟩
  · subst h; exact op1 w n t L a cap hl
  · subst h; exact op2 w n t L a cap hl hts
  · subst h; exact op3 w n t L a cap hl
  · subst h; exact op4 w n t L a cap hl
  · subst h; exact op5 w n t L a cap hl
  · subst h; exact op6 w n t L a cap hl hts
  · subst h; exact op8 w n t L a cap hl
  · subst h; exact op7 w n t L a cap hl
  · have hb : nodeB o n t L = false := by
      unfold nodeB
      rw [e, decide_eq_false (by omega), Bool.false_and, Bool.false_and]
    rw [hb]
    exact other w o n t L a cap h1 h2 h3 h4 h5 h6 h7 h8

end Go.Proofs.Ytjpgnhpfmdjamaa.NodeV
