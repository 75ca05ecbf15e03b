import Derived.Test.YtpiaiandjnpdfaaFl
/-
  What flatSize, leadSize, FlatWidth and LeadWidth come to, of the program and of the model.
-/
set_option linter.unusedVariables false
set_option linter.unusedSimpArgs false
namespace Go.Proofs.Ytpiaiandjnpdfaa.Wid
open Go.RowKit P1 Cnt CntC Flat

/-- the bytes of the documents of a list in one line -/
def zf : F → Nat
  | .nil => 0
  | .cons o _ t k r => (if o == 3 then 1 else t.size) + zf k + zf r
def zD (o : Int) (t : ByteArray) (k : F) : Nat := (if o == 3 then 1 else t.size) + zf k
theorem zf_app (f g : F) : zf (f.app g) = zf f + zf g := by
  induction f with
  | nil => simp [F.app, zf]
  | cons o n t k r _ ih => simp only [F.app, zf, ih]; omega
theorem zf_one (o n : Int) (t : ByteArray) (k : F) : zf (.cons o n t k .nil) = zD o t k := by simp [zf, zD]
theorem zf_size (f : F) : zf f ≤ f.size := by
  induction f with
  | nil => exact Nat.le_refl 0
  | cons o n t k r ihk ihr => simp only [zf, F.size]; split <;> omega
theorem zD_size (o : Int) (t : ByteArray) (k : F) : zD o t k ≤ 1 + t.size + k.size := by
  have := zf_size k
  unfold zD; split <;> omega
theorem zf_fl (f : F) : ∀ d, f.ok d = true → zf f = (fl f).size := by
  induction f with
  | nil => intro d _; rfl
  | cons o n t k r ihk ihr =>
    intro d h
    simp only [F.ok, Bool.and_eq_true] at h
    obtain ⟨⟨⟨_, hn⟩, hk⟩, hr⟩ := h
    simp only [zf, fl, ihr _ hr, ihk _ hk, ByteArray.size_append]
    cases h3 : (o == 3) with
    | true =>
      obtain ⟨hl, rfl⟩ := node_line hn h3
      rw [nil_of_len hl]
      simp only [if_true, fl]
      rfl
    | false => simp only [Bool.false_eq_true, if_false, ByteArray.size_append]
theorem zD_fl {o n : Int} {t : ByteArray} {k : F} (h : validD o n t k = true) : zD o t k = (flD o t k).size := by
  have : (F.cons o n t k .nil).ok 40 = true := by
    rw [ok_cons]; simp only [validD, Bool.and_eq_true] at h; rw [h.1]; rfl
  have h2 := zf_fl _ _ this
  rwa [zf_one, fl_one] at h2

/-- no newline has to stay -/
def noF : F → Bool
  | .nil => true
  | .cons o _ _ k r => (o != 5) && noF k && noF r
def noD (o : Int) (k : F) : Bool := (o != 5) && noF k
theorem noF_app (f g : F) : noF (f.app g) = (noF f && noF g) := by
  induction f with
  | nil => simp [F.app, noF]
  | cons o n t k r _ ih => simp only [F.app, noF, ih, Bool.and_assoc]
theorem noF_cnt (f : F) : noF f = decide (cntF (fun x => x == 5) f = 0) := by
  induction f with
  | nil => rfl
  | cons o n t k r ihk ihr =>
    simp only [noF, cntF, ihk, ihr]
    by_cases h : o = 5
    · subst h; simp <;> omega
    · have h1 : (o == 5) = false := by rw [beq_eq_false_iff_ne]; exact h
      have h2 : (o != 5) = true := by simp [bne, h1]
      simp only [h1, h2, Bool.true_and, Bool.false_eq_true, if_false]
      rw [Bool.eq_iff_iff]; simp only [Bool.and_eq_true, decide_eq_true_eq]; omega
theorem noD_ops (o : Int) (k : F) : noD o k = decide (opsD 5 o k = 0) := by
  rw [noD, noF_cnt, opsD_eq]
  by_cases h : o = 5
  · subst h; simp
  · have h1 : (o == 5) = false := by rw [beq_eq_false_iff_ne]; exact h
    have h2 : (o != 5) = true := by simp [bne, h1]
    simp only [h1, h2, Bool.true_and, Bool.false_eq_true, if_false]
    rw [Bool.eq_iff_iff]; simp only [decide_eq_true_eq]; omega
/-- a number, or 0 -/
def orZ (b : Bool) (z : Nat) : Int := if b then (z : Int) else 0

theorem ret_two {a b : Int} {x : Bool} (h : a = b) : Ending.returned (.tuple #[.int .i64 a, .bool x]) = .returned (.tuple #[.int .i64 b, .bool x]) := by rw [h]

/-- is a newline -/
def nl (o : Int) : Bool := (o == 3) || (o == 4) || (o == 5)
/-- a list's documents have a newline; the bytes in front of it -/
def ldE : F → Bool
  | .nil => false
  | .cons o _ _ k r => (nl o || ldE k) || ldE r
def ldN : F → Nat
  | .nil => 0
  | .cons o _ t k r => (if nl o then 0 else t.size + ldN k) + (if nl o || ldE k then 0 else ldN r)
def eD (o : Int) (k : F) : Bool := nl o || ldE k
def nD (o : Int) (t : ByteArray) (k : F) : Nat := if nl o then 0 else t.size + ldN k
theorem ldE_app (f g : F) : ldE (f.app g) = (ldE f || ldE g) := by
  induction f with
  | nil => simp [F.app, ldE]
  | cons o n t k r _ ih => simp only [F.app, ldE, ih, Bool.or_assoc]
theorem ldN_app (f g : F) : ldN (f.app g) = ldN f + (if ldE f then 0 else ldN g) := by
  induction f with
  | nil => simp [F.app, ldN, ldE]
  | cons o n t k r _ ih =>
    simp only [F.app, ldN, ldE, ih]
    by_cases h1 : nl o = true <;> by_cases h2 : ldE k = true <;> by_cases h3 : ldE r = true <;> simp [h1, h2, h3] <;> omega
theorem ldE_one (o n : Int) (t : ByteArray) (k : F) : ldE (.cons o n t k .nil) = eD o k := by simp [ldE, eD]
theorem ldN_one (o n : Int) (t : ByteArray) (k : F) : ldN (.cons o n t k .nil) = nD o t k := by simp [ldN, nD]
theorem ldN_size (f : F) : ldN f ≤ f.size := by
  induction f with
  | nil => exact Nat.le_refl 0
  | cons o n t k r ihk ihr => simp only [ldN, F.size]; split <;> split <;> omega
theorem nD_size (o : Int) (t : ByteArray) (k : F) : nD o t k ≤ t.size + k.size := by
  have := ldN_size k
  unfold nD; split <;> omega
theorem cons_eq (o n : Int) (t : ByteArray) (k r : F) : F.cons o n t k r = (F.cons o n t k .nil).app r := rfl

end Go.Proofs.Ytpiaiandjnpdfaa.Wid

