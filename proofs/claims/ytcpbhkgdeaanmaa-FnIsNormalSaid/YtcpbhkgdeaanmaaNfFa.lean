import Derived.Test.YtcpbhkgdeaanmaaNfZ
import Derived.Test.YtcpbhkgdeaanmaaNfNe
import Derived.Test.YtcpbhkgdeaanmaaNfB
/-
  Texts joined: valid documents, and counts of nodes; nothing here speaks of layouts.
-/
set_option linter.unusedVariables false
set_option linter.unusedSimpArgs false
namespace Go.Proofs.Ytcpbhkgdeaanmaa.Nf
open P1 CatD
/-! ## counts -/

theorem cnt_cons (m : Int → Bool) (o n : Int) (t : ByteArray) (k r : F) : cntF m (.cons o n t k r) = (if m o then 1 else 0) + cntF m k + cntF m r := rfl
theorem cat_ops (m : Int → Bool) (h7 : m 7 = false) : ∀ P : F, P ≠ .nil → cntF m (consD (catAll P) .nil) = cntF m P := by
  intro P
  induction P with
  | nil => intro h; exact absurd rfl h
  | cons o n t k r _ ih =>
    intro _
    by_cases he : r = .nil
    · subst he; rfl
    · have e : catAll (.cons o n t k r) = (7, 0, ⟨#[]⟩, .cons o n t k (consD (catAll r) .nil)) := by show (if r.len = 0 then _ else _) = _; rw [if_neg (fun e => he (F.len_eq_zero e))]
      rw [e]
      show (if m 7 then 1 else 0) + cntF m (.cons o n t k (consD (catAll r) .nil)) + cntF m .nil = _
      rw [h7, cnt_cons, ih he, cnt_cons]
      show (if false = true then 1 else 0) + _ + 0 = _
      simp
theorem cntF_app' (m : Int → Bool) (f g : F) : cntF m (f.app g) = cntF m f + cntF m g := by
  induction f with
  | nil => show _ = 0 + _; rw [Nat.zero_add]; rfl
  | cons o n t k r _ ih => show cntF m (.cons o n t k (r.app g)) = _; rw [cnt_cons, cnt_cons, ih]; omega
end Go.Proofs.Ytcpbhkgdeaanmaa.Nf

