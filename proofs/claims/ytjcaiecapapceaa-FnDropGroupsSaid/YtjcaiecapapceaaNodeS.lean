import Derived.Test.YtjcaiecapapceaaPl
import Derived.Test.YtjcaiecapapceaaChecked
import Derived.Outline
/-
 What impl.nodeSame and impl.kidListOf come to.
-/
set_option linter.unusedVariables false
set_option linter.unusedSimpArgs false
set_option maxHeartbeats 800000
namespace Go.Proofs.Ytjcaiecapapceaa.NodeS
open Go.RowKit
theorem ret_bool {a b : Bool} (h : a = b) : Ending.returned (.bool a) = .returned (.bool b) := by rw [h]
def nodeT (o n : Int) (t : ByteArray) (l : Nat) (o' n' : Int) (t' : ByteArray) (l' : Nat) : Bool := decide (o = o') && decide (n = n') && decide (t = t') && decide (l = l')
theorem nodeT_iff {o n : Int} {t : ByteArray} {k : F} {o' n' : Int} {t' : ByteArray} {k' : F} : nodeT o n t k.len o' n' t' k'.len = true ↔ nodeEq (o, n, t, k) (o', n', t', k') := by
 simp [nodeT, nodeEq, and_assoc]
theorem nodeSame (w : World) (o n o' n' : Int) (t t' : ByteArray) (a a' : Option Addr) (l l' cap cap' : Nat) (hl : l ≤ maxLen) (hl' : l' ≤ maxLen) :
  Calls Try.prog 44 #[.agg #[.int .i64 o, .int .i64 n, .string t, .slice a l cap], .agg #[.int .i64 o', .int .i64 n', .string t', .slice a' l' cap']] w fun e w' => e = .returned (.bool (nodeT o n t l o' n' t' l')) ∧ Below w.heap.size w w' := by
 have B2 : ∀ (o1 o2 : Obj), Below w.heap.size w ((w.alloc o1).alloc o2) := fun o1 o2 => ((Below.refl _ _).alloc (Nat.le_refl _) _).alloc (by simp) _
 unfold maxLen at hl hl'
 by_cases h1 : o = o'
 ·subst h1
  by_cases h2 : n = n'
  ·subst h2
   by_cases h3 : t = t'
   ·subst h3
    by_cases h4 : l = l'
    ·subst h4
     go_enter Try.func44, Try.ntmps44
     go_wp2_with fail
     go_ret
     exact ⟨ret_bool (by simp [nodeT]), B2 _ _⟩
    ·have h5 : ((l : Int) == (l' : Int)) = false := by rw [beq_eq_false_iff_ne]; omega
     have H4 := Lib.hid h4
     clear h4
     go_enter Try.func44, Try.ntmps44
     go_wp2_with fail
     go_ret
     exact ⟨ret_bool (by simp [nodeT, H4.out]), B2 _ _⟩
   ·have h4 := bytes_ne h3
    go_enter Try.func44, Try.ntmps44
    go_wp2_with fail
    go_ret
    exact ⟨ret_bool (by simp [nodeT, h3]), B2 _ _⟩
  ·go_enter Try.func44, Try.ntmps44
   go_wp2_with fail
   go_ret
   exact ⟨ret_bool (by simp [nodeT, h2]), B2 _ _⟩
 ·go_enter Try.func44, Try.ntmps44
  go_wp2_with fail
  go_ret
  exact ⟨ret_bool (by simp [nodeT, h1]), B2 _ _⟩
theorem kidListOf (w : World) (b off l cap : Nat) (h0 : 0 < l) (hl : l ≤ maxLen) :
  Calls Try.prog 45 #[.slice (some ⟨b, off, none⟩) l cap] w fun e w' => e = .returned (lkV (b, off, l)) ∧ Below w.heap.size w w' := by
 have i0 : (0 : Int) < (l : Int) := by omega
 unfold maxLen at hl
 go_enter Try.func45, Try.ntmps45
 go_wp2_with fail
 refine bodyPost_ret (v := .agg #[.pointer (some ⟨b, off, none⟩), .int .i64 l]) (by simp [results, Try.results45, go_sem]) rfl ?_
 refine ⟨rfl, ?_⟩
 repeat (first | exact Below.refl _ _ | exact (Below.refl _ _).alloc (Nat.le_refl _) _ | refine Below.setCell ?_ (by simp) _)
end Go.Proofs.Ytjcaiecapapceaa.NodeS
