import Derived.Test.YtcealfjkcbaelaaVsA
import Derived.BigQuiet
import Derived.Deep.QuietTactic
/-
  The laws' helpers over a []int: eqIntS, markIntS, heldIntS.
-/
set_option linter.unusedVariables false
set_option linter.unusedSimpArgs false
namespace Go.Proofs.Ytcealfjkcbaelaa.VsI
open Go.RowKit Vs

theorem ret_int {k : IntKind} {a b : Int} (h : a = b) : Ending.returned (.int k a) = .returned (.int k b) := by rw [h]
/-- what a []int is marked with -/
def mk : List Int → Nat → List Int
  | [], _ => []
  | _ :: l, m => (m : Int) :: mk l (m + 1)
theorem mk_len (l : List Int) : ∀ m, (mk l m).length = l.length := by
  induction l with
  | nil => intro m; rfl
  | cons v l ih => intro m; simp [mk, ih]
theorem mk_get (l : List Int) : ∀ (m k : Nat) (h : k < (mk l m).length), (mk l m)[k] = ((m + k : Nat) : Int) := by
  induction l with
  | nil => intro m k h; simp [mk] at h
  | cons v l ih =>
    intro m k h
    cases k with
    | zero => simp [mk]
    | succ k =>
      simp only [mk, List.getElem_cons_succ]
      rw [ih (m + 1) k]
      rw [show m + 1 + k = m + (k + 1) by omega]
abbrev ISub (w : World) (a : Option Addr) (l : List Int) (fs : List Nat) : Prop := VSub w a (l.map (Value.int .i64)) fs
/-- numbers in new memory, and whether there are any -/
def IRes (w : World) : List Int × Bool → Ending → World → Prop
  | (l, ok), e, w' => ∃ (a : Option Addr) (cap : Nat) (fs : List Nat), e = .returned (.tuple #[.slice a l.length cap, .bool ok]) ∧ l.length ≤ cap ∧ ISub w' a l fs ∧ Fresh w.heap.size w' fs ∧ Below w.heap.size w w'
theorem IRes.out {w w' : World} {l : List Int} {ok : Bool} {e : Ending} (h : IRes w (l, ok) e w') : ∃ (a : Option Addr) (cap : Nat) (fs : List Nat), e = .returned (.tuple #[.slice a l.length cap, .bool ok]) ∧ l.length ≤ cap ∧ ISub w' a l fs ∧ Fresh w.heap.size w' fs ∧ Below w.heap.size w w' := h
theorem IRes.none' {w w' : World} {a : Option Addr} {cap : Nat} (hb : Below w.heap.size w w') : IRes w ([], false) (.returned (.tuple #[.slice a 0 cap, .bool false])) w' := ⟨a, cap, [], rfl, by simp, .inl ⟨rfl, rfl⟩, Fresh.nil _ _, hb⟩
theorem below_drewN {w w' : World} (h : Below w.heap.size w w') : ∀ n, Below w.heap.size w (w'.drewN n)
  | 0 => h
  | n + 1 => (below_drewN h n).drew

/-- what markIntS comes to -/
def IOut (w : World) (a : Option Addr) (l : List Int) (fs : List Nat) (m : Nat) (e : Ending) (w' : World) : Prop := e = .returned (.int .i64 ((m + l.length : Nat) : Int)) ∧ ISub w' a (mk l m) fs ∧ Only fs w w'

end Go.Proofs.Ytcealfjkcbaelaa.VsI

