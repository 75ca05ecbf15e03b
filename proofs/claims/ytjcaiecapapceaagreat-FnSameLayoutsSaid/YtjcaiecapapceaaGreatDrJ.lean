import Derived.Test.YtjcaiecapapceaaGreatDrZ
/-
 The model's draw of the arguments of CatDocs: two documents, each in memory of its own.
-/
set_option linter.unusedVariables false
set_option linter.unusedSimpArgs false
namespace Go.Proofs.YtjcaiecapapceaaGreat.DrJ
open Go.RowKit P1 Draw Draw2 Draw6 Copy DrA DrD Mut Mut2 DrI
theorem eight_new {w w1 : World} {ob : Obj} {T : TypeId} {u0 u1 u2 u3 : Value} (h : Below ((w.alloc ob).alloc (.cells #[u0, u1, u2, u3] T)).heap.size ((w.alloc ob).alloc (.cells #[u0, u1, u2, u3] T)) w1) : w1.there (w.heap.size + 1) 0 4 := by
 have := four_new (w := w.alloc ob) h
 simpa using this
theorem four_new' {w w1 : World} {ob : Obj} {T : TypeId} {u0 u1 u2 u3 : Value} (h : Below ((w.alloc (.cells #[u0, u1, u2, u3] T)).alloc ob).heap.size ((w.alloc (.cells #[u0, u1, u2, u3] T)).alloc ob) w1) : w1.there w.heap.size 0 4 :=
 four_new (((Below.refl _ _).alloc (Nat.le_refl _) ob).trans (h.mono (by simp)))
theorem opened2 {w w1 : World} {o1 o2 : Obj} (h : Below ((w.alloc o1).alloc o2).heap.size ((w.alloc o1).alloc o2) w1) : Below w.heap.size w w1 := (((Below.refl _ _).alloc (Nat.le_refl _) _).alloc (by simp) _).trans (h.mono (by simp; omega))
end Go.Proofs.YtjcaiecapapceaaGreat.DrJ
