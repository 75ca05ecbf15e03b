import Derived.Test.YtjcaiecapapceaaDrZ
/-
 The model's draw of the arguments of CatDocs: two documents, each in memory of its own.
-/
set_option linter.unusedVariables false
set_option linter.unusedSimpArgs false
namespace Go.Proofs.Ytjcaiecapapceaa.DrJ
open Go.RowKit P1 Draw Draw2 Draw6 Copy DrA DrD Mut Mut2 DrI
theorem eight_new {w w1 : World} {ob : Obj} {T : TypeId} {u0 u1 u2 u3 : Value} (h : Below ((w.alloc ob).alloc (.cells #[u0, u1, u2, u3] T)).heap.size ((w.alloc ob).alloc (.cells #[u0, u1, u2, u3] T)) w1) : w1.there (w.heap.size + 1) 0 4 := by
 have := four_new (w := w.alloc ob) h
 simpa using this
theorem four_new' {w w1 : World} {ob : Obj} {T : TypeId} {u0 u1 u2 u3 : Value} (h : Below ((w.alloc (.cells #[u0, u1, u2, u3] T)).alloc ob).heap.size ((w.alloc (.cells #[u0, u1, u2, u3] T)).alloc ob) w1) : w1.there w.heap.size 0 4 :=
 four_new (((Below.refl _ _).alloc (Nat.le_refl _) ob).trans (h.mono (by simp)))
theorem opened2 {w w1 : World} {o1 o2 : Obj} (h : Below ((w.alloc o1).alloc o2).heap.size ((w.alloc o1).alloc o2) w1) : Below w.heap.size w w1 := (((Below.refl _ _).alloc (Nat.le_refl _) _).alloc (by simp) _).trans (h.mono (by simp; omega))
end Go.Proofs.Ytjcaiecapapceaa.DrJ
namespace Go.Proofs.Ytjcaiecapapceaa.DrS
open Go.RowKit P1 Draw Draw2 Draw6 Copy DrA DrD Mut Mut2 DrI DrJ
theorem keep4 {w w' : World} {b B x : Nat} {u0 u1 u2 u3 : Value} (h : w.cell? ⟨b, 0, none⟩ = some u0 ∧ w.cell? ⟨b, 1, none⟩ = some u1 ∧ w.cell? ⟨b, 2, none⟩ = some u2 ∧ w.cell? ⟨b, 3, none⟩ = some u3) (k : But B x w w') (hb : b < B) (hx : b ≠ x) :
  w'.cell? ⟨b, 0, none⟩ = some u0 ∧ w'.cell? ⟨b, 1, none⟩ = some u1 ∧ w'.cell? ⟨b, 2, none⟩ = some u2 ∧ w'.cell? ⟨b, 3, none⟩ = some u3 :=
 ⟨(k.cell hb hx).trans h.1, (k.cell hb hx).trans h.2.1, (k.cell hb hx).trans h.2.2.1, (k.cell hb hx).trans h.2.2.2⟩
theorem keepSet {w : World} {b c : Nat} {u0 u1 u2 u3 v0 v1 v2 v3 : Value} (hne : c ≠ b) (h : w.cell? ⟨b, 0, none⟩ = some u0 ∧ w.cell? ⟨b, 1, none⟩ = some u1 ∧ w.cell? ⟨b, 2, none⟩ = some u2 ∧ w.cell? ⟨b, 3, none⟩ = some u3) :
  ((((w.setCell ⟨c, 0, none⟩ v0).setCell ⟨c, 1, none⟩ v1).setCell ⟨c, 2, none⟩ v2).setCell ⟨c, 3, none⟩ v3).cell? ⟨b, 0, none⟩ = some u0 ∧ ((((w.setCell ⟨c, 0, none⟩ v0).setCell ⟨c, 1, none⟩ v1).setCell ⟨c, 2, none⟩ v2).setCell ⟨c, 3, none⟩ v3).cell? ⟨b, 1, none⟩ = some u1 ∧
  ((((w.setCell ⟨c, 0, none⟩ v0).setCell ⟨c, 1, none⟩ v1).setCell ⟨c, 2, none⟩ v2).setCell ⟨c, 3, none⟩ v3).cell? ⟨b, 2, none⟩ = some u2 ∧ ((((w.setCell ⟨c, 0, none⟩ v0).setCell ⟨c, 1, none⟩ v1).setCell ⟨c, 2, none⟩ v2).setCell ⟨c, 3, none⟩ v3).cell? ⟨b, 3, none⟩ = some u3 := by
 obtain ⟨h0, h1, h2, h3⟩ := h
 refine ⟨?_, ?_, ?_, ?_⟩ <;> (rw [World.cell?_setCell_far _ _ _ _ hne, World.cell?_setCell_far _ _ _ _ hne, World.cell?_setCell_far _ _ _ _ hne, World.cell?_setCell_far _ _ _ _ hne]; assumption)
end Go.Proofs.Ytjcaiecapapceaa.DrS
