import Derived.Test.YtjcaiecapapceaaGreatFuX
import Derived.Test.YtjcaiecapapceaaGreatNfGx
/-
 The normal form as a plain function: five changes, each well-formed and not too large.
-/
set_option linter.unusedVariables false
set_option linter.unusedSimpArgs false
namespace Go.Proofs.YtjcaiecapapceaaGreat.Nf
open Go.RowKit P1 Copy CatD
def n2D (d : D) : D := ap (pushD 0) (n1D d)
def n3D (d : D) : D := ap (chD grR) (n2D d)
def n4D (d : D) : D := ap (chD emR) (n3D d)
def noD (d : D) : D := ap (rowD fzR) (n4D d)
def noRes (o n : Int) (t : ByteArray) (k : F) : Bool × D := chR (o, n, t, k) (noD (o, n, t, k))
theorem no_2 {d : D} (h : validD d.1 d.2.1 d.2.2.1 d.2.2.2 = true) : niceD (n2D d) = true ∧ (n2D d).2.2.2.cnt ≤ 10000 := by
 obtain ⟨h1, h2, h3⟩ := no_1 h
 obtain ⟨⟨o1, n1, t1, k1⟩, hd⟩ : ∃ x, n1D d = x := ⟨_, rfl⟩
 unfold n2D
 rw [hd] at h1 h2 h3 ⊢
 exact push_fit h1 h3 h2
theorem no_3 {d : D} (h : validD d.1 d.2.1 d.2.2.1 d.2.2.2 = true) : niceD (n3D d) = true ∧ (n3D d).2.2.2.cnt ≤ 10000 := by
 obtain ⟨h1, h2⟩ := no_2 h
 obtain ⟨⟨o1, n1, t1, k1⟩, hd⟩ : ∃ x, n2D d = x := ⟨_, rfl⟩
 unfold n3D
 rw [hd] at h1 h2 ⊢
 obtain ⟨h3, h4⟩ := gr_nice h1
 exact ⟨h3, Nat.le_trans h4 h2⟩
theorem no_4 {d : D} (h : validD d.1 d.2.1 d.2.2.1 d.2.2.2 = true) : niceD (n4D d) = true ∧ (n4D d).2.2.2.cnt ≤ 10000 := by
 obtain ⟨h1, h2⟩ := no_3 h
 obtain ⟨⟨o1, n1, t1, k1⟩, hd⟩ : ∃ x, n3D d = x := ⟨_, rfl⟩
 unfold n4D
 rw [hd] at h1 h2 ⊢
 obtain ⟨h3, h4⟩ := em_nice h1
 exact ⟨h3, Nat.le_trans h4 h2⟩
theorem no_5 {d : D} (h : validD d.1 d.2.1 d.2.2.1 d.2.2.2 = true) : niceD (noD d) = true ∧ (noD d).2.2.2.cnt ≤ 10000 := by
 obtain ⟨h1, h2⟩ := no_4 h
 obtain ⟨⟨o1, n1, t1, k1⟩, hd⟩ : ∃ x, n4D d = x := ⟨_, rfl⟩
 unfold noD
 rw [hd] at h1 h2 ⊢
 obtain ⟨h3, h4⟩ := row_nice fzR_ok h1
 exact ⟨h3, Nat.le_trans h4 h2⟩
end Go.Proofs.YtjcaiecapapceaaGreat.Nf
namespace Go.Proofs.YtjcaiecapapceaaGreat.Nf
open Go.RowKit P1 Copy CatD
end Go.Proofs.YtjcaiecapapceaaGreat.Nf
