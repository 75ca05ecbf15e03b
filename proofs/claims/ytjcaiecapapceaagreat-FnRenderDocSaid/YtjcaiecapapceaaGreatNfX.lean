import Derived.Test.YtjcaiecapapceaaGreatCopyI
import Derived.Test.YtjcaiecapapceaaGreatCpA
import Derived.Test.YtjcaiecapapceaaGreatChP
/-
 What holds of nested and joined layouts, as plain data; nothing here speaks of the program.
-/
set_option linter.unusedVariables false
set_option linter.unusedSimpArgs false
namespace Go.Proofs.YtjcaiecapapceaaGreat.P1
open Go.RowKit
theorem nestL_nought (l : List (Int × ByteArray)) : nestL 0 l = l := by
 cases l with
 | nil => rfl
 | cons r l => simp [nestL]
theorem nestL_add (m n : Int) (l : List (Int × ByteArray)) : nestL m (nestL n l) = nestL (n + m) l := by
 cases l with
 | nil => rfl
 | cons r l => simp [nestL, Function.comp_def, Int.add_assoc]
theorem snoc_of {a : List (Int × ByteArray)} (h : 0 < a.length) : ∃ p q, a = p ++ [q] :=
 ⟨a.dropLast, a.getLast (List.length_pos_iff.1 h), (List.dropLast_concat_getLast _).symm⟩
theorem catL_snoc (p : List (Int × ByteArray)) (q r : Int × ByteArray) (k : List (Int × ByteArray)) : catL (p ++ [q]) (r :: k) = p ++ (q.1, q.2 ++ r.2) :: k := by simp [catL]
theorem catL_nest (n : Int) {a b : List (Int × ByteArray)} (ha : 0 < a.length) (hb : 0 < b.length) : catL (nestL n a) (nestL n b) = nestL n (catL a b) := by
 obtain ⟨p, q, rfl⟩ := snoc_of ha
 cases b with
 | nil => simp at hb
 | cons r k =>
   rw [catL_snoc]
   cases p with
   | nil =>
     have := catL_snoc [] q r (k.map fun r => (r.1 + n, r.2))
     simpa [nestL] using this
   | cons x p =>
     have := catL_snoc (x :: p.map fun r => (r.1 + n, r.2)) (q.1 + n, q.2) r (k.map fun r => (r.1 + n, r.2))
     simpa [nestL] using this
end Go.Proofs.YtjcaiecapapceaaGreat.P1
namespace Go.Proofs.YtjcaiecapapceaaGreat.Nf
open P1
def zD : D := (0, 0, ⟨#[]⟩, .nil)
def hd : F → D
 | .nil => zD
 | .cons o n t k _ => (o, n, t, k)
end Go.Proofs.YtjcaiecapapceaaGreat.Nf
namespace Go.Proofs.YtjcaiecapapceaaGreat.Nf
open Go.RowKit P1 Copy
end Go.Proofs.YtjcaiecapapceaaGreat.Nf
namespace Go.Proofs.YtjcaiecapapceaaGreat.Nf
open Go.RowKit P1 Copy
end Go.Proofs.YtjcaiecapapceaaGreat.Nf
namespace Go.Proofs.YtjcaiecapapceaaGreat.Nf
open Go.RowKit P1 Copy CatD
end Go.Proofs.YtjcaiecapapceaaGreat.Nf
namespace Go.Proofs.YtjcaiecapapceaaGreat.Nf
open Go.RowKit P1 Copy CatD
end Go.Proofs.YtjcaiecapapceaaGreat.Nf
namespace Go.Proofs.YtjcaiecapapceaaGreat.Nf
open Go.RowKit P1 Copy CatD
end Go.Proofs.YtjcaiecapapceaaGreat.Nf
namespace Go.Proofs.YtjcaiecapapceaaGreat.Nf
open P1
end Go.Proofs.YtjcaiecapapceaaGreat.Nf
namespace Go.Proofs.YtjcaiecapapceaaGreat.Nf
open Go.RowKit P1 Copy CatD
end Go.Proofs.YtjcaiecapapceaaGreat.Nf
namespace Go.Proofs.YtjcaiecapapceaaGreat.Nf
open Go.RowKit P1 Copy CatD
end Go.Proofs.YtjcaiecapapceaaGreat.Nf
namespace Go.Proofs.YtjcaiecapapceaaGreat.Nf
open P1
end Go.Proofs.YtjcaiecapapceaaGreat.Nf
namespace Go.Proofs.YtjcaiecapapceaaGreat.Nf
open P1
end Go.Proofs.YtjcaiecapapceaaGreat.Nf
namespace Go.Proofs.YtjcaiecapapceaaGreat.Nf
open Go.RowKit P1 Copy CatD
end Go.Proofs.YtjcaiecapapceaaGreat.Nf
namespace Go.Proofs.YtjcaiecapapceaaGreat.Nf
open P1 Flat Wid ChP
end Go.Proofs.YtjcaiecapapceaaGreat.Nf
