/-
  What reading a document comes to, apart from the program's own reading.
-/
import Derived.Test.YtjpgnhpfmdjamaaCopyB
import Derived.Test.YtjpgnhpfmdjamaaSpecC
import Derived.Test.YtjpgnhpfmdjamaaDraw2
import Derived.Test.YtjpgnhpfmdjamaaParseP
set_option linter.unusedVariables false
set_option linter.unusedSimpArgs false
namespace Go.Proofs.Ytjpgnhpfmdjamaa.CatD
open Go.RowKit P1 Copy

/-- the zero document -/
def zeroD : D := (0, 0, ⟨#[]⟩, .nil)

/-- a document in new memory and a bool -/
def DocRes (w : World) (r : Bool × D) (e : Ending) (w' : World) : Prop := ∃ (a : Option Addr) (cap : Nat) (fs : List Nat), e = .returned (.tuple #[.agg #[.int .i64 r.2.1, .int .i64 r.2.2.1, .string r.2.2.2.1, .slice a r.2.2.2.2.len cap], .bool r.1]) ∧ r.2.2.2.2.len ≤ cap ∧ SubAt w' a r.2.2.2.2 fs ∧ Fresh w.heap.size w' fs ∧ Below w.heap.size w w'

theorem fits_of_size {m : Nat} (hm : m ≤ maxLen) : ∀ f : F, f.size ≤ m → f.Fits := by
  intro f
  induction f with
  | nil => intro _; trivial
  | cons o n t k r ihk ihr =>
    intro h
    simp only [F.size] at h
    have := F.len_le_size k
    exact ⟨by omega, by omega, ihk (by omega), ihr (by omega)⟩


end Go.Proofs.Ytjpgnhpfmdjamaa.CatD

namespace Go.Proofs.Ytjpgnhpfmdjamaa.ReadDocs
open Go.RowKit P1

theorem strSize (l : List UInt8) : (⟨l.toArray⟩ : ByteArray).size = l.length := by show l.toArray.size = _; simp


end Go.Proofs.Ytjpgnhpfmdjamaa.ReadDocs

namespace Go.Proofs.Ytjpgnhpfmdjamaa.Read2
open Go.RowKit P1

/-- what was read so far, in front of what is read next -/
def contK (p : F) : Option (F × List UInt8) → Option (F × List UInt8)
  | none => none
  | some (f, r) => some (p.app f, r)

theorem rdK_step_none {g : List UInt8 → Option (D × List UInt8)} {p : F} {n : Nat} {l : List UInt8} (h : g l = none) : contK p (rdK g (n + 1) l) = none := by rw [rdK, h]; rfl
theorem rdK_step_some {g : List UInt8 → Option (D × List UInt8)} {p : F} {n : Nat} {l r : List UInt8} {o m : Int} {t : ByteArray} {k : F} (h : g l = some ((o, m, t, k), r)) : contK p (rdK g (n + 1) l) = contK (p.app (.cons o m t k .nil)) (rdK g n r) := by
  rw [rdK, h]
  simp only
  cases rdK g n r with
  | none => rfl
  | some q => obtain ⟨f, r'⟩ := q; simp only [contK, F.app_assoc]; rfl


end Go.Proofs.Ytjpgnhpfmdjamaa.Read2
