import Derived.Test.YtjcaiecapapceaaFl
import Derived.Test.YtjcaiecapapceaaOpX
/-
 As DocK, with FlatText and without DocSame: a document that stays where it is while a law goes on: what the functions of chapter 1 come to at it, in whatever world lies above.
-/
set_option linter.unusedVariables false
set_option linter.unusedSimpArgs false
namespace Go.Proofs.Ytjcaiecapapceaa.DocK
open Go.RowKit P1 CntC
theorem fits_of {m : Nat} (hm : m ≤ maxLen) : ∀ f : F, f.size ≤ m → f.Fits
 | .nil, _ => trivial
 | .cons o n t k r, h => by
   have h1 : t.size ≤ maxLen := by simp only [F.size] at h; omega
   have h2 : k.len ≤ maxLen := by have := F.len_le_size k; simp only [F.size] at h; omega
   exact ⟨h1, h2, fits_of hm k (by simp only [F.size] at h; omega), fits_of hm r (by simp only [F.size] at h; omega)⟩
structure Doc0 (w : World) (n : Int) (t : ByteArray) (k : F) (a : Option Addr) (cap : Nat) (fs : List Nat) : Prop where
 sub : SubAt w a k fs
 ok : ∀ c ∈ fs, c < w.heap.size ∧ ∀ o, w.frozen? ⟨c, o, none⟩ = false
 cap_le : k.len ≤ cap
 size : t.size + k.size ≤ 100000
section
variable {w w' : World} {o n : Int} {t : ByteArray} {k : F} {a : Option Addr} {cap : Nat} {fs : List Nat}
theorem Doc0.ext (h : Doc0 w n t k a cap fs) (e : Ext w w') : Doc0 w' n t k a cap fs :=
 ⟨e.sub h.sub (fun c hc => (h.ok c hc).1), fun c hc => ⟨Nat.lt_of_lt_of_le (h.ok c hc).1 e.size, fun o => (e.frozen (h.ok c hc).1).trans ((h.ok c hc).2 o)⟩, h.cap_le, h.size⟩
theorem Doc0.fits (h : Doc0 w n t k a cap fs) : k.Fits := fits_of (m := 100000) (by unfold maxLen; omega) k (by have := h.size; omega)
theorem Doc0.tfit (h : Doc0 w n t k a cap fs) : t.size ≤ maxLen := by have := h.size; unfold maxLen; omega
theorem Doc0.lt (h : Doc0 w n t k a cap fs) : ∀ c ∈ fs, c < w.heap.size := fun c hc => (h.ok c hc).1
theorem Doc0.specDocValid (h : Doc0 w n t k a cap fs) (o : Int) : Calls Try.prog 41 #[.agg #[.int .i64 o, .int .i64 n, .string t, .slice a k.len cap]] w fun e w' => e = .returned (.bool (validD o n t k)) ∧ Ext w w' := SpecC.docValid w o n t k a cap fs h.sub h.lt h.cap_le (by have := h.size; omega) h.fits h.tfit
end
theorem box4 {w w' : World} {b : Nat} {u0 u1 u2 u3 : Value} (h : w.cell? ⟨b, 0, none⟩ = some u0 ∧ w.cell? ⟨b, 1, none⟩ = some u1 ∧ w.cell? ⟨b, 2, none⟩ = some u2 ∧ w.cell? ⟨b, 3, none⟩ = some u3) (hb : b < w.heap.size) (k : Ext w w') :
  w'.cell? ⟨b, 0, none⟩ = some u0 ∧ w'.cell? ⟨b, 1, none⟩ = some u1 ∧ w'.cell? ⟨b, 2, none⟩ = some u2 ∧ w'.cell? ⟨b, 3, none⟩ = some u3 :=
 ⟨(k.cell hb).trans h.1, (k.cell hb).trans h.2.1, (k.cell hb).trans h.2.2.1, (k.cell hb).trans h.2.2.2⟩
end Go.Proofs.Ytjcaiecapapceaa.DocK
namespace Go.Proofs.Ytjcaiecapapceaa.DocO
open Go.RowKit P1 LayN OpenR
structure Doc0 (w : World) (n : Int) (t : ByteArray) (k : F) (a : Option Addr) (cap : Nat) (fs : List Nat) : Prop where
 sub : SubAt w a k fs
 ok : ∀ c ∈ fs, c < w.heap.size ∧ ∀ o, w.frozen? ⟨c, o, none⟩ = false
 cap_le : k.len ≤ cap
 size : t.size + k.size ≤ 100000
section
variable {w w' : World} {o n : Int} {t : ByteArray} {k : F} {a : Option Addr} {cap : Nat} {fs : List Nat}
end
section
variable {w w' : World} {o n : Int} {t : ByteArray} {k : F} {a a' : Option Addr} {cap c c' : Nat} {fs : List Nat} {X X' : List (Int × ByteArray)}
end
end Go.Proofs.Ytjcaiecapapceaa.DocO
namespace Go.Proofs.Ytjcaiecapapceaa.DocO
open Go.RowKit P1 LayN LayC OpenR Cnt CntC
end Go.Proofs.Ytjcaiecapapceaa.DocO
