import Derived.Test.YtjcaiecapapceaaGreatFl
import Derived.Test.YtjcaiecapapceaaGreatOpX
/-
 As DocK, with FlatText and without DocSame: a document that stays where it is while a law goes on: what the functions of chapter 1 come to at it, in whatever world lies above.
-/
set_option linter.unusedVariables false
set_option linter.unusedSimpArgs false
namespace Go.Proofs.YtjcaiecapapceaaGreat.DocK
open Go.RowKit P1 CntC
theorem fits_of {m : Nat} (hm : m ≤ maxLen) : ∀ f : F, f.size ≤ m → f.Fits
 | .nil, _ => trivial
 | .cons o n t k r, h => by
   have h1 : t.size ≤ maxLen := by simp only [F.size] at h; omega
   have h2 : k.len ≤ maxLen := by have := F.len_le_size k; simp only [F.size] at h; omega
   exact ⟨h1, h2, fits_of hm k (by simp only [F.size] at h; omega), fits_of hm r (by simp only [F.size] at h; omega)⟩
structure Doc0 (w : World) (n : Int) (t : ByteArray) (k : F) (a : Option Addr) (cap : Nat) (fs : List Nat) : Prop where
 sub : SubAt w a k fs
 ok : ∀ c ∈ fs, c < w.heap.size ∧ ∀ o, w.frozen? ⟨c, o, none⟩ = false
 cap_le : k.len ≤ cap
 size : t.size + k.size ≤ 100000
section
variable {w w' : World} {o n : Int} {t : ByteArray} {k : F} {a : Option Addr} {cap : Nat} {fs : List Nat}
theorem Doc0.ext (h : Doc0 w n t k a cap fs) (e : Ext w w') : Doc0 w' n t k a cap fs :=
 ⟨e.sub h.sub (fun c hc => (h.ok c hc).1), fun c hc => ⟨Nat.lt_of_lt_of_le (h.ok c hc).1 e.size, fun o => (e.frozen (h.ok c hc).1).trans ((h.ok c hc).2 o)⟩, h.cap_le, h.size⟩
theorem Doc0.fits (h : Doc0 w n t k a cap fs) : k.Fits := fits_of (m := 100000) (by unfold maxLen; omega) k (by have := h.size; omega)
theorem Doc0.tfit (h : Doc0 w n t k a cap fs) : t.size ≤ maxLen := by have := h.size; unfold maxLen; omega
theorem Doc0.lt (h : Doc0 w n t k a cap fs) : ∀ c ∈ fs, c < w.heap.size := fun c hc => (h.ok c hc).1
end
theorem box4 {w w' : World} {b : Nat} {u0 u1 u2 u3 : Value} (h : w.cell? ⟨b, 0, none⟩ = some u0 ∧ w.cell? ⟨b, 1, none⟩ = some u1 ∧ w.cell? ⟨b, 2, none⟩ = some u2 ∧ w.cell? ⟨b, 3, none⟩ = some u3) (hb : b < w.heap.size) (k : Ext w w') :
  w'.cell? ⟨b, 0, none⟩ = some u0 ∧ w'.cell? ⟨b, 1, none⟩ = some u1 ∧ w'.cell? ⟨b, 2, none⟩ = some u2 ∧ w'.cell? ⟨b, 3, none⟩ = some u3 :=
 ⟨(k.cell hb).trans h.1, (k.cell hb).trans h.2.1, (k.cell hb).trans h.2.2.1, (k.cell hb).trans h.2.2.2⟩
theorem box_new (w : World) (T : TypeId) (u0 u1 u2 u3 : Value) : (w.alloc (.cells #[u0, u1, u2, u3] T)).cell? ⟨w.heap.size, 0, none⟩ = some u0 ∧ (w.alloc (.cells #[u0, u1, u2, u3] T)).cell? ⟨w.heap.size, 1, none⟩ = some u1 ∧ (w.alloc (.cells #[u0, u1, u2, u3] T)).cell? ⟨w.heap.size, 2, none⟩ = some u2 ∧ (w.alloc (.cells #[u0, u1, u2, u3] T)).cell? ⟨w.heap.size, 3, none⟩ = some u3 := by
 refine ⟨?_, ?_, ?_, ?_⟩ <;> (rw [World.cell?_alloc_new]; rfl)
end Go.Proofs.YtjcaiecapapceaaGreat.DocK
namespace Go.Proofs.YtjcaiecapapceaaGreat.DocO
open Go.RowKit P1 LayN OpenR
structure Doc0 (w : World) (n : Int) (t : ByteArray) (k : F) (a : Option Addr) (cap : Nat) (fs : List Nat) : Prop where
 sub : SubAt w a k fs
 ok : ∀ c ∈ fs, c < w.heap.size ∧ ∀ o, w.frozen? ⟨c, o, none⟩ = false
 cap_le : k.len ≤ cap
 size : t.size + k.size ≤ 100000
section
variable {w w' : World} {o n : Int} {t : ByteArray} {k : F} {a : Option Addr} {cap : Nat} {fs : List Nat}
end
structure LayIs (w : World) (X : List (Int × ByteArray)) (a : Option Addr) (c : Nat) : Prop where
 sub : ∃ fs, LaySub w a X fs
 cap_le : X.length ≤ c
 good : X = [] ∨ lv X = true
theorem LayIs.ext {w w' : World} {X : List (Int × ByteArray)} {a : Option Addr} {c : Nat} (h : LayIs w X a c) (e : Ext w w') : LayIs w' X a c := by
 obtain ⟨fs, hs⟩ := h.sub
 exact ⟨⟨fs, hs.below hs.lt e⟩, h.cap_le, h.good⟩
theorem LayIs.len {w : World} {X : List (Int × ByteArray)} {a : Option Addr} {c : Nat} (h : LayIs w X a c) : X.length ≤ 200 := by
 rcases h.good with h | h
 ·rw [h]; simp
 ·exact (lv_len h).2
theorem LayIs.fits {w : World} {X : List (Int × ByteArray)} {a : Option Addr} {c : Nat} (h : LayIs w X a c) : L.Fits X ∧ X.length ≤ maxLen := by
 refine ⟨fun r hr => ?_, by have := h.len; unfold maxLen; omega⟩
 rcases h.good with g | g
 ·rw [g] at hr; simp at hr
 ·obtain ⟨i, hi, rfl⟩ := List.getElem_of_mem hr
  have := lv_small g i hi
  unfold maxLen; omega
def Out (w : World) (X : List (Int × ByteArray)) (V : Bool) (e : Ending) (w' : World) : Prop := ∃ (a : Option Addr) (c : Nat), e = .returned (.tuple #[.slice a X.length c, .bool V]) ∧ LayIs w' X a c ∧ Ext w w'
theorem Out.of {w w' : World} {r : List (Int × ByteArray) × Bool} {e : Ending} (h : LayRes w r e w') (g : r.1 = [] ∨ lv r.1 = true) : Out w r.1 r.2 e w' := by
 obtain ⟨a, c, fs, rfl, h1, h2, _, h4⟩ := h
 exact ⟨a, c, rfl, ⟨⟨fs, h2⟩, h1, g⟩, h4⟩
section
variable {w w' : World} {o n : Int} {t : ByteArray} {k : F} {a a' : Option Addr} {cap c c' : Nat} {fs : List Nat} {X X' : List (Int × ByteArray)}
theorem LayIs.same (h : LayIs w X a c) (h' : LayIs w X a' c') : Calls Tryz.prog 14 #[.slice a X.length c, .slice a' X.length c'] w fun e w' => e = .returned (.bool true) ∧ Ext w w' := by
 obtain ⟨f, hs⟩ := h.sub
 obtain ⟨f', hs'⟩ := h'.sub
 have H := LaySm.implLayoutSame X X w a c f hs a' c' f' hs' h.cap_le h'.cap_le h.fits.2 h.fits.2
 rw [decide_eq_true rfl] at H
 exact H
end
end Go.Proofs.YtjcaiecapapceaaGreat.DocO
namespace Go.Proofs.YtjcaiecapapceaaGreat.DocO
open Go.RowKit P1 LayN LayC OpenR Cnt CntC
end Go.Proofs.YtjcaiecapapceaaGreat.DocO
