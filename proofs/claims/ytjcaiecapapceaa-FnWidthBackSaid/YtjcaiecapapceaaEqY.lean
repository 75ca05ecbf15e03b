import Derived.Test.YtjcaiecapapceaaOpX
/-
 What the walks over two documents share: a document in memory, the variables of two documents.
-/
set_option linter.unusedVariables false
set_option linter.unusedSimpArgs false
namespace Go.Proofs.Ytjcaiecapapceaa.Eqd
open Go.RowKit P1
structure DocIn (w : World) (t : ByteArray) (k : F) (a : Option Addr) (cap : Nat) (fs : List Nat) : Prop where
 sub : SubAt w a k fs
 ok : ∀ c ∈ fs, c < w.heap.size ∧ ∀ o, w.frozen? ⟨c, o, none⟩ = false
 cap_le : k.len ≤ cap
 size : t.size + k.size ≤ 2000000
 fits : k.Fits
 tfit : t.size ≤ maxLen
theorem DocIn.ext {w w' : World} {t : ByteArray} {k : F} {a : Option Addr} {cap : Nat} {fs : List Nat} (h : DocIn w t k a cap fs) (e : Ext w w') : DocIn w' t k a cap fs :=
 ⟨e.sub h.sub (fun c hc => (h.ok c hc).1), fun c hc => ⟨Nat.lt_of_lt_of_le (h.ok c hc).1 e.size, fun o => (e.frozen (h.ok c hc).1).trans ((h.ok c hc).2 o)⟩, h.cap_le, h.size, h.fits, h.tfit⟩
theorem DocIn.lt {w : World} {t : ByteArray} {k : F} {a : Option Addr} {cap : Nat} {fs : List Nat} (h : DocIn w t k a cap fs) : ∀ c ∈ fs, c < w.heap.size := fun c hc => (h.ok c hc).1
abbrev Fr (b : Nat) (u0 u1 u2 u3 : Value) (w : World) : Prop := w.cell? ⟨b, 0, none⟩ = some u0 ∧ w.cell? ⟨b, 1, none⟩ = some u1 ∧ w.cell? ⟨b, 2, none⟩ = some u2 ∧ w.cell? ⟨b, 3, none⟩ = some u3
theorem Fr.below {b B : Nat} {u0 u1 u2 u3 : Value} {W w' : World} (h : Fr b u0 u1 u2 u3 W) (k : Below B W w') (hb : b < B) : Fr b u0 u1 u2 u3 w' :=
 ⟨(k.cell (p := ⟨_, _, _⟩) hb).trans h.1, (k.cell (p := ⟨_, _, _⟩) hb).trans h.2.1, (k.cell (p := ⟨_, _, _⟩) hb).trans h.2.2.1, (k.cell (p := ⟨_, _, _⟩) hb).trans h.2.2.2⟩
theorem Fr.new (w : World) (u0 u1 u2 u3 : Value) (T : TypeId) : Fr w.heap.size u0 u1 u2 u3 (w.alloc (.cells #[u0, u1, u2, u3] T)) := by
 refine ⟨?_, ?_, ?_, ?_⟩ <;> (rw [World.cell?_alloc_new]; rfl)
theorem two_new (w : World) (u0 u1 u2 u3 v0 v1 v2 v3 : Value) (T : TypeId) {w' : World} (k : Ext ((w.alloc (.cells #[u0, u1, u2, u3] T)).alloc (.cells #[v0, v1, v2, v3] T)) w') : Fr w.heap.size u0 u1 u2 u3 w' ∧ Fr (w.heap.size + 1) v0 v1 v2 v3 w' ∧ Ext w w' := by
 have e : (w.alloc (.cells #[u0, u1, u2, u3] T)).heap.size = w.heap.size + 1 := by simp
 have h1 := Fr.new w u0 u1 u2 u3 T
 have h2 := Fr.new (w.alloc (.cells #[u0, u1, u2, u3] T)) v0 v1 v2 v3 T
 rw [e] at h2
 exact ⟨(h1.below ((Below.refl _ _).alloc (Nat.le_refl _) _) (by simp)).below k (by simp; omega), h2.below k (by simp), Ext.trans (((Ext.refl w).alloc _).alloc _) k⟩
theorem eight {w : World} {b c : Nat} {u0 u1 u2 u3 v0 v1 v2 v3 : Value} {p : Prop} (h : Fr b u0 u1 u2 u3 w ∧ Fr c v0 v1 v2 v3 w ∧ p) : w.cell? ⟨b, 0, none⟩ = some u0 ∧ w.cell? ⟨b, 1, none⟩ = some u1 ∧ w.cell? ⟨b, 2, none⟩ = some u2 ∧ w.cell? ⟨b, 3, none⟩ = some u3 ∧ w.cell? ⟨c, 0, none⟩ = some v0 ∧ w.cell? ⟨c, 1, none⟩ = some v1 ∧ w.cell? ⟨c, 2, none⟩ = some v2 ∧ w.cell? ⟨c, 3, none⟩ = some v3 :=
 ⟨h.1.1, h.1.2.1, h.1.2.2.1, h.1.2.2.2, h.2.1.1, h.2.1.2.1, h.2.1.2.2.1, h.2.1.2.2.2⟩
end Go.Proofs.Ytjcaiecapapceaa.Eqd
namespace Go.Proofs.Ytjcaiecapapceaa.Eqd
open Go.RowKit P1 LayL LayV LayM LayN OpenR
end Go.Proofs.Ytjcaiecapapceaa.Eqd
