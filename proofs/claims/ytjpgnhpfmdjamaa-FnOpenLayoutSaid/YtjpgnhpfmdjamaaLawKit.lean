/-
  Documents in variables, and what stays of them while a law goes on; nothing here speaks of the program.
-/
import Derived.Test.YtjpgnhpfmdjamaaMarkP
set_option linter.unusedVariables false
set_option linter.unusedSimpArgs false
namespace Go.Proofs.Ytjpgnhpfmdjamaa
open Go.RowKit

/-- all that was there in a is in b as it was -/
def Ext (a b : World) : Prop := Below a.heap.size a b
theorem Ext.refl (a : World) : Ext a a := Below.refl _ _
theorem Ext.size {a b : World} (h : Ext a b) : a.heap.size ≤ b.heap.size := Below.size h
theorem Ext.trans {a b c : World} (h : Ext a b) (k : Ext b c) : Ext a c := Below.trans h (Below.mono k h.size)
theorem Ext.trans' {a b c : World} (h : Ext a b) {q : Nat} (k : b.grownBy c (some q)) (hq : a.heap.size ≤ q) : Ext a c :=
  ⟨k.os.trans h.os, k.tape.trans h.tape, k.output.trans h.output, Nat.le_trans h.size k.size, fun i hi => (k.block i (Nat.lt_of_lt_of_le hi h.size) (fun e => by injection e with e; omega)).trans (h.block i hi)⟩
theorem Ext.alloc {a b : World} (h : Ext a b) (o : Obj) : Ext a (b.alloc o) := Below.alloc h h.size o
theorem Ext.drew {a b : World} (h : Ext a b) : Ext a b.drew := Below.drew h
theorem Ext.of {a b : World} {B : Nat} (h : Below B a b) (hB : a.heap.size ≤ B) : Ext a b := h.mono hB
theorem Ext.cell {a b : World} (h : Ext a b) {c o : Nat} (hc : c < a.heap.size) : b.cell? ⟨c, o, none⟩ = a.cell? ⟨c, o, none⟩ := Below.cell (p := ⟨c, o, none⟩) h hc
theorem Ext.frozen {a b : World} (h : Ext a b) {c o : Nat} (hc : c < a.heap.size) : b.frozen? ⟨c, o, none⟩ = a.frozen? ⟨c, o, none⟩ := Below.frozen (p := ⟨c, o, none⟩) h hc
theorem Ext.sub {w w' : World} (k : Ext w w') {a : Option Addr} {f : F} {fs : List Nat} (h : SubAt w a f fs) (hl : ∀ c ∈ fs, c < w.heap.size) : SubAt w' a f fs := h.below hl k
theorem Ext.fresh {w w' : World} (k : Ext w w') {lo : Nat} {fs : List Nat} (h : Fresh lo w fs) : Fresh lo w' fs := h.below h.lt k

/-- the four cells of a document's variable -/
def Box (w : World) (b : Nat) (o n : Int) (t : ByteArray) (a : Option Addr) (l cap : Nat) : Prop :=
  w.cell? ⟨b, 0, none⟩ = some (.int .i64 o) ∧ w.cell? ⟨b, 1, none⟩ = some (.int .i64 n) ∧ w.cell? ⟨b, 2, none⟩ = some (.string t) ∧ w.cell? ⟨b, 3, none⟩ = some (.slice a l cap)
theorem Box.new (w : World) (o n : Int) (t : ByteArray) (a : Option Addr) (l cap : Nat) (T : TypeId) : Box (w.alloc (.cells #[.int .i64 o, .int .i64 n, .string t, .slice a l cap] T)) w.heap.size o n t a l cap := by
  refine ⟨?_, ?_, ?_, ?_⟩ <;> (rw [World.cell?_alloc_new]; rfl)

/-- a document in the variable at block b; fs: the blocks of its lists -/
structure DocAt (w : World) (b : Nat) (o n : Int) (t : ByteArray) (k : F) (a : Option Addr) (cap : Nat) (fs : List Nat) : Prop where
  box : Box w b o n t a k.len cap
  sub : SubAt w a k fs
  lt : ∀ c ∈ fs, c < w.heap.size
  blt : b < w.heap.size
  cap_le : k.len ≤ cap

section
variable {w w' : World} {b : Nat} {o n : Int} {t : ByteArray} {k : F} {a : Option Addr} {cap : Nat} {fs : List Nat}

theorem DocAt.ext (h : DocAt w b o n t k a cap fs) (e : Ext w w') : DocAt w' b o n t k a cap fs := by
  obtain ⟨h0, h1, h2, h3⟩ := h.box
  exact ⟨⟨(e.cell h.blt).trans h0, (e.cell h.blt).trans h1, (e.cell h.blt).trans h2, (e.cell h.blt).trans h3⟩, e.sub h.sub h.lt, fun c hc => Nat.lt_of_lt_of_le (h.lt c hc) e.size, Nat.lt_of_lt_of_le h.blt e.size, h.cap_le⟩
theorem DocAt.new (hs : SubAt w a k fs) (hl : ∀ c ∈ fs, c < w.heap.size) (hc : k.len ≤ cap) (o n : Int) (t : ByteArray) (T : TypeId) : DocAt (w.alloc (.cells #[.int .i64 o, .int .i64 n, .string t, .slice a k.len cap] T)) w.heap.size o n t k a cap fs :=
  ⟨Box.new w o n t a k.len cap T, Ext.sub ((Ext.refl w).alloc _) hs hl, fun c hc => by have := hl c hc; simp; omega, by simp, hc⟩
theorem DocAt.only (h : DocAt w b o n t k a cap fs) {gs : List Nat} (e : Only gs w w') (hb : b ∉ gs) (hf : ∀ c ∈ fs, c ∉ gs) : DocAt w' b o n t k a cap fs := by
  obtain ⟨h0, h1, h2, h3⟩ := h.box
  exact ⟨⟨(e.cell h.blt hb _).trans h0, (e.cell h.blt hb _).trans h1, (e.cell h.blt hb _).trans h2, (e.cell h.blt hb _).trans h3⟩, e.sub h.sub (fun c hc => ⟨h.lt c hc, hf c hc⟩), fun c hc => Nat.lt_of_lt_of_le (h.lt c hc) e.size, Nat.lt_of_lt_of_le h.blt e.size, h.cap_le⟩
/-- .. its lists have been marked -/
theorem DocAt.marked (h : DocAt w b o n t k a cap fs) (e : Only fs w w') (hb : b ∉ fs) {m : Nat} (hs : SubAt w' a (k.mk m) fs) : DocAt w' b o n t (k.mk m) a cap fs := by
  obtain ⟨h0, h1, h2, h3⟩ := h.box
  exact ⟨⟨(e.cell h.blt hb _).trans h0, (e.cell h.blt hb _).trans h1, (e.cell h.blt hb _).trans h2, by rw [F.len_mk]; exact (e.cell h.blt hb _).trans h3⟩, hs, fun c hc => Nat.lt_of_lt_of_le (h.lt c hc) e.size, Nat.lt_of_lt_of_le h.blt e.size, by rw [F.len_mk]; exact h.cap_le⟩
end

/-- a variable that was there already, and is stored to -/
theorem DocAt.stored {W : World} {b : Nat} {o n : Int} {t : ByteArray} {k : F} {a : Option Addr} {cap : Nat} {fs : List Nat} (hs : SubAt W a k fs) (hl : ∀ c ∈ fs, c < W.heap.size) (hc : k.len ≤ cap) (hb : b ∉ fs) (hbw : b < W.heap.size) {u0 u1 u2 u3 : Value}
    (h0 : W.cell? ⟨b, 0, none⟩ = some u0) (h1 : W.cell? ⟨b, 1, none⟩ = some u1) (h2 : W.cell? ⟨b, 2, none⟩ = some u2) (h3 : W.cell? ⟨b, 3, none⟩ = some u3) :
    DocAt ((((W.setCell ⟨b, 0, none⟩ (.int .i64 o)).setCell ⟨b, 1, none⟩ (.int .i64 n)).setCell ⟨b, 2, none⟩ (.string t)).setCell ⟨b, 3, none⟩ (.slice a k.len cap)) b o n t k a cap fs := by
  have hne : ∀ c ∈ fs, ∀ x, ((((W.setCell ⟨b, 0, none⟩ (.int .i64 o)).setCell ⟨b, 1, none⟩ (.int .i64 n)).setCell ⟨b, 2, none⟩ (.string t)).setCell ⟨b, 3, none⟩ (.slice a k.len cap)).cell? ⟨c, x, none⟩ = W.cell? ⟨c, x, none⟩ := by
    intro c hc x
    rw [World.cell?_setCell_other _ _ _ _ (fun e => hb (by injection e with e1; first | (rw [e1]; exact hc) | (rw [← e1]; exact hc))), World.cell?_setCell_other _ _ _ _ (fun e => hb (by injection e with e1; first | (rw [e1]; exact hc) | (rw [← e1]; exact hc))), World.cell?_setCell_other _ _ _ _ (fun e => hb (by injection e with e1; first | (rw [e1]; exact hc) | (rw [← e1]; exact hc))), World.cell?_setCell_other _ _ _ _ (fun e => hb (by injection e with e1; first | (rw [e1]; exact hc) | (rw [← e1]; exact hc)))]
  refine ⟨⟨?_, ?_, ?_, ?_⟩, hs.congr hne, fun c hc => by simpa using hl c hc, by simpa using hbw, hc⟩
  · rw [World.cell?_setCell_other _ _ _ _ (by simp), World.cell?_setCell_other _ _ _ _ (by simp), World.cell?_setCell_other _ _ _ _ (by simp)]
    exact World.cell?_setCell_same _ _ _ h0
  · rw [World.cell?_setCell_other _ _ _ _ (by simp), World.cell?_setCell_other _ _ _ _ (by simp)]
    exact World.cell?_setCell_same _ _ _ (by rw [World.cell?_setCell_other _ _ _ _ (by simp)]; exact h1)
  · rw [World.cell?_setCell_other _ _ _ _ (by simp)]
    exact World.cell?_setCell_same _ _ _ (by rw [World.cell?_setCell_other _ _ _ _ (by simp), World.cell?_setCell_other _ _ _ _ (by simp)]; exact h2)
  · exact World.cell?_setCell_same _ _ _ (by rw [World.cell?_setCell_other _ _ _ _ (by simp), World.cell?_setCell_other _ _ _ _ (by simp), World.cell?_setCell_other _ _ _ _ (by simp)]; exact h3)
theorem Ext.setNew {a b : World} (h : Ext a b) {p : Addr} (hp : a.heap.size ≤ p.block) (u : Value) : Ext a (b.setCell p u) := Below.setCell h hp u

/-- a variable that was laid, and is not yet stored to -/
def ZBox (w : World) (b : Nat) : Prop := (w.cell? ⟨b, 0, none⟩ = some (.int .i64 0) ∧ w.cell? ⟨b, 1, none⟩ = some (.int .i64 0) ∧ w.cell? ⟨b, 2, none⟩ = some (.string ⟨#[]⟩) ∧ w.cell? ⟨b, 3, none⟩ = some (.slice none 0 0)) ∧
  (w.frozen? ⟨b, 0, none⟩ = false ∧ w.frozen? ⟨b, 1, none⟩ = false ∧ w.frozen? ⟨b, 2, none⟩ = false ∧ w.frozen? ⟨b, 3, none⟩ = false) ∧ b < w.heap.size
theorem ZBox.ext {w w' : World} {b : Nat} (h : ZBox w b) (k : Ext w w') : ZBox w' b := by
  obtain ⟨⟨h0, h1, h2, h3⟩, ⟨z0, z1, z2, z3⟩, hb⟩ := h
  exact ⟨⟨(k.cell hb).trans h0, (k.cell hb).trans h1, (k.cell hb).trans h2, (k.cell hb).trans h3⟩, ⟨(k.frozen hb).trans z0, (k.frozen hb).trans z1, (k.frozen hb).trans z2, (k.frozen hb).trans z3⟩, Nat.lt_of_lt_of_le hb k.size⟩
theorem ZBox.alloc (W : World) (T : TypeId) : ZBox (W.alloc (.cells #[.int .i64 0, .int .i64 0, .string ⟨#[]⟩, .slice none 0 0] T)) W.heap.size := by
  refine ⟨⟨?_, ?_, ?_, ?_⟩, ⟨World.frozen?_alloc_new _ _ _ _, World.frozen?_alloc_new _ _ _ _, World.frozen?_alloc_new _ _ _ _, World.frozen?_alloc_new _ _ _ _⟩, by simp⟩ <;> (rw [World.cell?_alloc_new]; rfl)
theorem ZBox.new {W w3 : World} {T : TypeId} (h : Below (W.alloc (.cells #[.int .i64 0, .int .i64 0, .string ⟨#[]⟩, .slice none 0 0] T)).heap.size (W.alloc (.cells #[.int .i64 0, .int .i64 0, .string ⟨#[]⟩, .slice none 0 0] T)) w3) : ZBox w3 W.heap.size := (ZBox.alloc W T).ext h

/-- the cells of two variables -/
theorem two_boxes {w : World} {b b' : Nat} {o n o' n' : Int} {t t' : ByteArray} {k k' : F} {a a' : Option Addr} {cap cap' : Nat} {fs fs' : List Nat} (h : DocAt w b o n t k a cap fs) (h' : DocAt w b' o' n' t' k' a' cap' fs') :
    w.cell? ⟨b, 0, none⟩ = some (.int .i64 o) ∧ w.cell? ⟨b, 1, none⟩ = some (.int .i64 n) ∧ w.cell? ⟨b, 2, none⟩ = some (.string t) ∧ w.cell? ⟨b, 3, none⟩ = some (.slice a k.len cap) ∧
    w.cell? ⟨b', 0, none⟩ = some (.int .i64 o') ∧ w.cell? ⟨b', 1, none⟩ = some (.int .i64 n') ∧ w.cell? ⟨b', 2, none⟩ = some (.string t') ∧ w.cell? ⟨b', 3, none⟩ = some (.slice a' k'.len cap') :=
  ⟨h.box.1, h.box.2.1, h.box.2.2.1, h.box.2.2.2, h'.box.1, h'.box.2.1, h'.box.2.2.1, h'.box.2.2.2⟩

/-- blocks in an interval -/
def In (lo hi : Nat) (fs : List Nat) : Prop := ∀ c ∈ fs, lo ≤ c ∧ c < hi
theorem In.of {lo : Nat} {w : World} {fs : List Nat} (h : Fresh lo w fs) : In lo w.heap.size fs := fun c hc => ⟨(h.2 c hc).1, (h.2 c hc).2.1⟩
theorem In.apart {lo hi lo' hi' : Nat} {fs gs : List Nat} (h : In lo hi fs) (k : In lo' hi' gs) (hh : hi ≤ lo' ∨ hi' ≤ lo) : ∀ c ∈ fs, c ∉ gs := fun c hc hg => by
  have h1 := h c hc; have h2 := k c hg; omega
theorem In.out {lo hi b : Nat} {fs : List Nat} (h : In lo hi fs) (hb : b < lo ∨ hi ≤ b) : b ∉ fs := fun hm => by have := h b hm; omega

theorem Ext.only {w a b : World} {fs : List Nat} (h : Ext w a) (k : Only fs a b) (hs : ∀ c ∈ fs, w.heap.size ≤ c) : Ext w b := Below.trans h (k.below h.size hs)

/-- a document in a new variable, in new memory -/
def NewAt (w wx : World) (b : Nat) (o n : Int) (t : ByteArray) (k : F) (a : Option Addr) (cap : Nat) (fs : List Nat) : Prop := DocAt wx b o n t k a cap fs ∧ Ext w wx ∧ w.heap.size ≤ b ∧ In w.heap.size wx.heap.size fs ∧ b ∉ fs

section
variable {w2 w5 : World} {B b : Nat} {o n : Int} {t : ByteArray} {k : F} {a : Option Addr} {cap : Nat} {fs : List Nat}
theorem NewAt.last (hs : SubAt w5 a k fs) (hf : Fresh B w5 fs) (hB : w2.heap.size ≤ B) (hc : k.len ≤ cap) (q : Ext w2 w5) (o n : Int) (t : ByteArray) (T : TypeId) : NewAt w2 (w5.alloc (.cells #[.int .i64 o, .int .i64 n, .string t, .slice a k.len cap] T)) w5.heap.size o n t k a cap fs :=
  ⟨DocAt.new hs hf.lt hc o n t T, q.alloc _, q.size, fun c hc => ⟨Nat.le_trans hB (hf.2 c hc).1, by have := hf.lt c hc; simp; omega⟩, fun hm => by have := hf.lt _ hm; omega⟩
theorem NewAt.stored (hs : SubAt w5 a k fs) (hf : Fresh B w5 fs) (hB : w2.heap.size ≤ B) (hc : k.len ≤ cap) (q : Ext w2 w5) (hb : b < B) (hb2 : w2.heap.size ≤ b) (Z : ZBox w5 b) (o n : Int) (t : ByteArray) :
    NewAt w2 ((((w5.setCell ⟨b, 0, none⟩ (.int .i64 o)).setCell ⟨b, 1, none⟩ (.int .i64 n)).setCell ⟨b, 2, none⟩ (.string t)).setCell ⟨b, 3, none⟩ (.slice a k.len cap)) b o n t k a cap fs :=
  ⟨DocAt.stored hs hf.lt hc (fun hm => by have := (hf.2 b hm).1; omega) Z.2.2 Z.1.1 Z.1.2.1 Z.1.2.2.1 Z.1.2.2.2, (((q.setNew hb2 _).setNew hb2 _).setNew hb2 _).setNew hb2 _, hb2, fun c hc => ⟨Nat.le_trans hB (hf.2 c hc).1, by simpa using hf.lt c hc⟩, fun hm => by have := (hf.2 b hm).1; omega⟩
end

end Go.Proofs.Ytjpgnhpfmdjamaa
