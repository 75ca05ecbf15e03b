import Derived.Test.YtclifbjnooilmaaGreatPl
/-
 What an exact law's walk carries: documents and layouts in new memory; nothing here speaks of the program.
-/
set_option linter.unusedVariables false
set_option linter.unusedSimpArgs false
namespace Go.Proofs.YtclifbjnooilmaaGreat
open Go.RowKit P1
theorem ex_drew {w : World} {a : Option Addr} {f : F} {fs : List Nat} (h : SubAt w a f fs) : SubAt w.drew a f fs := h.congr (fun _ _ _ => rfl)
structure DLies (w : World) (a : Option Addr) (k : F) (fs : List Nat) (lo hi : Nat) : Prop where
 sub : SubAt w a k fs
 fresh : Fresh lo w fs
 lt : ∀ c ∈ fs, c < hi
theorem DLies.new {w : World} {a : Option Addr} {k : F} {fs : List Nat} {lo : Nat} (h : SubAt w a k fs) (f : Fresh lo w fs) : DLies w a k fs lo w.heap.size := ⟨h, f, f.lt⟩
theorem DLies.below {w w' : World} {a : Option Addr} {k : F} {fs : List Nat} {lo hi : Nat} (h : DLies w a k fs lo hi) (e : Below w.heap.size w w') : DLies w' a k fs lo hi :=
 ⟨h.sub.below h.fresh.lt e, h.fresh.below h.fresh.lt e, h.lt⟩
theorem DLies.own {w : World} {a : Option Addr} {k : F} {fs : List Nat} {lo hi : Nat} (h : DLies w a k fs lo hi) : ∀ c ∈ fs, c < w.heap.size ∧ ∀ o, w.frozen? ⟨c, o, none⟩ = false := fun c hc => ⟨h.fresh.lt c hc, (h.fresh.2 c hc).2.2⟩
structure XDoc (w : World) (b : Nat) (o n : Int) (t : ByteArray) (k : F) (a : Option Addr) (fs : List Nat) (lo hi : Nat) : Prop where
 box : Box w b o n t a k.len k.len
 blt : b < w.heap.size
 lies : DLies w a k fs lo hi
theorem XDoc.new {w : World} {o n : Int} {t : ByteArray} {k : F} {a : Option Addr} {fs : List Nat} {lo hi : Nat} (h : DLies w a k fs lo hi) (T : TypeId) : XDoc (w.alloc (.cells #[.int .i64 o, .int .i64 n, .string t, .slice a k.len k.len] T)) w.heap.size o n t k a fs lo hi :=
 ⟨Box.new w o n t a k.len k.len T, by simp, h.below ((Ext.refl w).alloc _)⟩
theorem XDoc.ext {w w' : World} {b : Nat} {o n : Int} {t : ByteArray} {k : F} {a : Option Addr} {fs : List Nat} {lo hi : Nat} (h : XDoc w b o n t k a fs lo hi) (e : Ext w w') : XDoc w' b o n t k a fs lo hi := by
 obtain ⟨h0, h1, h2, h3⟩ := h.box
 exact ⟨⟨(e.cell h.blt).trans h0, (e.cell h.blt).trans h1, (e.cell h.blt).trans h2, (e.cell h.blt).trans h3⟩, Nat.lt_of_lt_of_le h.blt e.size, h.lies.below e⟩
end Go.Proofs.YtclifbjnooilmaaGreat
