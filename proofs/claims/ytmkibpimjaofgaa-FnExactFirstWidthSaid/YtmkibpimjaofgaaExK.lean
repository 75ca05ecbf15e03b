import Derived.Test.YtmkibpimjaofgaaPl
/-
  What an exact law's walk carries: documents and layouts in new memory; nothing here speaks of the program.
-/
set_option linter.unusedVariables false
set_option linter.unusedSimpArgs false
namespace Go.Proofs.Ytmkibpimjaofgaa
open Go.RowKit P1

theorem ex_fits : ∀ f : F, f.size ≤ 1048576 → f.Fits
  | .nil, _ => trivial
  | .cons o n t k r, h => by
    have h1 : t.size ≤ maxLen := by simp only [F.size] at h; unfold maxLen; omega
    have h2 : k.len ≤ maxLen := by have := F.len_le_size k; simp only [F.size] at h; unfold maxLen; omega
    exact ⟨h1, h2, ex_fits k (by simp only [F.size] at h; omega), ex_fits r (by simp only [F.size] at h; omega)⟩
theorem ex_drew {w : World} {a : Option Addr} {f : F} {fs : List Nat} (h : SubAt w a f fs) : SubAt w.drew a f fs := h.congr (fun _ _ _ => rfl)

/-- lists of documents that a walk carries: where they lie, and among which blocks -/
structure DLies (w : World) (a : Option Addr) (k : F) (fs : List Nat) (lo hi : Nat) : Prop where
  sub : SubAt w a k fs
  fresh : Fresh lo w fs
  lt : ∀ c ∈ fs, c < hi
theorem DLies.new {w : World} {a : Option Addr} {k : F} {fs : List Nat} {lo : Nat} (h : SubAt w a k fs) (f : Fresh lo w fs) : DLies w a k fs lo w.heap.size := ⟨h, f, f.lt⟩
theorem DLies.below {w w' : World} {a : Option Addr} {k : F} {fs : List Nat} {lo hi : Nat} (h : DLies w a k fs lo hi) (e : Below w.heap.size w w') : DLies w' a k fs lo hi :=
  ⟨h.sub.below h.fresh.lt e, h.fresh.below h.fresh.lt e, h.lt⟩
theorem DLies.own {w : World} {a : Option Addr} {k : F} {fs : List Nat} {lo hi : Nat} (h : DLies w a k fs lo hi) : ∀ c ∈ fs, c < w.heap.size ∧ ∀ o, w.frozen? ⟨c, o, none⟩ = false := fun c hc => ⟨h.fresh.lt c hc, (h.fresh.2 c hc).2.2⟩
theorem DLies.past {gs : List Nat} {w w' : World} {a : Option Addr} {k : F} {fs : List Nat} {lo hi lo' hi' : Nat} (h : DLies w a k fs lo hi) (e : Only gs w w') (g : In lo' hi' gs) (hh : hi ≤ lo' ∨ hi' ≤ lo) : DLies w' a k fs lo hi :=
  ⟨e.sub h.sub (fun c hc => ⟨h.fresh.lt c hc, fun hg => by have h1 := h.lt c hc; have h2 := (h.fresh.2 c hc).1; have h3 := g c hg; omega⟩), e.fresh h.fresh, h.lt⟩
theorem DLies.inn {w : World} {a : Option Addr} {k : F} {fs : List Nat} {lo hi : Nat} (h : DLies w a k fs lo hi) : In lo hi fs := fun c hc => ⟨(h.fresh.2 c hc).1, h.lt c hc⟩

/-- a document in a variable of the walk's own -/
structure XDoc (w : World) (b : Nat) (o n : Int) (t : ByteArray) (k : F) (a : Option Addr) (fs : List Nat) (lo hi : Nat) : Prop where
  box : Box w b o n t a k.len k.len
  blt : b < w.heap.size
  lies : DLies w a k fs lo hi
theorem XDoc.new {w : World} {o n : Int} {t : ByteArray} {k : F} {a : Option Addr} {fs : List Nat} {lo hi : Nat} (h : DLies w a k fs lo hi) (T : TypeId) : XDoc (w.alloc (.cells #[.int .i64 o, .int .i64 n, .string t, .slice a k.len k.len] T)) w.heap.size o n t k a fs lo hi :=
  ⟨Box.new w o n t a k.len k.len T, by simp, h.below ((Ext.refl w).alloc _)⟩
theorem XDoc.ext {w w' : World} {b : Nat} {o n : Int} {t : ByteArray} {k : F} {a : Option Addr} {fs : List Nat} {lo hi : Nat} (h : XDoc w b o n t k a fs lo hi) (e : Ext w w') : XDoc w' b o n t k a fs lo hi := by
  obtain ⟨h0, h1, h2, h3⟩ := h.box
  exact ⟨⟨(e.cell h.blt).trans h0, (e.cell h.blt).trans h1, (e.cell h.blt).trans h2, (e.cell h.blt).trans h3⟩, Nat.lt_of_lt_of_le h.blt e.size, h.lies.below e⟩
theorem XDoc.past {gs : List Nat} {w w' : World} {b : Nat} {o n : Int} {t : ByteArray} {k : F} {a : Option Addr} {fs : List Nat} {lo hi lo' hi' : Nat} (h : XDoc w b o n t k a fs lo hi) (e : Only gs w w') (g : In lo' hi' gs) (hh : hi ≤ lo' ∨ hi' ≤ lo) (hb : b < lo' ∨ hi' ≤ b) : XDoc w' b o n t k a fs lo hi := by
  obtain ⟨h0, h1, h2, h3⟩ := h.box
  have hm : b ∉ gs := g.out hb
  exact ⟨⟨(e.cell h.blt hm _).trans h0, (e.cell h.blt hm _).trans h1, (e.cell h.blt hm _).trans h2, (e.cell h.blt hm _).trans h3⟩, Nat.lt_of_lt_of_le h.blt e.size, h.lies.past e g hh⟩

/-- the argument in its variable: past the marks in newer memory -/
theorem DocAt.past {w0 w w' : World} {b : Nat} {o n : Int} {t : ByteArray} {k : F} {a : Option Addr} {cap : Nat} {fs gs : List Nat} {lo hi : Nat} (h : DocAt w b o n t k a cap fs) (e : Only gs w w') (g : In lo hi gs) (hb : b < lo) (hf : ∀ c ∈ fs, c < w0.heap.size) (h0 : w0.heap.size ≤ lo) : DocAt w' b o n t k a cap fs :=
  h.only e (g.out (.inl hb)) (fun c hc hm => by have := g c hm; have := hf c hc; omega)
theorem Ext.past {w a b : World} {gs : List Nat} {lo hi : Nat} (h : Ext w a) (k : Only gs a b) (g : In lo hi gs) (h0 : w.heap.size ≤ lo) : Ext w b := h.only k (fun c hc => Nat.le_trans h0 (g c hc).1)

end Go.Proofs.Ytmkibpimjaofgaa

