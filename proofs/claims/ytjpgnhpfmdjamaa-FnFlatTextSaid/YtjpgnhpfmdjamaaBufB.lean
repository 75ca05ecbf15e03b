/-
  What the methods of strings.Builder do, by the bytes that it holds (over a shelf laid by shelf4.py).
-/
import Derived.Test.YtjpgnhpfmdjamaaShelf2
import Derived.Test.YtjpgnhpfmdjamaaPure1
import Derived.Lib.OthersKept
set_option linter.unusedVariables false
set_option linter.unusedSimpArgs false
namespace Go.Proofs.Ytjpgnhpfmdjamaa.BufB
open Go.RowKit P1

/-- the builder at block b holds these bytes; what it writes lies behind block B -/
def Holds (B b : Nat) (l : List UInt8) (w : World) : Prop := Lib.IsBuilderF 94 5 B b (Lib.byteCells l) w
theorem Holds.new (w : World) : Holds w.heap.size w.heap.size [] (w.alloc (.cells #[.pointer none, .slice none 0 0] 94)) := Lib.IsBuilderF.of (Lib.fresh_isBuilder _ _ w)
theorem Holds.alloc {B b : Nat} {l : List UInt8} {w : World} (h : Holds B b l w) (o : Obj) : Holds B b l (w.alloc o) := Lib.IsBuilderF.alloc h o
/-- what a write leaves: the bytes, what lies ahead of the builder, and every block that holds no bytes -/
def Wrote (B b : Nat) (l : List UInt8) (w w' : World) : Prop := Holds B b l w' ∧ Below B w w' ∧ Lib.OthersKept 5 (some b) w w'
theorem Wrote.refl {B b : Nat} {l : List UInt8} {w : World} (h : Holds B b l w) : Wrote B b l w w := ⟨h, Below.refl _ _, Lib.OthersKept.refl _ _ _⟩
theorem Wrote.trans {B b : Nat} {l l' : List UInt8} {w w1 w2 : World} (h : Wrote B b l w w1) (k : Wrote B b l' w1 w2) : Wrote B b l' w w2 := ⟨k.1, h.2.1.trans k.2.1, h.2.2.trans k.2.2⟩

theorem writeByte (B b : Nat) (l : List UInt8) (c : UInt8) (v : Int) (hv : Lib.byteCells [c] = [.int .u8 v]) (w : World) (h : Holds B b l w) (hl : l.length ≤ 100000000) (hB : B ≤ w.heap.size) :
    Calls Try.prog 100 #[.pointer (some ⟨b, 0, none⟩), .int .u8 v] w fun e w' => e = .returned .nilIface ∧ Wrote B b (l ++ [c]) w w' := by
  refine (Any.Builder_WriteByte_k Try.layB167 Try.extraB B b (Lib.byteCells l) v w h (by rw [Lib.byteCells_length]; omega) hB).mono ?_
  rintro e w' ⟨rfl, h1, h2, h3⟩
  exact ⟨rfl, by unfold Holds; rw [Lib.byteCells_append, hv]; exact Or.inr h1, h2, h3⟩
theorem writeString (B b : Nat) (l : List UInt8) (s : ByteArray) (w : World) (h : Holds B b l w) (hl : l.length ≤ 100000000) (hs : s.size ≤ 100000000) (hB : B ≤ w.heap.size) :
    Calls Try.prog 101 #[.pointer (some ⟨b, 0, none⟩), .string s] w fun e w' => e = .returned (.tuple #[.int .i64 s.size, .nilIface]) ∧ Wrote B b (l ++ s.data.toList) w w' := by
  refine (Any.Builder_WriteString_k Try.layB166 Try.extraB B b (Lib.byteCells l) s w h (by rw [Lib.byteCells_length]; omega) hB).mono ?_
  rintro e w' ⟨rfl, h1, h2, h3⟩
  exact ⟨rfl, by unfold Holds; rw [Lib.byteCells_append]; exact Or.inr h1, h2, h3⟩
theorem string (B b : Nat) (l : List UInt8) (w : World) (h : Holds B b l w) (hB : B ≤ w.heap.size) :
    Calls Try.prog 77 #[.pointer (some ⟨b, 0, none⟩)] w fun e w' => e = .returned (.string ⟨l.toArray⟩) ∧ Wrote B b l w w' :=
  Any.Builder_String_any_k Try.layB169 Try.extraB B b l w h hB
/-- a block that holds no bytes and is not the builder's stands -/
theorem Wrote.cell {B b : Nat} {l : List UInt8} {w w' : World} (h : Wrote B b l w w') {k o : Nat} {c : Array Value} {T : TypeId} {fz : Nat × Nat} (hk : w.heap[k]? = some (.cells c T fz)) (hT : T ≠ 5) (hb : k ≠ b) : w'.cell? ⟨k, o, none⟩ = w.cell? ⟨k, o, none⟩ :=
  World.cell?_of_block (w := w) ((h.2.2 k _ hk (by simpa using hb) (fun c' fz' e => hT (by cases e; rfl))).trans hk.symm)

theorem at_below {T e : TypeId} {B b : Nat} {p : Value} {bs : List Value} {w w' : World} (h : Lib.BuilderAtF T e B b p bs w) (k : Below w.heap.size w w') : Lib.BuilderAtF T e B b p bs w' := by
  obtain ⟨hB, v, hb, ⟨hx, ho⟩, hne⟩ := h
  have lt : ∀ {j : Nat} {o : Obj}, w.heap[j]? = some o → w'.heap[j]? = some o := fun {j o} e => (k.block j (Array.getElem?_eq_some_iff.1 e).1).trans e
  refine ⟨hB, v, lt hb, ⟨hx, ?_⟩, hne⟩
  rcases ho with h0 | ⟨g, cap, cur, fz, h1, h2, h3, h4⟩
  · exact .inl h0
  · exact .inr ⟨g, cap, cur, fz, h1, h2, lt h3, h4⟩
theorem Holds.below {B b : Nat} {l : List UInt8} {w w' : World} (h : Holds B b l w) (k : Below w.heap.size w w') : Holds B b l w' :=
  Or.elim h (fun x => Or.inl (at_below x k)) (fun x => Or.inr (at_below x k))
theorem Wrote.below {B b : Nat} {l : List UInt8} {w w1 w2 : World} (h : Wrote B b l w w1) (hB : B ≤ w.heap.size) (k : Below w1.heap.size w1 w2) : Wrote B b l w w2 :=
  ⟨h.1.below k, h.2.1.trans (k.mono (Nat.le_trans hB h.2.1.size)), fun i o hi hb ho => by
    have h1 := h.2.2 i o hi hb ho
    exact (k.block i (Array.getElem?_eq_some_iff.1 h1).1).trans h1⟩
theorem Wrote.alloc {B b : Nat} {l : List UInt8} {w : World} (h : Holds B b l w) (hB : B ≤ w.heap.size) (o : Obj) : Wrote B b l w (w.alloc o) :=
  (Wrote.refl h).below hB ((Below.refl _ _).alloc (Nat.le_refl _) _)

theorem heap_new (w : World) (c : Array Value) (T : TypeId) : (w.alloc (.cells c T)).heap[w.heap.size]? = some (.cells c T (0, 0)) := by show (w.heap.push _)[w.heap.size]? = _; simp


end Go.Proofs.Ytjpgnhpfmdjamaa.BufB
