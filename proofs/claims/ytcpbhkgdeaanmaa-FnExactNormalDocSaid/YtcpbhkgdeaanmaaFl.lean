import Derived.Test.YtcpbhkgdeaanmaaShelf2
import Derived.Test.YtcpbhkgdeaanmaaPl
import Derived.Lib.OthersKept
import Derived.Test.YtcpbhkgdeaanmaaCntC
/-
  What the methods of strings.Builder do, by the bytes that it holds (over a shelf laid by shelf4.py).
-/
set_option linter.unusedVariables false
set_option linter.unusedSimpArgs false
namespace Go.Proofs.Ytcpbhkgdeaanmaa.BufB
open Go.RowKit P1

def Holds (B b : Nat) (l : List UInt8) (w : World) : Prop := Lib.IsBuilderF 76 5 B b (Lib.byteCells l) w
theorem Holds.new (w : World) : Holds w.heap.size w.heap.size [] (w.alloc (.cells #[.pointer none, .slice none 0 0] 76)) := Lib.IsBuilderF.of (Lib.fresh_isBuilder _ _ w)
theorem Holds.alloc {B b : Nat} {l : List UInt8} {w : World} (h : Holds B b l w) (o : Obj) : Holds B b l (w.alloc o) := Lib.IsBuilderF.alloc h o
def Wrote (B b : Nat) (l : List UInt8) (w w' : World) : Prop := Holds B b l w' ∧ Below B w w' ∧ Lib.OthersKept 5 (some b) w w'
theorem Wrote.refl {B b : Nat} {l : List UInt8} {w : World} (h : Holds B b l w) : Wrote B b l w w := ⟨h, Below.refl _ _, Lib.OthersKept.refl _ _ _⟩
theorem Wrote.trans {B b : Nat} {l l' : List UInt8} {w w1 w2 : World} (h : Wrote B b l w w1) (k : Wrote B b l' w1 w2) : Wrote B b l' w w2 := ⟨k.1, h.2.1.trans k.2.1, h.2.2.trans k.2.2⟩

theorem string (B b : Nat) (l : List UInt8) (w : World) (h : Holds B b l w) (hB : B ≤ w.heap.size) :
    Calls Try.prog 141 #[.pointer (some ⟨b, 0, none⟩)] w fun e w' => e = .returned (.string ⟨l.toArray⟩) ∧ Wrote B b l w w' :=
  by first | exact Any.Builder_String_any_k Try.layB169 Try.extraB B b l w h hB | exact Try.Builder_String_any_k B b l w h hB
theorem Wrote.cell {B b : Nat} {l : List UInt8} {w w' : World} (h : Wrote B b l w w') {k o : Nat} {c : Array Value} {T : TypeId} {fz : Nat × Nat} (hk : w.heap[k]? = some (.cells c T fz)) (hT : T ≠ 5) (hb : k ≠ b) : w'.cell? ⟨k, o, none⟩ = w.cell? ⟨k, o, none⟩ :=
  World.cell?_of_block (w := w) ((h.2.2 k _ hk (by simpa using hb) (fun c' fz' e => hT (by cases e; rfl))).trans hk.symm)

theorem at_below {T e : TypeId} {B b : Nat} {p : Value} {bs : List Value} {w w' : World} (h : Lib.BuilderAtF T e B b p bs w) (k : Below w.heap.size w w') : Lib.BuilderAtF T e B b p bs w' := by
  obtain ⟨hB, v, hb, ⟨hx, ho⟩, hne⟩ := h
  have lt : ∀ {j : Nat} {o : Obj}, w.heap[j]? = some o → w'.heap[j]? = some o := fun {j o} e => (k.block j (Array.getElem?_eq_some_iff.1 e).1).trans e
  refine ⟨hB, v, lt hb, ⟨hx, ?_⟩, hne⟩
  rcases ho with h0 | ⟨g, cap, cur, fz, h1, h2, h3, h4⟩
  · exact .inl h0
  · exact .inr ⟨g, cap, cur, fz, h1, h2, lt h3, h4⟩
theorem Holds.below {B b : Nat} {l : List UInt8} {w w' : World} (h : Holds B b l w) (k : Below w.heap.size w w') : Holds B b l w' :=
  Or.elim h (fun x => Or.inl (at_below x k)) (fun x => Or.inr (at_below x k))
theorem Wrote.below {B b : Nat} {l : List UInt8} {w w1 w2 : World} (h : Wrote B b l w w1) (hB : B ≤ w.heap.size) (k : Below w1.heap.size w1 w2) : Wrote B b l w w2 :=
  ⟨h.1.below k, h.2.1.trans (k.mono (Nat.le_trans hB h.2.1.size)), fun i o hi hb ho => by
    have h1 := h.2.2 i o hi hb ho
    exact (k.block i (Array.getElem?_eq_some_iff.1 h1).1).trans h1⟩
theorem Wrote.alloc {B b : Nat} {l : List UInt8} {w : World} (h : Holds B b l w) (hB : B ≤ w.heap.size) (o : Obj) : Wrote B b l w (w.alloc o) :=
  (Wrote.refl h).below hB ((Below.refl _ _).alloc (Nat.le_refl _) _)

end Go.Proofs.Ytcpbhkgdeaanmaa.BufB

/-
  What FlatText comes to: of the model.
-/
set_option linter.unusedVariables false
set_option linter.unusedSimpArgs false
namespace Go.Proofs.Ytcpbhkgdeaanmaa.Flat
open Go.RowKit P1 Cnt CntC

def fl : F → ByteArray
  | .nil => ⟨#[]⟩
  | .cons o _ t k r => (if o == 3 then ⟨#[32]⟩ else t ++ fl k) ++ fl r
def flD (o : Int) (t : ByteArray) (k : F) : ByteArray := if o == 3 then ⟨#[32]⟩ else t ++ fl k
theorem none_app (x : ByteArray) : (⟨#[]⟩ : ByteArray) ++ x = x := ByteArray.empty_append
theorem app_none (x : ByteArray) : x ++ (⟨#[]⟩ : ByteArray) = x := ByteArray.append_empty
theorem fl_one (o n : Int) (t : ByteArray) (k : F) : fl (.cons o n t k .nil) = flD o t k := by simp only [fl, flD, app_none]
def wf : F → List UInt8
  | .nil => []
  | .cons o _ t k r => ((if o == 3 then [32] else []) ++ t.data.toList ++ wf k) ++ wf r
theorem nil_of_len {k : F} (h : k.len = 0) : k = .nil := by cases k with | nil => rfl | cons => simp [F.len] at h
end Go.Proofs.Ytcpbhkgdeaanmaa.Flat

/-
  What FlatText of the program comes to.
-/
set_option linter.unusedVariables false
set_option linter.unusedSimpArgs false
namespace Go.Proofs.Ytcpbhkgdeaanmaa.FlatI
open Go.RowKit P1 Cnt CntC Flat BufB
end Go.Proofs.Ytcpbhkgdeaanmaa.FlatI

