import Derived.Test.YtmkibpimjaofgaaCopyI
import Derived.Test.YtmkibpimjaofgaaNfA
import Derived.Laws.EntriesVeiled
import Derived.Shelf.Abstract
import Derived.Deep.RegionWith
import Derived.Test.YtmkibpimjaofgaaCpA
/-
  What impl.changeKids comes to, whatever function it is given: each of the Kids changed, in new memory.
-/
set_option linter.unusedVariables false
set_option linter.unusedSimpArgs false
namespace Go.Proofs.Ytmkibpimjaofgaa.Nf
open Go.RowKit P1 Copy

def NewD (w : World) (d : D) (e : Ending) (w' : World) : Prop := NewOut w d.1 d.2.1 d.2.2.1 d.2.2.2 e w'

end Go.Proofs.Ytmkibpimjaofgaa.Nf

namespace Go.Proofs.Ytmkibpimjaofgaa.Nf
open Go.RowKit P1 Copy
end Go.Proofs.Ytmkibpimjaofgaa.Nf

namespace Go.Proofs.Ytmkibpimjaofgaa.Nf
open Go.RowKit P1 Copy CatD

def aggD (d : D) (a : Option Addr) (cap : Nat) : Value := .agg #[.int .i64 d.1, .int .i64 d.2.1, .string d.2.2.1, .slice a d.2.2.2.len cap]

theorem end_no {w w3 w4 : World} {lo hi : Nat} (hlo : w.heap.size ≤ lo) (hb : Below w.heap.size w w3) (ht : Touch lo hi w3 w4) :
    DocRes w (false, zeroD) (.returned (.tuple #[.agg #[.int .i64 0, .int .i64 0, .string ⟨#[]⟩, .slice none 0 0], .bool false])) w4 :=
  ⟨none, 0, [], rfl, by simp [zeroD, F.len], Or.inl ⟨rfl, rfl⟩, Fresh.nil w.heap.size w4, ht.below hb hlo⟩

theorem zbox_second (w : World) (x : Obj) (T : TypeId) : ZBox ((w.alloc x).alloc (.cells #[.int .i64 0, .int .i64 0, .string ⟨#[]⟩, .slice none 0 0] T)) (w.heap.size + 1) := by
  have e : (w.alloc x).heap.size = w.heap.size + 1 := by simp
  rw [← e]; exact ZBox.alloc _ _

end Go.Proofs.Ytmkibpimjaofgaa.Nf

namespace Go.Proofs.Ytmkibpimjaofgaa.Nf
open Go.RowKit P1 Copy CatD
theorem end_pair {w w3 w4 : World} {d : D} {ok : Bool} {lo hi B : Nat} {a : Option Addr} {cap : Nat} {fs : List Nat} (hs : SubAt w3 a d.2.2.2 fs) (hF : Fresh B w3 fs) (hc : d.2.2.2.len ≤ cap) (hB : hi ≤ B) (hlo : w.heap.size ≤ lo) (hlh : lo ≤ hi) (hb : Below w.heap.size w w3) (ht : Touch lo hi w3 w4) :
    DocRes w (ok, d) (.returned (.tuple #[aggD d a cap, .bool ok])) w4 :=
  ⟨a, cap, fs, rfl, hc, ht.sub hs (fun c hc => Or.inr (by have := (hF.2 c hc).1; omega)), (ht.fresh hF (fun c hc => Or.inr (by have := (hF.2 c hc).1; omega))).mono (by omega), ht.below hb hlo⟩
end Go.Proofs.Ytmkibpimjaofgaa.Nf

namespace Go.Proofs.Ytmkibpimjaofgaa.Nf
open Go.RowKit P1 Copy CatD

abbrev Four (b : Nat) (u0 u1 u2 u3 : Value) (w : World) : Prop := w.cell? ⟨b, 0, none⟩ = some u0 ∧ w.cell? ⟨b, 1, none⟩ = some u1 ∧ w.cell? ⟨b, 2, none⟩ = some u2 ∧ w.cell? ⟨b, 3, none⟩ = some u3
theorem Four.below {b : Nat} {u0 u1 u2 u3 : Value} {W w' : World} (h : Four b u0 u1 u2 u3 W) {B : Nat} (k : Below B W w') (hb : b < B) : Four b u0 u1 u2 u3 w' := by
  obtain ⟨h0, h1, h2, h3⟩ := h
  exact ⟨(k.cell (p := ⟨_, _, _⟩) hb).trans h0, (k.cell (p := ⟨_, _, _⟩) hb).trans h1, (k.cell (p := ⟨_, _, _⟩) hb).trans h2, (k.cell (p := ⟨_, _, _⟩) hb).trans h3⟩

theorem mid_d {wr w1 : World} {ob : Obj} {T : TypeId} {lo : Nat} {v : Value} {p : F} {fs : List Nat} (hG : Grow wr T lo v p fs) (hb : Below wr.heap.size wr w1) :
    Grow (w1.alloc ob) T lo v p fs ∧ lo ≤ wr.heap.size ∧ (∀ q ∈ fs, q < wr.heap.size) ∧ (∀ q, v.ownBlock = some q → q < wr.heap.size) ∧ Below wr.heap.size wr w1 :=
  ⟨(hG.below (Nat.le_refl _) hb).alloc ob, hG.2.2.2, fun q hq => hG.fresh.lt q hq, fun q hq => (hG.own_lt q hq).2, hb⟩
theorem mid_end {wr w1 w2 : World} {ob : Obj} {lo : Nat} (hb : Below wr.heap.size wr w1) (hb' : Below lo (w1.alloc ob) w2) (hlo : lo ≤ wr.heap.size) : Below lo wr w2 :=
  (((hb.mono hlo).alloc (Nat.le_trans hlo hb.size) ob)).trans hb'

theorem end_but {w w3 w4 : World} {x lo : Nat} {o n : Int} {t : ByteArray} {k : F} {a : Option Addr} {cap l : Nat} {fs : List Nat} (hl : k.len = l) (hs : SubAt w3 a k fs) (hF : Fresh lo w3 fs) (hc : k.len ≤ cap) (hx : x < lo) (hw : w.heap.size ≤ x) (hb : Below w.heap.size w w3) (hB : But w3.heap.size x w3 w4) :
    NewOut w o n t k (.returned (.agg #[.int .i64 o, .int .i64 n, .string t, .slice a l cap])) w4 := by
  subst hl
  have h1 : ∀ c ∈ fs, c < w3.heap.size ∧ c ≠ x := fun c hc => ⟨hF.lt c hc, fun e => by have := (hF.2 c hc).1; omega⟩
  exact ⟨a, cap, fs, rfl, hc, hB.sub hs h1, (hF.alike hB.size (fun c hc o => hB.frozen (h1 c hc).1 (h1 c hc).2)).mono (by omega), hb.trans (hB.below hb.size hw)⟩

end Go.Proofs.Ytmkibpimjaofgaa.Nf

namespace Go.Proofs.Ytmkibpimjaofgaa.Nf
open Go.RowKit P1 Copy CatD
end Go.Proofs.Ytmkibpimjaofgaa.Nf

namespace Go.Proofs.Ytmkibpimjaofgaa.Nf
open Go.RowKit P1 Copy CatD
end Go.Proofs.Ytmkibpimjaofgaa.Nf

namespace Go.Proofs.Ytmkibpimjaofgaa.Nf
open Go.RowKit P1 Copy CatD
end Go.Proofs.Ytmkibpimjaofgaa.Nf

