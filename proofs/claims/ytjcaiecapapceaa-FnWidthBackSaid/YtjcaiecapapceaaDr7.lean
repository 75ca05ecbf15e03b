import Derived.Test.YtjcaiecapapceaaDrM
import Derived.Deep.CutRange
import Derived.Deep.CutBlock
/-
 What the model's draw of a document for chapter 7 comes to: some document of a bounded size in memory of its own.
-/
set_option linter.unusedVariables false
set_option linter.unusedSimpArgs false
namespace Go.Proofs.Ytjcaiecapapceaa.Dr7
open Go.RowKit P1 Draw Draw2 Draw6 Copy DrA DrB DrC CatD ParseD DrD Mut Mut2 DrI DrN
def Dr7 (w : World) (e : Ending) (w' : World) : Prop := ∃ (o n : Int) (t : ByteArray) (k : F) (a : Option Addr) (cap : Nat) (fs : List Nat), e = .returned (.agg #[.int .i64 o, .int .i64 n, .string t, .slice a k.len cap]) ∧ k.len ≤ cap ∧ t.size + k.size ≤ 1100 ∧ SubAt w' a k fs ∧ Fresh w.heap.size w' fs ∧ Below w.heap.size w w'
structure S7 (w : World) (lo b : Nat) (o n : Int) (t : ByteArray) (k : F) (a : Option Addr) (c : Nat) (fs : List Nat) (M : Nat) (W : World) : Prop where
 th : W.there w.heap.size 0 4
 bel : Below w.heap.size w W
 rd : ∃ q, q ≤ 4002 ∧ Rd W (w.heap.size + 1) lo q
 doc : DocAt W b o n t k a c fs
 sz : t.size + k.size ≤ M
 fr : Fresh (w.heap.size + 2) W fs
 hb : w.heap.size + 2 ≤ b
 nb : b ∉ fs
 fz : ∀ j, W.frozen? ⟨b, j, none⟩ = false
theorem freshN {lo N : Nat} {W : World} {gs : List Nat} (h1 : lo ≤ N) (h2 : N < W.heap.size) (hz : ∀ o, W.frozen? ⟨N, o, none⟩ = false) (hg : Fresh lo W gs) (hN : ∀ c ∈ gs, c < N) : Fresh lo W (N :: gs) :=
 ⟨List.nodup_cons.2 ⟨fun hm => by have := hN N hm; omega, hg.1⟩, fun c hc => by
  rcases List.mem_cons.1 hc with rfl | hc
  ·exact ⟨h1, h2, hz⟩
  ·exact hg.2 c hc⟩
theorem box4n {w w' : World} {b : Nat} {u0 u1 u2 u3 : Value} (h : w.cell? ⟨b, 0, none⟩ = some u0 ∧ w.cell? ⟨b, 1, none⟩ = some u1 ∧ w.cell? ⟨b, 2, none⟩ = some u2 ∧ w.cell? ⟨b, 3, none⟩ = some u3) (hb : b < w.heap.size) (k : Ext w w') :
  w'.cell? ⟨b, 0, none⟩ = some u0 ∧ w'.cell? ⟨b, 1, none⟩ = some u1 ∧ w'.cell? ⟨b, 2, none⟩ = some u2 ∧ w'.cell? ⟨b, 3, none⟩ = some u3 :=
 ⟨(k.cell hb).trans h.1, (k.cell hb).trans h.2.1, (k.cell hb).trans h.2.2.1, (k.cell hb).trans h.2.2.2⟩
end Go.Proofs.Ytjcaiecapapceaa.Dr7
