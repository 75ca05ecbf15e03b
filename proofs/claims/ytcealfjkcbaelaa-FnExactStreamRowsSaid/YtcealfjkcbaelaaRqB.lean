import Derived.Test.YtcealfjkcbaelaaRqC
import Derived.Test.YtcealfjkcbaelaaRnE
/-
  l4Run of the model.
-/
set_option linter.unusedVariables false
set_option linter.unusedSimpArgs false
namespace Go.Proofs.Ytcealfjkcbaelaa.Rq
open Go.RowKit Go.Shelf P1 Cnt CntC Flat Wid ChP Rn Bwd RnM
open LayN (cells2 cells2_len cells2_one)
open LayC (cells2_app)
theorem news_of (w : World) (cs : List Value) (T : TypeId) : ∀ j u, cs[j]? = some u → (w.alloc (.cells cs.toArray T)).cell? ((⟨w.heap.size, 0, none⟩ : Addr).add j) = some u := by
  intro j u hu
  rw [add_at, Nat.zero_add, World.cell?_alloc_new]
  simpa using hu
theorem below_row {w wr w1 : World} {B g : Nat} {ob : Obj} (hg : (wr.alloc ob).grownBy w1 (some g)) (hb : Below B w wr) (hB : B ≤ wr.heap.size) (hgB : B ≤ g) : Below B w w1 :=
  (hb.alloc hB ob).grown hg (by simp; omega) (fun k e => by cases e; exact hgB)
theorem cell_of_box {w : World} {b : Nat} {u v : Value} {T : TypeId} {z : Nat × Nat} (h : w.heap[b]? = some (.cells #[u, v] T z)) : w.cell? ⟨b, 0, none⟩ = some u ∧ w.cell? ⟨b, 1, none⟩ = some v := by
  refine ⟨?_, ?_⟩ <;> (simp only [World.cell?, h]; rfl)
/-- a document of a list of Kids, and its cells -/
theorem kid_at {w0 : World} {B : Nat} {k : F} {a : Option Addr} {c : Nat} {p : F} {o n : Int} {t : ByteArray} {k1 r : F} (h : KidsIn w0 B k a c) (hk : k = p.app (.cons o n t k1 r)) :
    ∃ bk ok a1 c1, a = some ⟨bk, ok, none⟩ ∧ bk < B ∧ (∀ W, Below B w0 W → W.cell? ⟨bk, ok + p.len * 4, none⟩ = some (.int .i64 o) ∧ W.cell? ⟨bk, ok + p.len * 4 + 1, none⟩ = some (.int .i64 n) ∧ W.cell? ⟨bk, ok + p.len * 4 + 2, none⟩ = some (.string t) ∧ W.cell? ⟨bk, ok + p.len * 4 + 3, none⟩ = some (.slice a1 k1.len c1)) ∧ KidsIn w0 B k1 a1 c1 := by
  obtain ⟨hc, fs, hs, hf⟩ := h
  rcases hs with ⟨e, _⟩ | ⟨b, off, f', rfl, hnil, rfl, hrow⟩
  · rw [hk] at e; have := congrArg F.len e; rw [F.len_app] at this; simp [F.len] at this
  · rw [hk] at hrow
    obtain ⟨a1, c1, f1, x0, x1, x2, x3, hc1, hs1, hin⟩ := row_at hrow
    have hb := hf b (by simp)
    exact ⟨b, off, a1, c1, rfl, hb, fun W hW => ⟨(hW.cell (p := ⟨_, _, _⟩) hb).trans x0, (hW.cell (p := ⟨_, _, _⟩) hb).trans x1, (hW.cell (p := ⟨_, _, _⟩) hb).trans x2, (hW.cell (p := ⟨_, _, _⟩) hb).trans x3⟩, hc1, f1, hs1, fun q hq => hf q (by simp [hin q hq])⟩
theorem below_row0 {w wr w1 : World} {g : Nat} (hg : wr.grownBy w1 (some g)) (hb : Below w.heap.size w wr) (hgB : w.heap.size ≤ g) : Below w.heap.size w w1 :=
  hb.grown hg hb.size (fun k e => by cases e; exact hgB)
theorem fit_step {W : Int} {LD : Nat} {s : St} {k1 : F} {FS : ByteArray} {r : List Itm} {i : Int} {Z N : Nat} {S : St} (hf : fitB W LD s ⟨#[]⟩ k1 = true) (h0 : ldI r = LD ∧ flD 8 ⟨#[]⟩ k1 = FS) (h : Bnd Z (⟨i, 8, 0, ⟨#[]⟩, k1⟩ :: r) s ∧ rnI W (⟨i, 8, 0, ⟨#[]⟩, k1⟩ :: r) s = S ∧ wtI (⟨i, 8, 0, ⟨#[]⟩, k1⟩ :: r) ≤ N) :
    (Bnd Z r ((s.flag true).put FS) ∧ rnI W r ((s.flag true).put FS) = S) ∧ wtI r < wtI (⟨i, 8, 0, ⟨#[]⟩, k1⟩ :: r) ∧ wtI (⟨i, 8, 0, ⟨#[]⟩, k1⟩ :: r) ≤ N := by
  obtain ⟨hbd, hrn, hwt⟩ := h
  have hst : stepI W ⟨i, 8, 0, ⟨#[]⟩, k1⟩ r s = (r, (s.flag true).put FS) := by
    unfold stepI
    simp only [h0.1, hf, h0.2]
    simp [nl]
  have h1 := hbd.step W
  have h2 := (stepI_run W ⟨i, 8, 0, ⟨#[]⟩, k1⟩ r s).trans hrn
  rw [hst] at h1 h2
  exact ⟨⟨h1.1, h2⟩, h1.2, hwt⟩
theorem unfit_step {W : Int} {LD : Nat} {s : St} {k1 : F} {FS : ByteArray} {r : List Itm} {i : Int} {Z N : Nat} {S : St} {p1 q1 : Int} {s1 : ByteArray} {j1 : F} (hf : fitB W LD s ⟨#[]⟩ k1 = false) (h0 : ldI r = LD ∧ flD 8 ⟨#[]⟩ k1 = FS) (hk : k1 = .cons p1 q1 s1 j1 .nil) (h : Bnd Z (⟨i, 8, 0, ⟨#[]⟩, k1⟩ :: r) s ∧ rnI W (⟨i, 8, 0, ⟨#[]⟩, k1⟩ :: r) s = S ∧ wtI (⟨i, 8, 0, ⟨#[]⟩, k1⟩ :: r) ≤ N) :
    (Bnd Z (⟨i, p1, q1, s1, j1⟩ :: r) (s.flag false) ∧ rnI W (⟨i, p1, q1, s1, j1⟩ :: r) (s.flag false) = S) ∧ wtI (⟨i, p1, q1, s1, j1⟩ :: r) < wtI (⟨i, 8, 0, ⟨#[]⟩, k1⟩ :: r) ∧ wtI (⟨i, 8, 0, ⟨#[]⟩, k1⟩ :: r) ≤ N := by
  obtain ⟨hbd, hrn, hwt⟩ := h
  have hst : stepI W ⟨i, 8, 0, ⟨#[]⟩, k1⟩ r s = (⟨i, p1, q1, s1, j1⟩ :: r, s.flag false) := by
    unfold stepI
    simp only [h0.1, hf]
    simp [nl, hk, kidsI, St.put_none]
  have h1 := hbd.step W
  have h2 := (stepI_run W ⟨i, 8, 0, ⟨#[]⟩, k1⟩ r s).trans hrn
  rw [hst] at h1 h2
  exact ⟨⟨h1.1, h2⟩, h1.2, hwt⟩
theorem two_push {w' : World} {w0 : World} {B : Nat} {T : TypeId} {lo : Nat} {v' : Value} {x y : Itm} {st : List Itm} {xs c d : List Value} (h2 : ItemsV (ItS w0 B) st.reverse xs) (hy : ItS w0 B y c) (hx : ItS w0 B x d) (h : w'.ownsRow lo T 5 v' (st.length + 2) (xs ++ (c ++ d))) : StackG (ItS w0 B) 5 w' T lo v' (x :: y :: st) :=
  ⟨_, h, by rw [List.reverse_cons, List.reverse_cons, ← List.append_assoc]; exact (h2.snoc hy).snoc hx⟩
theorem own_base {w : World} {B C n m : Nat} {T : TypeId} {v : Value} {xs : List Value} (h : w.ownsRow B T n v m xs) (hC : C ≤ B) : w.ownsRow C T n v m xs := by
  obtain ⟨h1, h2⟩ := h
  refine ⟨h1, ?_⟩
  rcases h2 with h2 | ⟨g, cap, cur, e, hB, rest⟩
  · exact .inl h2
  · exact .inr ⟨g, cap, cur, e, by omega, rest⟩

end Go.Proofs.Ytcealfjkcbaelaa.Rq

