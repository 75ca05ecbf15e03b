import Derived.Test.YtcealfjkcbaelaaRnM
import Derived.Test.YtcealfjkcbaelaaRnA
import Derived.Shelf.RegionOpen
import Derived.Deep.RegionHeld3
/-
  l4Put, l4Used and l4Rest of the model.
-/
set_option linter.unusedVariables false
set_option linter.unusedSimpArgs false
namespace Go.Proofs.Ytcealfjkcbaelaa.Rq
open Go.RowKit Go.Shelf P1 Cnt CntC Flat Wid ChP Rn Bwd RnM
open LayN (cells2 cells2_len cells2_one)
open LayC (cells2_app)

theorem heap_set {w : World} {b : Nat} {c : Array Value} {T : TypeId} {z : Nat × Nat} (hb : w.heap[b]? = some (.cells c T z)) (o : Nat) (u : Value) : (w.setCell ⟨b, o, none⟩ u).heap[b]? = some (.cells (c.setIfInBounds o u) T z) := by
  simp [World.setCell, Array.getElem?_modify, hb]
/-- lines in a row of the call's own: the text of the last one is stored to -/
theorem own_last {w : World} {B g cap n : Nat} {T : TypeId} {R : List (Int × ByteArray)} {i : Int} {X : ByteArray} (h : w.ownsRow B T 2 (.slice (some ⟨g, 0, none⟩) (n + 1) cap) (n + 1) (cells2 (R ++ [(i, X)]))) (hR : R.length = n) :
    w.cell? ⟨g, n * 2, none⟩ = some (.int .i64 i) ∧ w.cell? ⟨g, n * 2 + 1, none⟩ = some (.string X) ∧ w.frozen? ⟨g, n * 2 + 1, none⟩ = false ∧ g < w.heap.size ∧ B ≤ g ∧ n + 1 ≤ cap ∧
    (∀ u, (w.setCell ⟨g, n * 2 + 1, none⟩ (.string u)).ownsRow B T 2 (.slice (some ⟨g, 0, none⟩) (n + 1) cap) (n + 1) (cells2 (R ++ [(i, u)]))) := by
  have hc := h.cells (g := g) rfl
  have hl : (cells2 R).length = n * 2 := by rw [cells2_len, hR]
  have e : ∀ u, cells2 (R ++ [(i, u)]) = cells2 R ++ [.int .i64 i, .string u] := fun u => by rw [cells2_app]; rfl
  rw [e] at hc
  have h0 := hc (n * 2) (.int .i64 i) (by rw [List.getElem?_append_right (by omega), hl, Nat.sub_self]; rfl)
  have h1 := hc (n * 2 + 1) (.string X) (by rw [List.getElem?_append_right (by omega), hl, show n * 2 + 1 - n * 2 = 1 by omega]; rfl)
  rw [add_at, Nat.zero_add] at h0 h1
  obtain ⟨hlen, hrow⟩ := h
  rcases hrow with ⟨e0, _⟩ | ⟨g', cap', cur, e1, hB, hg, hnc, hcm, hcs, htk⟩
  · cases e0
  · injection e1 with e1 _ e2
    injection e1 with e1
    injection e1 with e1
    subst e1 e2
    refine ⟨h0, h1, frozen_of_row w _ _ _ _ hg, (Array.getElem?_eq_some_iff.1 hg).1, hB, hnc, fun u => ⟨?_, .inr ⟨g, cap, _, rfl, hB, heap_set hg _ _, hnc, hcm, by simpa using hcs, ?_⟩⟩⟩
    · rw [e, List.length_append, hl]; simp; omega
    · rw [Array.toList_setIfInBounds, List.take_set, htk, e, e, List.set_append_right _ _ (by omega), hl, show n * 2 + 1 - n * 2 = 1 by omega]; rfl

set_option maxRecDepth 100000 in
set_option maxHeartbeats 1600000 in
theorem l4Used (w : World) {B g cap n : Nat} {R : List (Int × ByteArray)} {i : Int} {X : ByteArray} {vg : Value} (h : w.ownsRow B 91 2 (.slice (some ⟨g, 0, none⟩) (n + 1) cap) (n + 1) (cells2 (R ++ [(i, X)]))) (hR : R.length = n) (hn : n ≤ 1000000) (hi0 : 0 ≤ i) (hi1 : i ≤ 1000000) (hX : X.size ≤ 50000000) (ag : Option Addr) (ng cg : Nat) :
    Calls Try.prog 120 #[.agg #[.slice (some ⟨g, 0, none⟩) (n + 1) cap, .slice ag ng cg]] w fun e w' => e = .returned (.int .i64 (i + (X.size : Int))) ∧ Below w.heap.size w w' := by
  obtain ⟨c0, c1, _, hg, _, hcap, _⟩ := own_last h hR
  have B2 := Lib.hid (show ∀ ob ob', Ext w ((w.alloc ob).alloc ob') from fun ob ob' => ((Ext.refl w).alloc _).alloc _)
  have i0 : (0 : Int) ≤ (n : Int) := Int.natCast_nonneg _
  have i1 : (n : Int) < (n : Int) + 1 := by omega
  clear h
  go_enter Try.func120, Try.ntmps120
  go_wp2_with fail
  go_ret
  exact ⟨rfl, B2.out _ _⟩

/-- the stack of items of the model: the indentation first -/
def ItS (w0 : World) (B : Nat) (x : Itm) (c : List Value) : Prop := ∃ (a : Option Addr) (cap : Nat), c = [.int .i64 x.i, .int .i64 x.o, .int .i64 x.n, .string x.t, .slice a x.k.len cap] ∧ KidsIn w0 B x.k a cap
theorem ItS.len {w0 : World} {B : Nat} : ∀ (x : Itm) (c : List Value), ItS w0 B x c → c.length = 5 := by
  rintro x c ⟨a, cap, rfl, _⟩; rfl
set_option maxRecDepth 100000 in
set_option maxHeartbeats 3200000 in
theorem l4Put (w : World) {B g cap n : Nat} {R : List (Int × ByteArray)} {i : Int} {X Y : ByteArray} (h : w.ownsRow B 91 2 (.slice (some ⟨g, 0, none⟩) (n + 1) cap) (n + 1) (cells2 (R ++ [(i, X)]))) (hR : R.length = n) (hn : n ≤ 1000000) (hX : X.size ≤ 50000000) (hY : Y.size ≤ 50000000) (ag : Option Addr) (ng cg : Nat) :
    Calls Try.prog 118 #[.agg #[.slice (some ⟨g, 0, none⟩) (n + 1) cap, .slice ag ng cg], .string Y] w fun e w' => e = .returned (.agg #[.slice (some ⟨g, 0, none⟩) (n + 1) cap, .slice ag ng cg]) ∧ w'.ownsRow B 91 2 (.slice (some ⟨g, 0, none⟩) (n + 1) cap) (n + 1) (cells2 (R ++ [(i, X ++ Y)])) ∧ w.grownBy w' (some g) := by
  obtain ⟨c0, c1, f1, hg, hBg, hcap, hset⟩ := own_last h hR
  have i0 : (0 : Int) ≤ (n : Int) := Int.natCast_nonneg _
  have i1 : (n : Int) < (n : Int) + 1 := by omega
  have HSET := Lib.hid (hset (X ++ Y))
  clear h hset
  have hsum : ¬ (9223372036854775807 < X.size + Y.size) := by omega
  go_enter Try.func118, Try.ntmps118
  go_wp2_with fail
  go_region
  go_wp2_with fail
  obtain ⟨V, hV⟩ : ∃ V, (((w.setCell ⟨g, n * 2 + 1, none⟩ (.string (X ++ Y))).alloc (.cells #[.slice (some ⟨g, 0, none⟩) (n + 1) cap, .slice ag ng cg] 154)).alloc (.cells #[.slice (some ⟨g, 0, none⟩) (n + 1) cap, .slice ag ng cg] 154)).drew = V := ⟨_, rfl⟩
  have y : V.cell? ⟨w.heap.size + 1, 0, none⟩ = some (.slice (some ⟨g, 0, none⟩) (n + 1) cap) ∧ V.cell? ⟨w.heap.size + 1, 1, none⟩ = some (.slice ag ng cg) := by
    rw [← hV]
    have e : ((w.setCell ⟨g, n * 2 + 1, none⟩ (.string (X ++ Y))).alloc (.cells #[.slice (some ⟨g, 0, none⟩) (n + 1) cap, .slice ag ng cg] 154)).heap.size = w.heap.size + 1 := by simp
    refine ⟨?_, ?_⟩
    · show World.cell? (World.alloc _ _) _ = _
      rw [← e, World.cell?_alloc_new]; rfl
    · show World.cell? (World.alloc _ _) _ = _
      rw [← e, World.cell?_alloc_new]; rfl
  have hown : V.ownsRow B 91 2 (.slice (some ⟨g, 0, none⟩) (n + 1) cap) (n + 1) (cells2 (R ++ [(i, X ++ Y)])) := by rw [← hV]; exact (HSET.out.alloc _).alloc _
  have hgr : w.grownBy V (some g) := by
    rw [← hV]
    refine ⟨rfl, rfl, rfl, by simp; omega, fun k hk hne => ?_⟩
    show (World.alloc _ _).heap[k]? = _
    rw [Below.heap_alloc _ _ _ (by simp; omega), Below.heap_alloc _ _ _ (by simp; omega)]
    exact Below.heap_setCell _ _ _ _ (fun e => hne (by simp [e]))
  rw [hV]
  clear hV
  refine bodyPost_ret (v := .agg #[.slice (some ⟨g, 0, none⟩) (n + 1) cap, .slice ag ng cg]) (by simp [results, Try.results118, go_sem, y.1, y.2]) rfl ?_
  exact ⟨rfl, hown, hgr⟩

end Go.Proofs.Ytcealfjkcbaelaa.Rq

/-
  The model's state of rendering in memory, and what each step owes.
-/
set_option linter.unusedVariables false
set_option linter.unusedSimpArgs false
namespace Go.Proofs.Ytcealfjkcbaelaa.Rq
open Go.RowKit Go.Shelf P1 Cnt CntC Flat Wid ChP Rn Bwd RnM
open LayN (cells2 cells2_len cells2_one)
open LayC (cells2_app)
section
variable {w0 w w' : World} {B sb : Nat} {its : List Itm} {s : St} {g cap : Nat} {ag : Option Addr} {cg : Nat} {v6 : Value}
/-- a row of the state grows: what the other two are told by -/
theorem keep_row {T T' : TypeId} {n m : Nat} {v : Value} {xs : List Value} {row : Option Nat} (h : w.ownsRow B T n v m xs) (hg : w.grownBy w' row) (hrow : ∀ q, row = some q → ∃ c, w.heap[q]? = some (.cells c T' (0, 0))) (hT : T ≠ T') : w'.ownsRow B T n v m xs :=
  h.kept hg (own_or fun q e => by obtain ⟨c, hc⟩ := hrow q e; exact RnM.own_ne h hc hT)
theorem keep_box {T : TypeId} {c : Array Value} {row : Option Nat} {b : Nat} (h : w.heap[b]? = some (.cells c T (0, 0))) {T' : TypeId} (hg : w.grownBy w' row) (hrow : ∀ q, row = some q → ∃ c, w.heap[q]? = some (.cells c T' (0, 0))) (hT : T ≠ T') : w'.heap[b]? = some (.cells c T (0, 0)) :=
  (hg.block _ (Array.getElem?_eq_some_iff.1 h).1 (fun e => by
    obtain ⟨c', hc⟩ := hrow b e.symm
    rw [h] at hc; injection hc with hc; injection hc with _ hc; exact hT hc)).trans h
theorem keep_stack {α : Type} {CV : α → List Value → Prop} {T T' : TypeId} {n : Nat} {v : Value} {st : List α} {row : Option Nat} (h : StackG CV n w T B v st) (hg : w.grownBy w' row) (hrow : ∀ q, row = some q → ∃ c, w.heap[q]? = some (.cells c T' (0, 0))) (hT : T ≠ T') : StackG CV n w' T B v st := by
  obtain ⟨xs, x1, x2⟩ := h
  exact ⟨xs, keep_row x1 hg hrow hT, x2⟩
theorem set_row {T : TypeId} {n m b : Nat} {v : Value} {xs : List Value} {c : Array Value} {T' : TypeId} (h : w.ownsRow B T n v m xs) (hb : w.heap[b]? = some (.cells c T' (0, 0))) (hT : T ≠ T') (o : Nat) (u : Value) : (w.setCell ⟨b, o, none⟩ u).ownsRow B T n v m xs :=
  h.kept (grown_set w b o u) (own_or (fun k e => by cases e; exact RnM.own_ne h hb hT))
theorem set_stack {α : Type} {CV : α → List Value → Prop} {T : TypeId} {n b : Nat} {v : Value} {st : List α} {c : Array Value} {T' : TypeId} (h : StackG CV n w T B v st) (hb : w.heap[b]? = some (.cells c T' (0, 0))) (hT : T ≠ T') (o : Nat) (u : Value) : StackG CV n (w.setCell ⟨b, o, none⟩ u) T B v st := by
  obtain ⟨xs, x1, x2⟩ := h
  exact ⟨xs, set_row x1 hb hT o u, x2⟩
end
end Go.Proofs.Ytcealfjkcbaelaa.Rq

