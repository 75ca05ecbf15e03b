import Derived.Test.YtlhdoifjhoocfaaDrY
import Derived.Test.YtlhdoifjhoocfaaShelf
import Derived.Test.YtlhdoifjhoocfaaChecked
import Derived.OwnWalk
import Derived.Outline
import Derived.Deep.RegionHeld3
/-
  What the program's copyDoc comes to (beside CopyB): the same document in new memory.
-/
set_option linter.unusedVariables false
set_option linter.unusedSimpArgs false
namespace Go.Proofs.Ytlhdoifjhoocfaa.Copy
open Go.RowKit P1
/-- what holds at the head of a round of copyDoc -/
def CpMid (w : World) (k : F) (j : Nat) (v : Value) (wr : World) : Prop := ∃ (p g : F) (fs : List Nat), k = p.app g ∧ p.len = j ∧ Grow wr 26 (w.heap.size + 2) v p fs ∧ Below w.heap.size w wr

/-- what the boxes hold all along -/
def CpBox (w : World) (o n : Int) (t : ByteArray) (wr : World) : Prop := wr.cell? ⟨w.heap.size, 0, none⟩ = some (.int .i64 o) ∧ wr.cell? ⟨w.heap.size, 1, none⟩ = some (.int .i64 n) ∧ wr.cell? ⟨w.heap.size, 2, none⟩ = some (.string t) ∧ wr.there (w.heap.size + 1) 0 4 ∧ w.heap.size + 2 ≤ wr.heap.size

theorem CpBox.below {w : World} {o n : Int} {t : ByteArray} {wr w' : World} (h : CpBox w o n t wr) (k : Below (w.heap.size + 2) wr w') : CpBox w o n t w' := by
  obtain ⟨h1, h2, h3, h4, h5⟩ := h
  refine ⟨?_, ?_, ?_, there_below h4 (by omega) k, Nat.le_trans h5 k.size⟩
  · rw [k.cell (p := ⟨_, _, _⟩) (by simp)]; exact h1
  · rw [k.cell (p := ⟨_, _, _⟩) (by simp)]; exact h2
  · rw [k.cell (p := ⟨_, _, _⟩) (by simp)]; exact h3

/-- from one round's head to the append -/
theorem copy_mid {wr w1 : World} {ob0 ob : Obj} {T : TypeId} {lo : Nat} {v : Value} {p : F} {fs : List Nat} (hG : Grow wr T lo v p fs) (hb : Below (wr.alloc ob0).heap.size (wr.alloc ob0) w1) :
    Grow (w1.alloc ob) T lo v p fs ∧ lo ≤ (wr.alloc ob0).heap.size ∧ (∀ q ∈ fs, q < (wr.alloc ob0).heap.size) ∧ (∀ q, v.ownBlock = some q → q < (wr.alloc ob0).heap.size) ∧ Below (wr.heap.size + 1) (wr.alloc ob0) w1 := by
  have h1 : (wr.alloc ob0).heap.size = wr.heap.size + 1 := by simp
  refine ⟨((hG.alloc ob0).below (Nat.le_refl _) hb).alloc ob, ?_, fun q hq => ?_, fun q hq => ?_, hb.mono (by omega)⟩
  · rw [h1]; exact Nat.le_succ_of_le hG.2.2.2
  · have := hG.fresh.lt q hq; omega
  · have := hG.own_lt q hq; omega

theorem copy_end {wr w1 w2 : World} {ob0 ob : Obj} {lo : Nat} (hb : Below (wr.alloc ob0).heap.size (wr.alloc ob0) w1) (hb' : Below lo (w1.alloc ob) w2) (hlo : lo ≤ wr.heap.size) : Below lo wr w2 := by
  have h1 : Below lo wr w1 := ((Below.refl lo wr).alloc hlo ob0).trans (hb.mono (by simp; omega))
  exact (h1.alloc (Nat.le_trans hlo h1.size) ob).trans hb'

set_option maxHeartbeats 400000 in
theorem clone (s : ByteArray) (w : World) (h : s.size ≤ 281474976710656) : Calls Try.prog 36 #[.string s] w fun e w' => e = .returned (.string s) ∧ Below w.heap.size w w' := by
  go_enter Try.func36, Try.ntmps36
  go_wp2_with fail
  refine (Try.stringslite_Clone s _ h).mono ?_
  rintro e w' ⟨rfl, hb⟩
  go_wp2_with fail
  go_ret
  exact ⟨rfl, hb⟩

theorem keep_res {W w3 : World} {b : Nat} (hb : b < W.heap.size) {u0 u1 u2 u3 : Value} (h : W.cell? ⟨b, 0, none⟩ = some u0 ∧ W.cell? ⟨b, 1, none⟩ = some u1 ∧ W.cell? ⟨b, 2, none⟩ = some u2 ∧ W.cell? ⟨b, 3, none⟩ = some u3 ∧
    W.frozen? ⟨b, 0, none⟩ = false ∧ W.frozen? ⟨b, 1, none⟩ = false ∧ W.frozen? ⟨b, 2, none⟩ = false ∧ W.frozen? ⟨b, 3, none⟩ = false) (k : Below W.heap.size W w3) :
    w3.cell? ⟨b, 0, none⟩ = some u0 ∧ w3.cell? ⟨b, 1, none⟩ = some u1 ∧ w3.cell? ⟨b, 2, none⟩ = some u2 ∧ w3.cell? ⟨b, 3, none⟩ = some u3 ∧
    w3.frozen? ⟨b, 0, none⟩ = false ∧ w3.frozen? ⟨b, 1, none⟩ = false ∧ w3.frozen? ⟨b, 2, none⟩ = false ∧ w3.frozen? ⟨b, 3, none⟩ = false ∧ b < w3.heap.size := by
  obtain ⟨y0, y1, y2, y3, z0, z1, z2, z3⟩ := h
  exact ⟨(k.cell (p := ⟨_, _, _⟩) hb).trans y0, (k.cell (p := ⟨_, _, _⟩) hb).trans y1, (k.cell (p := ⟨_, _, _⟩) hb).trans y2, (k.cell (p := ⟨_, _, _⟩) hb).trans y3,
    (k.frozen (p := ⟨_, _, _⟩) hb).trans z0, (k.frozen (p := ⟨_, _, _⟩) hb).trans z1, (k.frozen (p := ⟨_, _, _⟩) hb).trans z2, (k.frozen (p := ⟨_, _, _⟩) hb).trans z3, Nat.lt_of_lt_of_le hb k.size⟩

/-- the end of a copy: the row that has grown is handed out -/
theorem end_new {w wr w3 w4 : World} {T : TypeId} {o n : Int} {t : ByteArray} {v : Value} {k : F} {fs : List Nat} {a : Option Addr} {cap : Nat} (hG : Grow wr T (w.heap.size + 2) v k fs) (hs : SubAt wr a k fs) (hc : k.len ≤ cap) (hbw : Below w.heap.size w wr) (hb3 : Below wr.heap.size wr w3)
    (ht : Touch (w.heap.size + 1) (w.heap.size + 2) w3 w4) : NewOut w o n t k (.returned (.agg #[.int .i64 o, .int .i64 n, .string t, .slice a k.len cap])) w4 := by
  have hlo : ∀ c ∈ fs, w.heap.size + 2 ≤ c := fun c hc => (hG.fresh.2 c hc).1
  refine ⟨a, cap, fs, rfl, hc, ht.sub (hs.below hG.fresh.lt hb3) (fun c hc => Or.inr (hlo c hc)), ht.fresh ((hG.fresh.below hG.fresh.lt hb3).mono (by omega)) (fun c hc => Or.inr (hlo c hc)), ht.below (hbw.trans (hb3.mono hbw.size)) (by omega)⟩

end Go.Proofs.Ytlhdoifjhoocfaa.Copy

