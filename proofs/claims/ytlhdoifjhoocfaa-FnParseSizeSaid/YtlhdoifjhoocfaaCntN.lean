import Derived.Test.YtlhdoifjhoocfaaCnt
import Derived.Test.YtlhdoifjhoocfaaPl
import Derived.Deep.LoopGhost
import Derived.Deep.AppendLies
import Derived.Carry
import Derived.Laws.EntriesVeiled
/-
  What impl.countNodes comes to.
-/
set_option linter.unusedVariables false
set_option linter.unusedSimpArgs false
namespace Go.Proofs.Ytlhdoifjhoocfaa.CntN
open Go.RowKit Cnt

/-- a step's cells -/
def StepV (x : LK × Bool) (c : List Value) : Prop := ∃ cap, c = [.slice (some ⟨x.1.1, x.1.2.1, none⟩) x.1.2.2 cap, .bool x.2] ∧ x.1.2.2 ≤ cap
theorem StepV.len : ∀ (x : LK × Bool) (c : List Value), StepV x c → c.length = 2 := by rintro x c ⟨_, rfl, _⟩; rfl

theorem info_parts {x : Option TypeInfo} {z : Value} {s b : Nat} (h : x.map (fun i => (i.zero, i.size, i.bytes)) = some (some z, s, b)) : ∃ i, x = some i ∧ i.zero = some z ∧ i.size = s ∧ i.bytes = b := by
  cases x with
  | none => simp at h
  | some i => simp at h; exact ⟨i, rfl, h.1, h.2.1, h.2.2⟩

/-- what holds at the head of a round -/
def Head (w W1 : World) (m : Int → Bool) (g : Nat) (lb : Array Value) (rk : LK) (T : TypeId) (n : Nat) (v : Value) (wr : World) : Prop := ∃ (st : List (LK × Bool)) (mm : LK → Option Int) (l : List (LK × Value × Nat)),
  weight (forest W1 m) st ≤ n ∧ n ≤ 8388608 ∧ StackG StepV 2 wr T (w.heap.size + 1 + 1 + 1 + 1 + 1) v st ∧ Go.Proofs.Ytlhdoifjhoocfaa.Inv (forest W1 m) rk st mm ∧ Knows l mm ∧ Cnt.In W1 wr (w.heap.size + 1 + 1 + 1 + 1) (w.heap.size + 1 + 1) (w.heap.size + 1 + 1 + 1) g lb l ∧ w.heap.size + 1 + 1 + 1 + 1 + 1 ≤ wr.heap.size

theorem weight_stack (W1 : World) (m : Int → Bool) (st : List (LK × Bool)) : st.length ≤ weight (forest W1 m) st :=
  weight_len _ (fun k => by show 1 ≤ 2 + wtL (listAt W1 k); omega) st

/-- the round goes on -/
theorem Head.next {w W1 wr w1 : World} {m : Int → Bool} {g : Nat} {lb : Array Value} {rk : LK} {T : TypeId} {n : Nat} {v : Value} {st : List (LK × Bool)} {mm : LK → Option Int} {l : List (LK × Value × Nat)} (hn : n ≤ 8388608) (hw : weight (forest W1 m) st ≤ n)
    (hst : StackG StepV 2 wr T (w.heap.size + 1 + 1 + 1 + 1 + 1) v st) (hinv : Go.Proofs.Ytlhdoifjhoocfaa.Inv (forest W1 m) rk st mm) (hk : Knows l mm) (hin : Cnt.In W1 wr (w.heap.size + 1 + 1 + 1 + 1) (w.heap.size + 1 + 1) (w.heap.size + 1 + 1 + 1) g lb l) (hsz : w.heap.size + 1 + 1 + 1 + 1 + 1 ≤ wr.heap.size) (k : Ext wr w1) : Head w W1 m g lb rk T (weight (forest W1 m) st) v w1 :=
  ⟨st, mm, l, Nat.le_refl _, Nat.le_trans hw hn, hst.below (Nat.le_refl _) k, hinv, hk, hin.to k, Nat.le_trans hsz k.size⟩

theorem weight_pop {T : Forest LK} (x : LK × Bool) (h2 : ∀ k, 1 ≤ T.wt k) (st : List (LK × Bool)) : weight T st < weight T (x :: st) := by
  obtain ⟨k, b⟩ := x
  have := h2 k
  cases b <;> simp only [weight] <;> omega

/-- the first round's head -/
theorem Head.start {w W1 : World} {m : Int → Bool} {g : Nat} {lb : Array Value} {f : F} {T T9 : TypeId} (hsz1 : W1.heap.size = w.heap.size + 1 + 1) (hroot : Lie W1 (w.heap.size + 1, 0, 1) f) (hsz : nodes f ≤ 2097153) :
    Head w W1 m g lb (w.heap.size + 1, 0, 1) T (2 + wtL f) (.slice (some ⟨w.heap.size + 1 + 1 + 1 + 1 + 1, 0, none⟩) 1 1) ((((W1.alloc (.map #[] 0)).alloc (.map #[] 0)).alloc (.cells #[.func (.func g) #[] lb, .map (some (w.heap.size + 1 + 1)), .map (some (w.heap.size + 1 + 1 + 1))] T9)).alloc (.cells #[.slice (some ⟨w.heap.size + 1, 0, none⟩) 1 1, .bool false] T)) := by
  have h1 := wtL_le f
  have hw : weight (forest W1 m) [((w.heap.size + 1, 0, 1), false)] = 2 + wtL f := by
    show 2 + wtL (listAt W1 (w.heap.size + 1, 0, 1)) + 0 = _
    rw [listAt_eq hroot]; rfl
  have e2 : (W1.alloc (.map #[] 0)).heap.size = w.heap.size + 1 + 1 + 1 := by simp [hsz1]
  have e3 : ((W1.alloc (.map #[] 0)).alloc (.map #[] 0)).heap.size = w.heap.size + 1 + 1 + 1 + 1 := by simp [hsz1]
  have e4 : (((W1.alloc (.map #[] 0)).alloc (.map #[] 0)).alloc (.cells #[.func (.func g) #[] lb, .map (some (w.heap.size + 1 + 1)), .map (some (w.heap.size + 1 + 1 + 1))] T9)).heap.size = w.heap.size + 1 + 1 + 1 + 1 + 1 := by simp [hsz1]
  refine ⟨[((w.heap.size + 1, 0, 1), false)], fun _ => none, [], Nat.le_of_eq hw, by omega, ?_, Inv.start _ _ ⟨f, hroot, hsz⟩, Knows.start, ?_, by rw [World.size_alloc, e4]; omega⟩
  · exact StackG.start (CV := StepV) ⟨1, rfl, Nat.le_refl _⟩ rfl e4 (Nat.le_refl _) rfl
  · have hb : Cnt.In W1 (((W1.alloc (.map #[] 0)).alloc (.map #[] 0)).alloc (.cells #[.func (.func g) #[] lb, .map (some (w.heap.size + 1 + 1)), .map (some (w.heap.size + 1 + 1 + 1))] T9)) (w.heap.size + 1 + 1 + 1 + 1) (w.heap.size + 1 + 1) (w.heap.size + 1 + 1 + 1) g lb [] := by
      refine ⟨?_, ?_, ?_, by rw [e4]; omega, ?_, ?_, (fun e he => by cases he), (((Ext.refl W1).alloc _).alloc _).alloc _⟩
      · rw [← e3, World.cell?_alloc_new]; rfl
      · rw [← e3, World.cell?_alloc_new]; rfl
      · rw [← e3, World.cell?_alloc_new]; rfl
      · have h := PMap.made W1 lkV
        rw [hsz1] at h
        exact (h.of_block (heap_alloc_old _ _ (by rw [e2]; omega))).of_block (heap_alloc_old _ _ (by rw [e3]; omega))
      · have h := PMap.made (W1.alloc (.map #[] 0)) lkV
        rw [e2] at h
        exact h.of_block (heap_alloc_old _ _ (by rw [e3]; omega))
    exact hb.to ((Ext.refl _).alloc _)

theorem two_new1 (w : World) (ob : Obj) (T : TypeId) (v0 v1 : Value) : ((w.alloc ob).alloc (.cells #[v0, v1] T)).cell? ⟨w.heap.size + 1, 0, none⟩ = some v0 ∧ ((w.alloc ob).alloc (.cells #[v0, v1] T)).cell? ⟨w.heap.size + 1, 1, none⟩ = some v1 := by
  have e : w.heap.size + 1 = (w.alloc ob).heap.size := by simp
  rw [e]
  constructor <;> (rw [World.cell?_alloc_new]; rfl)
/-- a variable of two cells, behind a call -/
theorem two_new (wr : World) (T : TypeId) (v0 v1 : Value) : (wr.alloc (.cells #[v0, v1] T)).cell? ⟨wr.heap.size, 0, none⟩ = some v0 ∧ (wr.alloc (.cells #[v0, v1] T)).cell? ⟨wr.heap.size, 1, none⟩ = some v1 := by
  constructor <;> (rw [World.cell?_alloc_new]; rfl)
theorem two_cells {wr w3 : World} {T : TypeId} {v0 v1 : Value} (h : Ext (wr.alloc (.cells #[v0, v1] T)) w3) : w3.cell? ⟨wr.heap.size, 0, none⟩ = some v0 ∧ w3.cell? ⟨wr.heap.size, 1, none⟩ = some v1 ∧ wr.heap.size < w3.heap.size := by
  have hlt : wr.heap.size < (wr.alloc (.cells #[v0, v1] T)).heap.size := by simp
  exact ⟨(h.cell hlt).trans (two_new _ _ _ _).1, (h.cell hlt).trans (two_new _ _ _ _).2, Nat.lt_of_lt_of_le hlt h.size⟩

theorem own_kept {w w' : World} {T : TypeId} {lo g2 n cap b2 : Nat} {st : List (LK × Bool)} (h : StackG StepV 2 w T lo (.slice (some ⟨g2, 0, none⟩) n cap) st) (hg : w.grownBy w' (some b2)) (hlo : lo ≤ g2) (hb : b2 < lo) : StackG StepV 2 w' T lo (.slice (some ⟨g2, 0, none⟩) n cap) st :=
  h.kept hg (.inr (by simp [Value.ownBlock]; omega))

theorem In_grown {W1 w w' : World} {b4 b2 b3 g lo : Nat} {lb : Array Value} {l : List (LK × Value × Nat)} (h : Cnt.In W1 w b4 b2 b3 g lb l) {row : Option Nat} (hg : w.grownBy w' row) (hr : ∀ q, row = some q → lo ≤ q) (h4 : b4 < lo) (h2 : b2 < lo) (h3 : b3 < lo) (h1 : W1.heap.size ≤ lo) : Cnt.In W1 w' b4 b2 b3 g lb l := by
  have hk : ∀ q, q < w.heap.size → q < lo → w'.heap[q]? = w.heap[q]? := fun q hq hl => hg.block q hq (fun e => by have := hr q e.symm; omega)
  have hcell : ∀ o, w'.cell? ⟨b4, o, none⟩ = w.cell? ⟨b4, o, none⟩ := fun o => World.cell?_of_block (w := w) (hk b4 h.bc_lt h4)
  refine ⟨(hcell 0).trans h.c0, (hcell 1).trans h.c1, (hcell 2).trans h.c2, Nat.lt_of_lt_of_le h.bc_lt hg.size, h.hm.of_block (hk b2 h.hm.lt h2), h.he.of_block (hk b3 h.he.lt h3), h.keys, ?_⟩
  exact ⟨hg.os.trans h.ext.os, hg.tape.trans h.ext.tape, hg.output.trans h.ext.output, Nat.le_trans h.ext.size hg.size, fun i hi => (hk i (Nat.lt_of_lt_of_le hi h.ext.size) (by omega)).trans (h.ext.block i hi)⟩

end Go.Proofs.Ytlhdoifjhoocfaa.CntN

