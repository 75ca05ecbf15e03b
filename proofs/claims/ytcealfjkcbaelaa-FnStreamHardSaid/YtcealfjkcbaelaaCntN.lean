import Derived.Test.YtcealfjkcbaelaaCnt
import Derived.Test.YtcealfjkcbaelaaPl
import Derived.Deep.LoopGhost
import Derived.Deep.AppendLies
import Derived.Carry
import Derived.Laws.EntriesVeiled
/-
  What impl.countNodes comes to.
-/
set_option linter.unusedVariables false
set_option linter.unusedSimpArgs false
namespace Go.Proofs.Ytcealfjkcbaelaa.CntN
open Go.RowKit Cnt

/-- a step's cells -/
def StepV (x : LK × Bool) (c : List Value) : Prop := ∃ cap, c = [.slice (some ⟨x.1.1, x.1.2.1, none⟩) x.1.2.2 cap, .bool x.2] ∧ x.1.2.2 ≤ cap
theorem StepV.len : ∀ (x : LK × Bool) (c : List Value), StepV x c → c.length = 2 := by rintro x c ⟨_, rfl, _⟩; rfl

theorem info_parts {x : Option TypeInfo} {z : Value} {s b : Nat} (h : x.map (fun i => (i.zero, i.size, i.bytes)) = some (some z, s, b)) : ∃ i, x = some i ∧ i.zero = some z ∧ i.size = s ∧ i.bytes = b := by
  cases x with
  | none => simp at h
  | some i => simp at h; exact ⟨i, rfl, h.1, h.2.1, h.2.2⟩

/-- what holds at the head of a round -/
def Head (w W1 : World) (m : Int → Bool) (g : Nat) (lb : Array Value) (rk : LK) (T : TypeId) (n : Nat) (v : Value) (wr : World) : Prop := ∃ (st : List (LK × Bool)) (mm : LK → Option Int) (l : List (LK × Value × Nat)),
  weight (forest W1 m) st ≤ n ∧ n ≤ 8388608 ∧ StackG StepV 2 wr T (w.heap.size + 1 + 1 + 1 + 1 + 1) v st ∧ Go.Proofs.Ytcealfjkcbaelaa.Inv (forest W1 m) rk st mm ∧ Knows l mm ∧ Cnt.In W1 wr (w.heap.size + 1 + 1 + 1 + 1) (w.heap.size + 1 + 1) (w.heap.size + 1 + 1 + 1) g lb l ∧ w.heap.size + 1 + 1 + 1 + 1 + 1 ≤ wr.heap.size

/-- the first round's head -/
theorem Head.start {w W1 : World} {m : Int → Bool} {g : Nat} {lb : Array Value} {f : F} {T T9 : TypeId} (hsz1 : W1.heap.size = w.heap.size + 1 + 1) (hroot : Lie W1 (w.heap.size + 1, 0, 1) f) (hsz : nodes f ≤ 2097153) :
    Head w W1 m g lb (w.heap.size + 1, 0, 1) T (2 + wtL f) (.slice (some ⟨w.heap.size + 1 + 1 + 1 + 1 + 1, 0, none⟩) 1 1) ((((W1.alloc (.map #[] 0)).alloc (.map #[] 0)).alloc (.cells #[.func (.func g) #[] lb, .map (some (w.heap.size + 1 + 1)), .map (some (w.heap.size + 1 + 1 + 1))] T9)).alloc (.cells #[.slice (some ⟨w.heap.size + 1, 0, none⟩) 1 1, .bool false] T)) := by
  have h1 := wtL_le f
  have hw : weight (forest W1 m) [((w.heap.size + 1, 0, 1), false)] = 2 + wtL f := by
    show 2 + wtL (listAt W1 (w.heap.size + 1, 0, 1)) + 0 = _
    rw [listAt_eq hroot]; rfl
  have e2 : (W1.alloc (.map #[] 0)).heap.size = w.heap.size + 1 + 1 + 1 := by simp [hsz1]
  have e3 : ((W1.alloc (.map #[] 0)).alloc (.map #[] 0)).heap.size = w.heap.size + 1 + 1 + 1 + 1 := by simp [hsz1]
  have e4 : (((W1.alloc (.map #[] 0)).alloc (.map #[] 0)).alloc (.cells #[.func (.func g) #[] lb, .map (some (w.heap.size + 1 + 1)), .map (some (w.heap.size + 1 + 1 + 1))] T9)).heap.size = w.heap.size + 1 + 1 + 1 + 1 + 1 := by simp [hsz1]
  refine ⟨[((w.heap.size + 1, 0, 1), false)], fun _ => none, [], Nat.le_of_eq hw, by omega, ?_, Inv.start _ _ ⟨f, hroot, hsz⟩, Knows.start, ?_, by rw [World.size_alloc, e4]; omega⟩
  · exact StackG.start (CV := StepV) ⟨1, rfl, Nat.le_refl _⟩ rfl e4 (Nat.le_refl _) rfl
  · have hb : Cnt.In W1 (((W1.alloc (.map #[] 0)).alloc (.map #[] 0)).alloc (.cells #[.func (.func g) #[] lb, .map (some (w.heap.size + 1 + 1)), .map (some (w.heap.size + 1 + 1 + 1))] T9)) (w.heap.size + 1 + 1 + 1 + 1) (w.heap.size + 1 + 1) (w.heap.size + 1 + 1 + 1) g lb [] := by
      refine ⟨?_, ?_, ?_, by rw [e4]; omega, ?_, ?_, (fun e he => by cases he), (((Ext.refl W1).alloc _).alloc _).alloc _⟩
      · rw [← e3, World.cell?_alloc_new]; rfl
      · rw [← e3, World.cell?_alloc_new]; rfl
      · rw [← e3, World.cell?_alloc_new]; rfl
      · have h := PMap.made W1 lkV
        rw [hsz1] at h
        exact (h.of_block (heap_alloc_old _ _ (by rw [e2]; omega))).of_block (heap_alloc_old _ _ (by rw [e3]; omega))
      · have h := PMap.made (W1.alloc (.map #[] 0)) lkV
        rw [e2] at h
        exact h.of_block (heap_alloc_old _ _ (by rw [e3]; omega))
    exact hb.to ((Ext.refl _).alloc _)

end Go.Proofs.Ytcealfjkcbaelaa.CntN

