/-
  What the model's l15Open comes to: a reader in new memory, over at most 2000 of the bytes.
-/
import Derived.Test.YtjpgnhpfmdjamaaDraw2
namespace Go.Proofs.Ytjpgnhpfmdjamaa.Draw6
open Go.RowKit Draw Draw2
set_option linter.unusedVariables false
set_option linter.unusedSimpArgs false

/-- a slice of bytes that lies there -/
def Bytes (w : World) (a : Option Addr) (l : Nat) : Prop := 0 < l → ∃ b off, a = some ⟨b, off, none⟩ ∧ b < w.heap.size ∧ ∀ i, i < l → ∃ v : Nat, v ≤ 255 ∧ w.cell? ⟨b, off + i, none⟩ = some (.int .u8 v)

def OpenOut (w : World) (e : Ending) (w' : World) : Prop := e = .returned (.pointer (some ⟨w.heap.size, 0, none⟩)) ∧ Rd w' w.heap.size w.heap.size 0 ∧ w.heap.size < w'.heap.size ∧ Below w.heap.size w w'

theorem rd_new {w : World} {a : Option Addr} {l c : Nat} (h : Bytes w a l) (hl : l ≤ 2000) (hc : l ≤ c) (T : TypeId) : Rd (w.alloc (.cells #[.slice a l c, .int .i64 0] T)) w.heap.size w.heap.size 0 := by
  refine ⟨a, l, c, by rw [World.cell?_alloc_new]; rfl, by rw [World.cell?_alloc_new]; rfl, World.frozen?_alloc_new _ _ _ _, hl, hc, Nat.le_refl _, fun h0 => ?_⟩
  obtain ⟨b, off, ha, hb, hx⟩ := h h0
  refine ⟨b, off, ha, hb, fun i hi => ?_⟩
  obtain ⟨v, hv, hcell⟩ := hx i hi
  exact ⟨v, hv, (World.cell?_alloc_lt w _ ⟨b, off + i, none⟩ hb).trans hcell⟩

set_option maxRecDepth 100000 in
set_option maxHeartbeats 800000 in
theorem l15Open (w : World) (a : Option Addr) (l c : Nat) (hb : Bytes w a l) (hlc : l ≤ c) (hc : c ≤ maxLen) :
    Calls Try.prog 51 #[.slice a l c] w (OpenOut w) := by
  unfold maxLen at hc
  by_cases hl : 2000 < l
  · obtain ⟨b, off, rfl, hbw, hx⟩ := hb (by omega)
    have HB := Lib.hid (show Bytes w (some ⟨b, off, none⟩) 2000 from fun _ => ⟨b, off, rfl, hbw, fun i hi => hx i (by omega)⟩)
    clear hb hx hbw
    go_enter Try.func51, Try.ntmps51
    go_wp2_with fail
    go_ret
    exact ⟨rfl, rd_new HB.out (by omega) (by omega) _, by simp, (Below.refl _ _).alloc (Nat.le_refl _) _⟩
  · have HB := Lib.hid hb
    clear hb
    go_enter Try.func51, Try.ntmps51
    go_wp2_with fail
    go_ret
    exact ⟨rfl, rd_new HB.out (by omega) hlc _, by simp, (Below.refl _ _).alloc (Nat.le_refl _) _⟩

end Go.Proofs.Ytjpgnhpfmdjamaa.Draw6
