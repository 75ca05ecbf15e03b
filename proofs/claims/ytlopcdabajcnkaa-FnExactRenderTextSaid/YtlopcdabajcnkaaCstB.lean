import Derived.Test.YtlopcdabajcnkaaCst
/-
  What CostOf of the program and of the model comes to.
-/
set_option linter.unusedVariables false
set_option linter.unusedSimpArgs false
namespace Go.Proofs.Ytlopcdabajcnkaa.Cst
open Go.RowKit P1 TextV LayV LayW

set_option maxRecDepth 100000 in
set_option maxHeartbeats 1600000 in
theorem l5Cost (l : List (Int × ByteArray)) (x : Int) (w : World) (a : Option Addr) (cap : Nat) (fs : List Nat) (hs : LaySub w a l fs) (hc : l.length ≤ cap) (hlv : lv l = true) (hx0 : 0 ≤ x) (hx1 : x ≤ 9223372036854775807) :
    Calls Try.prog 99 #[.slice a l.length cap, .int .i64 x] w fun e w' => e = .returned (.agg #[.int .i64 (ov x l), .int .i64 (l.length : Int)]) ∧ Below w.heap.size w w' := by
  have H := Lib.hid (fun (W : World) (hW : Ext w W) => l2Over l x W a cap fs (hs.below hs.lt hW) hc hlv hx0 hx1)
  have H0 := Lib.hid (show ∀ o1, Ext w (w.alloc o1) from fun o1 => (Ext.refl w).alloc o1)
  have hl2 := (lv_len hlv).2
  obtain ⟨m, hm⟩ : ∃ m, l.length = m := ⟨_, rfl⟩
  obtain ⟨v, hv⟩ : ∃ v, ov x l = v := ⟨_, rfl⟩
  rw [hm] at H hc hl2 ⊢
  rw [hv] at H ⊢
  clear hm hv hs hlv
  go_enter Try.func99, Try.ntmps99
  go_wp2_with fail
  refine (H.out _ (H0.out _)).mono ?_
  rintro e1 w1 ⟨rfl, hb⟩
  have H1 := Lib.hid ((H0.out _).trans hb)
  have hc0 : w1.cell? ⟨w.heap.size, 0, none⟩ = some (.int .i64 0) := (Below.cell (p := ⟨w.heap.size, 0, none⟩) hb (by simp)).trans (by rw [World.cell?_alloc_new]; rfl)
  have hc1 : w1.cell? ⟨w.heap.size, 1, none⟩ = some (.int .i64 0) := (Below.cell (p := ⟨w.heap.size, 1, none⟩) hb (by simp)).trans (by rw [World.cell?_alloc_new]; rfl)
  have hz0 : w1.frozen? ⟨w.heap.size, 0, none⟩ = false := (Below.frozen (p := ⟨w.heap.size, 0, none⟩) hb (by simp)).trans (World.frozen?_alloc_new _ _ _ _)
  have hz1 : w1.frozen? ⟨w.heap.size, 1, none⟩ = false := (Below.frozen (p := ⟨w.heap.size, 1, none⟩) hb (by simp)).trans (World.frozen?_alloc_new _ _ _ _)
  go_wp2_with fail
  obtain ⟨r0, r1, rl⟩ := pair_set (u := .int .i64 v) (u' := .int .i64 (m : Int)) hc0 hc1 (Nat.lt_of_lt_of_le (by simp) hb.size : w.heap.size < w1.heap.size)
  refine bodyPost_ret (v := .agg #[.int .i64 v, .int .i64 (m : Int)]) (by simp [results, Try.results99, go_sem, r0, r1, rl]) rfl ?_
  exact ⟨rfl, (H1.out.setNew (Nat.le_refl _) _).setNew (Nat.le_refl _) _⟩

theorem wv_bd {x : Int} (h : wv x = true) : 0 ≤ x ∧ x ≤ 200 := by simpa [wv] using h
/-- the cost of a layout: what is beyond, the lines, and whether there is one -/
def coR (l : List (Int × ByteArray)) (x : Int) : Int × Int × Bool := if wv x = true ∧ lv l = true then (ov x l, (l.length : Int), true) else (0, 0, false)
theorem cell0 {w w' : World} {o : Obj} {T : TypeId} (h : Below (w.alloc (.cells #[.int .i64 0, .int .i64 0] T)).heap.size (w.alloc (.cells #[.int .i64 0, .int .i64 0] T)) w') :
    w'.cell? ⟨w.heap.size, 0, none⟩ = some (.int .i64 0) ∧ w'.cell? ⟨w.heap.size, 1, none⟩ = some (.int .i64 0) ∧ w'.frozen? ⟨w.heap.size, 0, none⟩ = false ∧ w'.frozen? ⟨w.heap.size, 1, none⟩ = false ∧ w.heap.size < w'.heap.size :=
  ⟨(Below.cell (p := ⟨w.heap.size, 0, none⟩) h (by simp)).trans (by rw [World.cell?_alloc_new]; rfl), (Below.cell (p := ⟨w.heap.size, 1, none⟩) h (by simp)).trans (by rw [World.cell?_alloc_new]; rfl),
   (Below.frozen (p := ⟨w.heap.size, 0, none⟩) h (by simp)).trans (World.frozen?_alloc_new _ _ _ _), (Below.frozen (p := ⟨w.heap.size, 1, none⟩) h (by simp)).trans (World.frozen?_alloc_new _ _ _ _), Nat.lt_of_lt_of_le (by simp) h.size⟩

end Go.Proofs.Ytlopcdabajcnkaa.Cst

