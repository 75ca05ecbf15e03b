import Derived.Test.YtclifbjnooilmaaGreatLwA
import Derived.ProofKit
import Derived.Lib.SmallJoins
import Derived.Deep.Slices
/-
 What CompareCosts and CostOf of the program and of the model come to.
-/
set_option linter.unusedVariables false
set_option linter.unusedSimpArgs false
set_option maxRecDepth 100000
set_option maxHeartbeats 3200000
namespace Go.Proofs.YtclifbjnooilmaaGreat.Cst
open Go.RowKit P1 TextV LayV LayW
def sg (x y : Int) : Int := if x < y then -1 else if y < x then 1 else 0
def cmpC (a b c d : Int) : Int := if sg a c ≠ 0 then sg a c else sg b d
theorem sg_lt {x y : Int} (h : x < y) : sg x y = -1 := if_pos h
theorem sg_gt {x y : Int} (h : y < x) : sg x y = 1 := by unfold sg; rw [if_neg (by omega), if_pos h]
theorem sg_eq {x y : Int} (h : x = y) : sg x y = 0 := by unfold sg; rw [if_neg (by omega), if_neg (by omega)]
theorem isNaN (x : Int) (w : World) : Calls Tryz.prog 117 #[.int .i64 x] w fun e w' => e = .returned (.bool false) ∧ w' = w := by
 go_enter Tryz.func117, Tryz.ntmps117
 go_wp2_with fail
 go_ret
 exact ⟨by simp, rfl⟩
theorem compare (x y : Int) (w : World) : Calls Tryz.prog 85 #[.int .i64 x, .int .i64 y] w fun e w' => e = .returned (.int .i64 (sg x y)) ∧ w' = w := by
 have H1 := isNaN x
 have H2 := isNaN y
 rcases Int.lt_trichotomy x y with h | h | h
 ·have hx : (decide (x < y)) = true := by simp [h]
  have HF := Lib.hid (sg_lt h)
  go_enter Tryz.func85, Tryz.ntmps85
  go_wp2_with fail
  refine (H1 _).mono ?_
  rintro e1 w1 ⟨rfl, rfl⟩
  go_wp2_with fail
  refine (H2 _).mono ?_
  rintro e1 w1 ⟨rfl, rfl⟩
  go_wp2_with fail
  go_ret
  exact ⟨ret_int HF.out.symm, rfl⟩
 ·subst h
  have HF := Lib.hid (sg_eq (rfl : x = x))
  go_enter Tryz.func85, Tryz.ntmps85
  go_wp2_with fail
  refine (H1 _).mono ?_
  rintro e1 w1 ⟨rfl, rfl⟩
  go_wp2_with fail
  refine (H2 _).mono ?_
  rintro e1 w1 ⟨rfl, rfl⟩
  go_wp2_with fail
  go_ret
  exact ⟨ret_int HF.out.symm, rfl⟩
 ·have hx : ¬ (x < y) := by omega
  have HF := Lib.hid (sg_gt h)
  go_enter Tryz.func85, Tryz.ntmps85
  go_wp2_with fail
  refine (H1 _).mono ?_
  rintro e1 w1 ⟨rfl, rfl⟩
  go_wp2_with fail
  refine (H2 _).mono ?_
  rintro e1 w1 ⟨rfl, rfl⟩
  go_wp2_with fail
  go_ret
  exact ⟨ret_int HF.out.symm, rfl⟩
theorem orInt (u v : Int) (b : Nat) (w : World) (c0 : w.cell? ⟨b, 0, none⟩ = some (.int .i64 u)) (c1 : w.cell? ⟨b, 1, none⟩ = some (.int .i64 v)) :
  Calls Tryz.prog 84 #[.slice (some ⟨b, 0, none⟩) 2 2] w fun e w' => e = .returned (.int .i64 (if u ≠ 0 then u else v)) ∧ w' = w := by
 go_enter Tryz.func84, Tryz.ntmps84
 go_wp2_with fail
 go_loopw [8, 5] (fun i s wr => ∃ (k : Nat), k ≤ 2 ∧ i = .int .i64 k ∧ wr = w ∧ (1 ≤ k → u = 0) ∧ (2 ≤ k → v = 0)) (fun i _ _ => 2 - (intOf i).toNat)
 case atStart => exact ⟨0, by omega, rfl, rfl, fun h => absurd h (by omega), fun h => absurd h (by omega)⟩
 case round =>
  obtain ⟨k, hk, rfl, rfl, h1, h2⟩ := hrel
  have hk3 : k = 0 ∨ k = 1 ∨ k = 2 := by omega
  rcases hk3 with rfl | rfl | rfl
  ·by_cases hu : u = 0
   ·subst hu
    go_wp2_with fail
    go_roundw
    case rel => exact ⟨1, by omega, by go_num, by simp, by simp, fun h => absurd h (by omega)⟩
    case measure => simp [intOf]
   ·have hb : (u != 0) = true := by simpa using hu
    go_wp2_with fail
    go_ret
    exact ⟨ret_int (by simp [hu]), rfl⟩
  ·obtain rfl := h1 (by omega)
   by_cases hv : v = 0
   ·subst hv
    go_wp2_with fail
    go_roundw
    case rel => exact ⟨2, by omega, by go_num, by simp, by simp, by simp⟩
    case measure => simp [intOf]
   ·have hb : (v != 0) = true := by simpa using hv
    go_wp2_with fail
    go_ret
    exact ⟨ret_int (by simp), rfl⟩
  ·obtain rfl := h1 (by omega)
   obtain rfl := h2 (by omega)
   go_wp2_with fail
   go_ret
   exact ⟨ret_int (by simp), rfl⟩
theorem compareM (a b c d : Int) (w : World) : Calls Tryz.prog 48 #[.agg #[.int .i64 a, .int .i64 b], .agg #[.int .i64 c, .int .i64 d]] w fun e w' => e = .returned (.int .i64 (cmpC a b c d)) ∧ Below w.heap.size w w' := by
 have H1 := Lib.hid (compare a c)
 have H2 := Lib.hid (compare b d)
 have HF := Lib.hid (show cmpC a b c d = (if sg a c ≠ 0 then sg a c else sg b d) from rfl)
 obtain ⟨x, hx⟩ : ∃ x, sg a c = x := ⟨_, rfl⟩
 obtain ⟨y, hy⟩ : ∃ y, sg b d = y := ⟨_, rfl⟩
 rw [hx] at H1 HF
 rw [hy] at H2 HF
 clear hx hy
 have hO := fun (b : Nat) (W : World) => orInt x y b W
 obtain ⟨z, hz0⟩ : ∃ z, (if x ≠ 0 then x else y) = z := ⟨_, rfl⟩
 rw [hz0] at hO HF
 have HO := Lib.hid hO
 clear hO hz0
 have H0 := Lib.hid (show ∀ o1 o2, Ext w ((w.alloc o1).alloc o2) from fun o1 o2 => ((Ext.refl w).alloc o1).alloc o2)
 go_enter Tryz.func48, Tryz.ntmps48
 go_wp2_with fail
 obtain ⟨V, hV⟩ : ∃ V, (w.alloc (.cells #[.int .i64 a, .int .i64 b] 33)).alloc (.cells #[.int .i64 c, .int .i64 d] 33) = V := ⟨_, rfl⟩
 have hE : Ext w V := by rw [← hV]; exact H0.out _ _
 have hz : V.heap.size = w.heap.size + 1 + 1 := by rw [← hV]; simp
 have q0 : V.cell? ⟨w.heap.size, 0, none⟩ = some (.int .i64 a) := by rw [← hV, World.cell?_alloc_old _ _ _ (by simp), World.cell?_alloc_new]; rfl
 have q1 : V.cell? ⟨w.heap.size, 1, none⟩ = some (.int .i64 b) := by rw [← hV, World.cell?_alloc_old _ _ _ (by simp), World.cell?_alloc_new]; rfl
 have q2 : V.cell? ⟨w.heap.size + 1, 0, none⟩ = some (.int .i64 c) := by rw [← hV, show w.heap.size + 1 = (w.alloc (.cells #[.int .i64 a, .int .i64 b] 33)).heap.size by simp, World.cell?_alloc_new]; rfl
 have q3 : V.cell? ⟨w.heap.size + 1, 1, none⟩ = some (.int .i64 d) := by rw [← hV, show w.heap.size + 1 = (w.alloc (.cells #[.int .i64 a, .int .i64 b] 33)).heap.size by simp, World.cell?_alloc_new]; rfl
 rw [hV]
 clear hV H0
 have HE := Lib.hid hE
 have HC := Lib.hid (show (V.alloc (.cells #[.int .i64 x, .int .i64 y] 3)).drew.cell? ⟨w.heap.size + 1 + 1, 0, none⟩ = some (.int .i64 x) ∧ (V.alloc (.cells #[.int .i64 x, .int .i64 y] 3)).drew.cell? ⟨w.heap.size + 1 + 1, 1, none⟩ = some (.int .i64 y) from by
  refine ⟨?_, ?_⟩ <;> (rw [← hz]; show (V.alloc _).cell? _ = _; rw [World.cell?_alloc_new]; rfl))
 have HD := Lib.hid (show Ext w (V.alloc (.cells #[.int .i64 x, .int .i64 y] 3)).drew from (hE.alloc _).drew)
 clear hE
 go_region_held3 (fun w' => (w'.cell? ⟨w.heap.size, 0, none⟩ = some (.int .i64 a) ∧ w'.cell? ⟨w.heap.size, 1, none⟩ = some (.int .i64 b)) ∧ w'.cell? ⟨w.heap.size + 1, 0, none⟩ = some (.int .i64 c) ∧ w'.cell? ⟨w.heap.size + 1, 1, none⟩ = some (.int .i64 d))
  (first | go_keep | (exact ⟨⟨q0, q1⟩, q2, q3⟩))
  (first
   | (go_at_call_of 85 (Value.int .i64 a); refine (H1.out _).mono ?_; rintro e1 w1 ⟨rfl, rfl⟩)
   | (go_at_call_of 85 (Value.int .i64 b); refine (H2.out _).mono ?_; rintro e1 w1 ⟨rfl, rfl⟩)
   | (go_at_call 84; refine (HO.out _ _ (HC.out.1) (HC.out.2)).mono ?_; rintro e1 w1 ⟨rfl, rfl⟩))
 all_goals
  go_wp2_with fail
  go_ret
  exact ⟨ret_int HF.out.symm, HD.out⟩
theorem cost_struct : Tryz.prog.underlying 33 = some (.struct (Tryz.prog.fieldsOf 33)) := by kernel_rfl
theorem cost_held : Tryz.prog.stoodInHeld 33 = false := by kernel_rfl
theorem cost_eq (a b c d : Int) (w : World) : (Op.equalIn 10000 33 (.agg #[.int .i64 a, .int .i64 b]) (.agg #[.int .i64 c, .int .i64 d])).run Tryz.prog w = .ok (decide (a = c) && decide (b = d)) w := by
 rw [show (10000 : Nat) = 9999 + 1 from rfl, run_equalIn_agg w 9999 _ _ _ cost_struct cost_held]
 simp only [Program.fieldsOf, Tryz.underlying33]
 go_simp
 by_cases h1 : a = c <;> by_cases h2 : b = d <;> simp [h1, h2]
theorem specCompareCosts (a b c d : Int) (w : World) : Calls Tryz.prog 77 #[.agg #[.int .i64 a, .int .i64 b], .agg #[.int .i64 c, .int .i64 d]] w fun e w' => e = .returned (.int .i64 (cmpC a b c d)) ∧ Below w.heap.size w w' := by
 have H0 := Lib.hid (show ∀ o1 o2, Ext w ((w.alloc o1).alloc o2) from fun o1 o2 => ((Ext.refl w).alloc o1).alloc o2)
 have heq := cost_eq a b c d
 rcases Int.lt_trichotomy a c with h | h | h
 ·have HF := Lib.hid (show cmpC a b c d = -1 by rw [cmpC, sg_lt h]; rfl)
  clear heq
  go_enter Tryz.func77, Tryz.ntmps77
  go_wp2_with fail
  go_ret
  exact ⟨ret_int HF.out.symm, H0.out _ _⟩
 ·subst h
  rcases Int.lt_trichotomy b d with h | h | h
  ·have HF := Lib.hid (show cmpC a b a d = -1 by rw [cmpC, sg_eq rfl, sg_lt h]; rfl)
   clear heq
   go_enter Tryz.func77, Tryz.ntmps77
   go_wp2_with fail
   go_ret
   exact ⟨ret_int HF.out.symm, H0.out _ _⟩
  ·subst h
   have HF := Lib.hid (show cmpC a b a b = 0 by rw [cmpC, sg_eq rfl, sg_eq rfl]; rfl)
   rw [show (decide (a = a) && decide (b = b)) = true by simp] at heq
   go_enter Tryz.func77, Tryz.ntmps77
   go_wp2_with fail
   go_ret
   exact ⟨ret_int HF.out.symm, H0.out _ _⟩
  ·have HF := Lib.hid (show cmpC a b a d = 1 by rw [cmpC, sg_eq rfl, sg_gt h]; rfl)
   rw [show (decide (a = a) && decide (b = d)) = false by simp; omega] at heq
   have hn : ¬ (b < d) := by omega
   go_enter Tryz.func77, Tryz.ntmps77
   go_wp2_with fail
   go_ret
   exact ⟨ret_int HF.out.symm, H0.out _ _⟩
 ·have HF := Lib.hid (show cmpC a b c d = 1 by rw [cmpC, sg_gt h]; rfl)
  rw [show (decide (a = c) && decide (b = d)) = false by simp; omega] at heq
  have hn : ¬ (a < c) := by omega
  have hn2 : (a == c) = false := by simp; omega
  have hn3 : a ≠ c := by omega
  go_enter Tryz.func77, Tryz.ntmps77
  go_wp2_with fail
  go_ret
  exact ⟨ret_int HF.out.symm, H0.out _ _⟩
def wv (x : Int) : Bool := decide (0 ≤ x) && decide (x ≤ 200)
theorem widthValid (x : Int) (w : World) : Calls Tryz.prog 43 #[.int .i64 x] w fun e w' => e = .returned (.bool (wv x)) ∧ w' = w := by
 by_cases h0 : 0 ≤ x
 ·by_cases h1 : x ≤ 200
  ·have HF := Lib.hid (show wv x = true by simp [wv, h0, h1])
   go_enter Tryz.func43, Tryz.ntmps43
   go_wp2_with fail
   go_ret
   exact ⟨by rw [HF.out]; rfl, rfl⟩
  ·have HF := Lib.hid (show wv x = false by simp [wv, h1])
   go_enter Tryz.func43, Tryz.ntmps43
   go_wp2_with fail
   go_ret
   exact ⟨by rw [HF.out]; rfl, rfl⟩
 ·have HF := Lib.hid (show wv x = false by simp [wv, h0])
  go_enter Tryz.func43, Tryz.ntmps43
  go_wp2_with fail
  go_ret
  exact ⟨by rw [HF.out]; rfl, rfl⟩
theorem pair_set {W : World} {b : Nat} {u0 u1 u u' : Value} (h0 : W.cell? ⟨b, 0, none⟩ = some u0) (h1 : W.cell? ⟨b, 1, none⟩ = some u1) (hb : b < W.heap.size) :
  ((W.setCell ⟨b, 0, none⟩ u).setCell ⟨b, 1, none⟩ u').cell? ⟨b, 0, none⟩ = some u ∧ ((W.setCell ⟨b, 0, none⟩ u).setCell ⟨b, 1, none⟩ u').cell? ⟨b, 1, none⟩ = some u' ∧ b < ((W.setCell ⟨b, 0, none⟩ u).setCell ⟨b, 1, none⟩ u').heap.size := by
 refine ⟨?_, ?_, by simpa using hb⟩
 ·rw [World.cell?_setCell_other _ _ _ _ (by simp)]
  exact World.cell?_setCell_same _ _ _ h0
 ·exact World.cell?_setCell_same _ _ _ (by rw [World.cell?_setCell_other _ _ _ _ (by simp)]; exact h1)
theorem rowsCost (l : List (Int × ByteArray)) (x : Int) (w : World) (a : Option Addr) (cap : Nat) (fs : List Nat) (hs : LaySub w a l fs) (hc : l.length ≤ cap) (hlv : lv l = true) (hx0 : 0 ≤ x) (hx1 : x ≤ 9223372036854775807) :
  Calls Tryz.prog 45 #[.slice a l.length cap, .int .i64 x] w fun e w' => e = .returned (.agg #[.int .i64 (ov x l), .int .i64 (l.length : Int)]) ∧ Below w.heap.size w w' := by
 have H := Lib.hid (fun (W : World) (hW : Ext w W) => rowsOver l x W a cap fs (hs.below hs.lt hW) hc hlv hx0 hx1)
 have H0 := Lib.hid (show ∀ o1, Ext w (w.alloc o1) from fun o1 => (Ext.refl w).alloc o1)
 have hl2 := (lv_len hlv).2
 obtain ⟨m, hm⟩ : ∃ m, l.length = m := ⟨_, rfl⟩
 obtain ⟨v, hv⟩ : ∃ v, ov x l = v := ⟨_, rfl⟩
 rw [hm] at H hc hl2 ⊢
 rw [hv] at H ⊢
 clear hm hv hs hlv
 go_enter Tryz.func45, Tryz.ntmps45
 go_wp2_with fail
 refine (H.out _ (H0.out _)).mono ?_
 rintro e1 w1 ⟨rfl, hb⟩
 have H1 := Lib.hid ((H0.out _).trans hb)
 have hc0 : w1.cell? ⟨w.heap.size, 0, none⟩ = some (.int .i64 0) := (Below.cell (p := ⟨w.heap.size, 0, none⟩) hb (by simp)).trans (by rw [World.cell?_alloc_new]; rfl)
 have hc1 : w1.cell? ⟨w.heap.size, 1, none⟩ = some (.int .i64 0) := (Below.cell (p := ⟨w.heap.size, 1, none⟩) hb (by simp)).trans (by rw [World.cell?_alloc_new]; rfl)
 have hz0 : w1.frozen? ⟨w.heap.size, 0, none⟩ = false := (Below.frozen (p := ⟨w.heap.size, 0, none⟩) hb (by simp)).trans (World.frozen?_alloc_new _ _ _ _)
 have hz1 : w1.frozen? ⟨w.heap.size, 1, none⟩ = false := (Below.frozen (p := ⟨w.heap.size, 1, none⟩) hb (by simp)).trans (World.frozen?_alloc_new _ _ _ _)
 go_wp2_with fail
 obtain ⟨r0, r1, rl⟩ := pair_set (u := .int .i64 v) (u' := .int .i64 (m : Int)) hc0 hc1 (Nat.lt_of_lt_of_le (by simp) hb.size : w.heap.size < w1.heap.size)
 refine bodyPost_ret (v := .agg #[.int .i64 v, .int .i64 (m : Int)]) (by simp [results, Tryz.results45, go_sem, r0, r1, rl]) rfl ?_
 exact ⟨rfl, (H1.out.setNew (Nat.le_refl _) _).setNew (Nat.le_refl _) _⟩
end Go.Proofs.YtclifbjnooilmaaGreat.Cst
namespace Go.Proofs.YtclifbjnooilmaaGreat.Cst
open Go.RowKit P1 TextV LayV LayW
theorem l5Cost (l : List (Int × ByteArray)) (x : Int) (w : World) (a : Option Addr) (cap : Nat) (fs : List Nat) (hs : LaySub w a l fs) (hc : l.length ≤ cap) (hlv : lv l = true) (hx0 : 0 ≤ x) (hx1 : x ≤ 9223372036854775807) :
  Calls Tryz.prog 52 #[.slice a l.length cap, .int .i64 x] w fun e w' => e = .returned (.agg #[.int .i64 (ov x l), .int .i64 (l.length : Int)]) ∧ Below w.heap.size w w' := by
 have H := Lib.hid (fun (W : World) (hW : Ext w W) => l2Over l x W a cap fs (hs.below hs.lt hW) hc hlv hx0 hx1)
 have H0 := Lib.hid (show ∀ o1, Ext w (w.alloc o1) from fun o1 => (Ext.refl w).alloc o1)
 have hl2 := (lv_len hlv).2
 obtain ⟨m, hm⟩ : ∃ m, l.length = m := ⟨_, rfl⟩
 obtain ⟨v, hv⟩ : ∃ v, ov x l = v := ⟨_, rfl⟩
 rw [hm] at H hc hl2 ⊢
 rw [hv] at H ⊢
 clear hm hv hs hlv
 go_enter Tryz.func52, Tryz.ntmps52
 go_wp2_with fail
 refine (H.out _ (H0.out _)).mono ?_
 rintro e1 w1 ⟨rfl, hb⟩
 have H1 := Lib.hid ((H0.out _).trans hb)
 have hc0 : w1.cell? ⟨w.heap.size, 0, none⟩ = some (.int .i64 0) := (Below.cell (p := ⟨w.heap.size, 0, none⟩) hb (by simp)).trans (by rw [World.cell?_alloc_new]; rfl)
 have hc1 : w1.cell? ⟨w.heap.size, 1, none⟩ = some (.int .i64 0) := (Below.cell (p := ⟨w.heap.size, 1, none⟩) hb (by simp)).trans (by rw [World.cell?_alloc_new]; rfl)
 have hz0 : w1.frozen? ⟨w.heap.size, 0, none⟩ = false := (Below.frozen (p := ⟨w.heap.size, 0, none⟩) hb (by simp)).trans (World.frozen?_alloc_new _ _ _ _)
 have hz1 : w1.frozen? ⟨w.heap.size, 1, none⟩ = false := (Below.frozen (p := ⟨w.heap.size, 1, none⟩) hb (by simp)).trans (World.frozen?_alloc_new _ _ _ _)
 go_wp2_with fail
 obtain ⟨r0, r1, rl⟩ := pair_set (u := .int .i64 v) (u' := .int .i64 (m : Int)) hc0 hc1 (Nat.lt_of_lt_of_le (by simp) hb.size : w.heap.size < w1.heap.size)
 refine bodyPost_ret (v := .agg #[.int .i64 v, .int .i64 (m : Int)]) (by simp [results, Tryz.results52, go_sem, r0, r1, rl]) rfl ?_
 exact ⟨rfl, (H1.out.setNew (Nat.le_refl _) _).setNew (Nat.le_refl _) _⟩
theorem wv_bd {x : Int} (h : wv x = true) : 0 ≤ x ∧ x ≤ 200 := by simpa [wv] using h
theorem cell0 {w w' : World} {o : Obj} {T : TypeId} (h : Below (w.alloc (.cells #[.int .i64 0, .int .i64 0] T)).heap.size (w.alloc (.cells #[.int .i64 0, .int .i64 0] T)) w') :
  w'.cell? ⟨w.heap.size, 0, none⟩ = some (.int .i64 0) ∧ w'.cell? ⟨w.heap.size, 1, none⟩ = some (.int .i64 0) ∧ w'.frozen? ⟨w.heap.size, 0, none⟩ = false ∧ w'.frozen? ⟨w.heap.size, 1, none⟩ = false ∧ w.heap.size < w'.heap.size :=
 ⟨(Below.cell (p := ⟨w.heap.size, 0, none⟩) h (by simp)).trans (by rw [World.cell?_alloc_new]; rfl), (Below.cell (p := ⟨w.heap.size, 1, none⟩) h (by simp)).trans (by rw [World.cell?_alloc_new]; rfl),
  (Below.frozen (p := ⟨w.heap.size, 0, none⟩) h (by simp)).trans (World.frozen?_alloc_new _ _ _ _), (Below.frozen (p := ⟨w.heap.size, 1, none⟩) h (by simp)).trans (World.frozen?_alloc_new _ _ _ _), Nat.lt_of_lt_of_le (by simp) h.size⟩
end Go.Proofs.YtclifbjnooilmaaGreat.Cst
namespace Go.Proofs.YtclifbjnooilmaaGreat.Cst
open Go.RowKit Go.ChangeShapes Go.WideShapes Go.ChangeAt P1 TextV LayV LayW
section
variable {H : Type} {enc : TypeId × Value → H} {w : World} {base : Nat} {spare : Nat → Bool} {held : Bool}
end
end Go.Proofs.YtclifbjnooilmaaGreat.Cst
