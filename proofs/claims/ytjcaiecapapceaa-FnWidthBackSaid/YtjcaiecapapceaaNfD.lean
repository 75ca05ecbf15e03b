import Derived.Test.YtjcaiecapapceaaNfB
import Derived.Test.YtjcaiecapapceaaCntC
/-
 PushNest of the program: inNests, pushInto, pushNest, PushNest.
-/
set_option linter.unusedVariables false
set_option linter.unusedSimpArgs false
set_option maxRecDepth 100000
set_option maxHeartbeats 3200000
namespace Go.Proofs.Ytjcaiecapapceaa.Nf
open Go.RowKit P1 Copy CatD
def NeAt (w : World) (i : Nat) (d : D) (v : Value) (wr : World) : Prop :=
 ∃ (j : Nat) (d' : D) (a : Option Addr) (cap : Nat) (fs : List Nat), v = .int .i64 j ∧ j ≤ i ∧ nests j d' = nests i d ∧ Below w.heap.size w wr ∧ DocAt wr w.heap.size d'.1 d'.2.1 d'.2.2.1 d'.2.2.2 a cap fs ∧ Fresh (w.heap.size + 2) wr fs ∧ ZBox wr (w.heap.size + 1) ∧ (∀ j, wr.frozen? ⟨w.heap.size, j, none⟩ = false)
theorem ne_start (w : World) (i : Nat) (o n : Int) (t : ByteArray) (a : Option Addr) (cap : Nat) (T : TypeId) : NeAt w i (o, n, t, .nil) (.int .i64 i) ((w.alloc (.cells #[.int .i64 o, .int .i64 n, .string t, .slice a 0 cap] T)).alloc (.cells #[.int .i64 0, .int .i64 0, .string ⟨#[]⟩, .slice none 0 0] T)) := by
 refine ⟨i, (o, n, t, .nil), a, cap, [], rfl, Nat.le_refl _, rfl, ((Ext.refl w).alloc _).alloc _, ?_, Fresh.nil _ _, zbox_second w _ T, fun j => ?_⟩
 ·exact (DocAt.new (k := .nil) (w := w) (Or.inl ⟨rfl, rfl⟩) (fun c hc => by cases hc) (Nat.zero_le _) o n t T).ext ((Ext.refl _).alloc _)
 ·rw [((Below.refl _ _).alloc (Nat.le_refl _) _).frozen (p := ⟨_, _, _⟩) (by simp), World.frozen?_alloc_new]
theorem ne_round {w wr : World} {i j : Nat} {d d' : D} {a : Option Addr} {cap : Nat} {fs : List Nat} (hj : 0 < j) (hji : j ≤ i) (hn : nests j d' = nests i d) (hb : Below w.heap.size w wr) (hD : DocAt wr w.heap.size d'.1 d'.2.1 d'.2.2.1 d'.2.2.2 a cap fs) (hF : Fresh (w.heap.size + 2) wr fs) (hZ : ZBox wr (w.heap.size + 1)) (hz : ∀ j, wr.frozen? ⟨w.heap.size, j, none⟩ = false)
  (m : Nat) (hm : m = min j 9) (T : TypeId) (q : Int) (hq : q = ((j - m : Nat) : Int))
  {l : Nat} (hl : d'.2.2.2.len = l) :
  NeAt w i d (.int .i64 q) (((((wr.setCell ⟨w.heap.size, 0, none⟩ (.int .i64 6)).setCell ⟨w.heap.size, 1, none⟩ (.int .i64 m)).setCell ⟨w.heap.size, 2, none⟩ (.string ⟨#[]⟩)).setCell ⟨w.heap.size, 3, none⟩ (.slice (some ⟨wr.heap.size, 0, none⟩) 1 1)).alloc (.cells #[.int .i64 d'.1, .int .i64 d'.2.1, .string d'.2.2.1, .slice a l cap] T)) := by
 subst hl
 have hblt : w.heap.size < wr.heap.size := hD.blt
 rw [← World.setCell_alloc_past _ _ _ _ (by simpa using hblt), ← World.setCell_alloc_past _ _ _ _ (by simpa using hblt), ← World.setCell_alloc_past _ _ _ _ (by simpa using hblt), ← World.setCell_alloc_past _ _ _ _ hblt]
 subst hq
 have hz1 := hZ.2.2
 have hD1 := hD.ext ((Ext.refl wr).alloc (.cells #[.int .i64 d'.1, .int .i64 d'.2.1, .string d'.2.2.1, .slice a d'.2.2.2.len cap] T))
 obtain ⟨b0, b1, b2, b3⟩ := hD1.box
 have hrow : RowAt (wr.alloc (.cells #[.int .i64 d'.1, .int .i64 d'.2.1, .string d'.2.2.1, .slice a d'.2.2.2.len cap] T)) (consD d' .nil) wr.heap.size 0 fs :=
  RowAt.cons_iff.2 ⟨a, cap, fs, [], cell_new _ _ _ 0 _ rfl, cell_new _ _ _ 1 _ rfl, cell_new _ _ _ 2 _ rfl, cell_new _ _ _ 3 _ rfl, hD.cap_le, hD1.sub, rfl, by simp⟩
 have hsub : SubAt (wr.alloc (.cells #[.int .i64 d'.1, .int .i64 d'.2.1, .string d'.2.2.1, .slice a d'.2.2.2.len cap] T)) (some ⟨wr.heap.size, 0, none⟩) (consD d' .nil) (wr.heap.size :: fs) := Or.inr ⟨_, 0, fs, rfl, (by intro e; cases e), rfl, hrow⟩
 have hnd : wr.heap.size ∉ fs := fun hm => by have := hF.lt _ hm; omega
 have hfr : Fresh (w.heap.size + 2) (wr.alloc (.cells #[.int .i64 d'.1, .int .i64 d'.2.1, .string d'.2.2.1, .slice a d'.2.2.2.len cap] T)) (wr.heap.size :: fs) := by
  have h1 := ((Ext.refl wr).alloc (.cells #[.int .i64 d'.1, .int .i64 d'.2.1, .string d'.2.2.1, .slice a d'.2.2.2.len cap] T)).fresh hF
  refine ⟨List.nodup_cons.2 ⟨hnd, h1.1⟩, fun c hc => ?_⟩
  rcases List.mem_cons.1 hc with rfl | hc
  ·exact ⟨by omega, by simp, fun o => World.frozen?_alloc_new _ _ _ _⟩
  ·exact h1.2 c hc
 have hlt : ∀ c ∈ wr.heap.size :: fs, c < (wr.alloc (.cells #[.int .i64 d'.1, .int .i64 d'.2.1, .string d'.2.2.1, .slice a d'.2.2.2.len cap] T)).heap.size := hfr.lt
 have hnb : w.heap.size ∉ wr.heap.size :: fs := fun hm => by have := (hfr.2 _ hm).1; omega
 have hst := DocAt.stored (o := 6) (n := (m : Int)) (t := ⟨#[]⟩) (k := consD d' .nil) (cap := 1) hsub hlt (Nat.le_refl 1) hnb hD1.blt b0 b1 b2 b3
 have hT : Touch w.heap.size (w.heap.size + 1) (wr.alloc (.cells #[.int .i64 d'.1, .int .i64 d'.2.1, .string d'.2.2.1, .slice a d'.2.2.2.len cap] T)) (((((wr.alloc (.cells #[.int .i64 d'.1, .int .i64 d'.2.1, .string d'.2.2.1, .slice a d'.2.2.2.len cap] T)).setCell ⟨w.heap.size, 0, none⟩ (.int .i64 6)).setCell ⟨w.heap.size, 1, none⟩ (.int .i64 m)).setCell ⟨w.heap.size, 2, none⟩ (.string ⟨#[]⟩)).setCell ⟨w.heap.size, 3, none⟩ (.slice (some ⟨wr.heap.size, 0, none⟩) 1 1)) := by
  refine Touch.setCell (Touch.setCell (Touch.setCell (Touch.setCell (Touch.refl _ _ _) ?_ ?_ _) ?_ ?_ _) ?_ ?_ _) ?_ ?_ _ <;> simp
 refine ⟨j - m, (6, (m : Int), ⟨#[]⟩, consD d' .nil), some ⟨wr.heap.size, 0, none⟩, 1, wr.heap.size :: fs, rfl, by omega, ?_, hT.below (hb.alloc hb.size _) (Nat.le_refl _), hst, hT.fresh hfr (fun c hc => Or.inr (by have := (hfr.2 c hc).1; omega)), ?_, fun j => ?_⟩
 ·rw [← hn, nests.eq_1 j d', dif_pos hj, ← hm]
 ·have hz2 := hZ.ext ((Ext.refl wr).alloc (.cells #[.int .i64 d'.1, .int .i64 d'.2.1, .string d'.2.2.1, .slice a d'.2.2.2.len cap] T))
  obtain ⟨⟨h0, h1, h2, h3⟩, ⟨y0, y1, y2, y3⟩, hl⟩ := hz2
  exact ⟨⟨(hT.cell (Or.inr (by omega))).trans h0, (hT.cell (Or.inr (by omega))).trans h1, (hT.cell (Or.inr (by omega))).trans h2, (hT.cell (Or.inr (by omega))).trans h3⟩, ⟨(hT.frozen (Or.inr (by omega))).trans y0, (hT.frozen (Or.inr (by omega))).trans y1, (hT.frozen (Or.inr (by omega))).trans y2, (hT.frozen (Or.inr (by omega))).trans y3⟩, by rw [hT.size]; exact hl⟩
 ·simp only [World.frozen?_setCell]
  rw [((Ext.refl wr).alloc _).frozen hD.blt]; exact hz j
end Go.Proofs.Ytjcaiecapapceaa.Nf
namespace Go.Proofs.Ytjcaiecapapceaa.Nf
open Go.RowKit P1 Copy CatD
theorem isNew_yes (W : World) (x : Int) (h : x = 3 ∨ x = 4 ∨ x = 5) : Calls Try.prog 98 #[.int .i64 x] W fun e w' => e = .returned (.bool true) ∧ w' = W := by
 rcases h with rfl | rfl | rfl
 all_goals
  go_enter Try.func98, Try.ntmps98
  go_wp2_with fail
  go_ret
  exact ⟨rfl, rfl⟩
theorem isNew_no (W : World) (x : Int) (h3 : x ≠ 3) (h4 : x ≠ 4) (h5 : x ≠ 5) : Calls Try.prog 98 #[.int .i64 x] W fun e w' => e = .returned (.bool false) ∧ w' = W := by
 have q3 : (x == 3) = false := by rw [beq_eq_false_iff_ne]; exact h3
 have q4 : (x == 4) = false := by rw [beq_eq_false_iff_ne]; exact h4
 have q5 : (x == 5) = false := by rw [beq_eq_false_iff_ne]; exact h5
 go_enter Try.func98, Try.ntmps98
 go_wp2_with fail
 go_ret
 exact ⟨rfl, rfl⟩
end Go.Proofs.Ytjcaiecapapceaa.Nf
namespace Go.Proofs.Ytjcaiecapapceaa.Nf
open Go.RowKit P1 Copy CatD
end Go.Proofs.Ytjcaiecapapceaa.Nf
namespace Go.Proofs.Ytjcaiecapapceaa.Nf
open Go.RowKit P1 Copy CatD
theorem l7Nest (w : World) (o n : Int) (t : ByteArray) (a : Option Addr) (cap i : Nat) (hi : i ≤ 100000) :
  Calls Try.prog 124 #[.agg #[.int .i64 o, .int .i64 n, .string t, .slice a 0 cap], .int .i64 i] w (NewD w (nests i (o, n, t, .nil))) := by
 have HST := Lib.hid (ne_start w i o n t a cap 25)
 obtain ⟨d9, hd9⟩ : ∃ d : D, nests i (o, n, t, .nil) = d := ⟨_, rfl⟩
 rw [hd9]
 have H9 := Lib.hid hd9
 clear hd9
 go_enter Try.func124, Try.ntmps124
 go_wp2_with fail
 go_loopw [1, 5] (fun v u wr => NeAt w i (o, n, t, .nil) v wr) (fun v _ _ => (intOf v).toNat)
 case atStart => exact HST.out
 case round =>
  obtain ⟨j, ⟨o1, n1, t1, k1⟩, a1, c1, f1, rfl, hji, hnn, hbw, hD, hF, hZ, hz⟩ := hrel
  simp only at hD
  obtain ⟨b0, b1, b2, b3⟩ := hD.box
  have hl0 := hD.blt
  have zf0 := hz 0
  have zf1 := hz 1
  have zf2 := hz 2
  have zf3 := hz 3
  by_cases hj0 : 0 < j
  ·have i0 : (0 : Int) < (j : Int) := by omega
   obtain ⟨L1, hL1⟩ : ∃ L, k1.len = L := ⟨_, rfl⟩
   have HL1 := Lib.hid hL1
   obtain ⟨M, hM⟩ : ∃ M, min j 9 = M := ⟨_, rfl⟩
   have hMj : M ≤ j := by omega
   have hM0 : 0 < M := by omega
   have hM9 : M ≤ 9 := by omega
   have HX := Lib.hid (And.intro hnn (And.intro hbw (And.intro hD (And.intro hF (And.intro hZ hz)))))
   have HM := Lib.hid hM.symm
   have i1 : (0 : Int) ≤ (j : Int) := Int.natCast_nonneg _
   have i3 : (j : Int) ≤ 200000 := by omega
   by_cases h9 : 9 < j
   ·have hM9' : M = 9 := by omega
    have i4 : (9 : Int) < (j : Int) := by omega
    have hcast : ((M : Nat) : Int) = 9 := by omega
    clear hnn hbw hD hF hZ hM
    go_wp2_with fail
    go_roundw
    case rel => 
     have := ne_round hj0 hji HX.out.1 HX.out.2.1 HX.out.2.2.1 HX.out.2.2.2.1 HX.out.2.2.2.2.1 HX.out.2.2.2.2.2 M HM.out 25 ((j : Int) - 9) (by omega) HL1.out
     rw [hcast] at this
     exact this
    case measure => simp [intOf]; omega
   ·have hM9' : M = j := by omega
    have i4 : ¬ ((9 : Int) < (j : Int)) := by omega
    subst hM9'
    clear hnn hbw hD hF hZ hM
    go_wp2_with fail
    go_roundw
    case rel => exact ne_round hj0 hji HX.out.1 HX.out.2.1 HX.out.2.2.1 HX.out.2.2.2.1 HX.out.2.2.2.2.1 HX.out.2.2.2.2.2 M HM.out _ 0 (by omega) HL1.out
    case measure => simp [intOf]; omega
  ·have i0 : ¬ ((0 : Int) < (j : Int)) := by omega
   have hd9 : ((o1, n1, t1, k1) : D) = d9 := by rw [← H9.out, ← hnn, nests.eq_1, dif_neg hj0]
   subst hd9
   obtain ⟨⟨z0, z1, z2, z3⟩, ⟨z4, z5, z6, z7⟩, z8⟩ := hZ
   obtain ⟨L1, hL1⟩ : ∃ L, k1.len = L := ⟨_, rfl⟩
   rw [hL1] at b3
   have HL1 := Lib.hid hL1
   have HX := Lib.hid (And.intro hbw (And.intro hD hF))
   clear hnn hbw hD hF hL1
   go_wp2_with fail
   refine bodyPost_ret (v := .agg #[.int .i64 o1, .int .i64 n1, .string t1, .slice a1 L1 c1]) (by simp [results, Try.results124, go_sem, z0, z1, z2, z3, z4, z5, z6, z7, z8, hl0]) rfl ?_
   refine end_but (x := w.heap.size + 1) (lo := w.heap.size + 2) (w3 := wr) HL1.out HX.out.2.1.sub HX.out.2.2 HX.out.2.1.cap_le (by omega) (by omega) HX.out.1 (by repeat (first | exact But.refl _ _ _ | refine But.setCell ?_ (Or.inl (by rfl)) _ | refine But.alloc ?_ (by simp) _))
theorem specNew_yes (W : World) (o n : Int) (t : ByteArray) (a : Option Addr) (l cap : Nat) (h : o = 3 ∨ o = 4 ∨ o = 5) :
  Calls Try.prog 123 #[.agg #[.int .i64 o, .int .i64 n, .string t, .slice a l cap]] W fun e w' => e = .returned (.bool true) ∧ w' = W.alloc (.cells #[.int .i64 o, .int .i64 n, .string t, .slice a l cap] 25) := by
 rcases h with rfl | rfl | rfl
 all_goals
  go_enter Try.func123, Try.ntmps123
  go_wp2_with fail
  go_ret
  exact ⟨rfl, rfl⟩
theorem specNew_no (W : World) (o n : Int) (t : ByteArray) (a : Option Addr) (l cap : Nat) (h3 : o ≠ 3) (h4 : o ≠ 4) (h5 : o ≠ 5) :
  Calls Try.prog 123 #[.agg #[.int .i64 o, .int .i64 n, .string t, .slice a l cap]] W fun e w' => e = .returned (.bool false) ∧ w' = W.alloc (.cells #[.int .i64 o, .int .i64 n, .string t, .slice a l cap] 25) := by
 have q3 : (o == 3) = false := by rw [beq_eq_false_iff_ne]; exact h3
 have q4 : (o == 4) = false := by rw [beq_eq_false_iff_ne]; exact h4
 have q5 : (o == 5) = false := by rw [beq_eq_false_iff_ne]; exact h5
 go_enter Try.func123, Try.ntmps123
 go_wp2_with fail
 go_ret
 exact ⟨rfl, rfl⟩
theorem kd_start2 (w : World) (o n : Int) (t : ByteArray) (u : Value) (φ : Rule) (k : F) (T : TypeId) (ob : Obj) : KdAt w o n t u φ k (.slice (some ⟨w.heap.size + 1 + 1 + 1, 0, none⟩) 0 0) (.int .i64 0)
  ((((w.alloc (.cells #[.int .i64 o, .int .i64 n, .string t, u] T)).alloc (.cells #[.int .i64 0, .int .i64 0, .string ⟨#[]⟩, .slice none 0 0] T)).alloc ob).alloc (.cells #[] 25)) := by
 obtain ⟨W1, hW1⟩ : ∃ W, ((w.alloc (.cells #[.int .i64 o, .int .i64 n, .string t, u] T)).alloc (.cells #[.int .i64 0, .int .i64 0, .string ⟨#[]⟩, .slice none 0 0] T)).alloc ob = W := ⟨_, rfl⟩
 have e : W1.heap.size = w.heap.size + 1 + 1 + 1 := by rw [← hW1]; simp
 have e2 : Ext ((w.alloc (.cells #[.int .i64 o, .int .i64 n, .string t, u] T)).alloc (.cells #[.int .i64 0, .int .i64 0, .string ⟨#[]⟩, .slice none 0 0] T)) W1 := by rw [← hW1]; exact (Ext.refl _).alloc _
 rw [hW1]
 refine ⟨0, .nil, k, [], rfl, rfl, rfl, ?_, (Ext.trans (((Ext.refl w).alloc _).alloc _) e2).alloc _, ?_, ?_⟩
 ·have := Grow.made W1 25 (w.heap.size + 2) (by rw [e]; omega)
  rw [e] at this
  exact this
 ·have h1 : Four w.heap.size (.int .i64 o) (.int .i64 n) (.string t) u (w.alloc (.cells #[.int .i64 o, .int .i64 n, .string t, u] T)) := by
   refine ⟨?_, ?_, ?_, ?_⟩ <;> (rw [World.cell?_alloc_new]; rfl)
  exact (h1.below ((Below.refl _ _).alloc (Nat.le_refl _) _) (by simp)).below (e2.alloc _) (by simp; omega)
 ·exact ((zbox_second w _ T).ext e2).ext ((Ext.refl _).alloc _)
def PsS (f : F) : Prop := ∀ (w : World) (o n : Int) (t : ByteArray) (k : F) (p r : F) (a : Option Addr) (cap : Nat) (fs : List Nat) (i : Nat), f = p.app (.cons o n t k r) → nice f = true → f.cnt ≤ 10000 → i + 9 * f.deep ≤ 100000 → SubAt w a k fs → (∀ c ∈ fs, c < w.heap.size) → k.len ≤ cap →
 Calls Try.prog 88 #[.agg #[.int .i64 o, .int .i64 n, .string t, .slice a k.len cap], .int .i64 i] w (NewD w (pushD i o n t k))
theorem ps_other (w : World) (o n : Int) (t : ByteArray) (k : F) (i : Nat) (ih : PsS k) (h3 : o ≠ 3) (h4 : o ≠ 4) (h5 : o ≠ 5) (h6 : o ≠ 6) (hnk : nice k = true) (hcnt : k.cnt ≤ 10000) (hi : i + 9 * k.deep ≤ 100000) (a : Option Addr) (cap : Nat) (fs : List Nat) (hs : SubAt w a k fs) (hfs : ∀ c ∈ fs, c < w.heap.size) (hc : k.len ≤ cap) :
  Calls Try.prog 88 #[.agg #[.int .i64 o, .int .i64 n, .string t, .slice a k.len cap], .int .i64 i] w (NewD w (o, n, t, pushL k i)) := by
 rw [pushL_map]
 obtain ⟨φ, hφφ⟩ : ∃ φ, pushD i = φ := ⟨_, rfl⟩
 have ih := fun (w : World) (o n : Int) (t : ByteArray) (k1 : F) (p r : F) (a : Option Addr) (cap : Nat) (fs : List Nat) (h : k = p.app (.cons o n t k1 r)) => ih w o n t k1 p r a cap fs i h hnk hcnt hi
 rw [hφφ] at ih ⊢
 have q6 : (o == 6) = false := by rw [beq_eq_false_iff_ne]; exact h6
 have HN := Lib.hid (fun (W : World) (n : Int) (t : ByteArray) (a : Option Addr) (l cap : Nat) => specNew_no W o n t a l cap h3 h4 h5)
 obtain ⟨i0, hi, hz0, hz1, hz2⟩ := info_parts To.info
 obtain ⟨L, hL⟩ : ∃ L, k.len = L := ⟨_, rfl⟩
 rw [hL] at hc ⊢
 have HL := Lib.hid hL
 have HML := Lib.hid (show (mapL φ k).len = L by rw [len_mapL, hL])
 have hL4 : L ≤ 4194304 := by have := F.len_le_cnt k; omega
 clear hL
 have hsub : 0 < L → ∃ b off f', a = some ⟨b, off, none⟩ ∧ RowAt w k b off f' ∧ b < w.heap.size ∧ ∀ c ∈ f', c < w.heap.size := by
  intro h0
  rcases hs with ⟨rfl, rfl⟩ | ⟨b, off, f', rfl, hnil, rfl, hrow⟩
  ·have := HL.out; simp only [F.len] at this; omega
  ·exact ⟨b, off, f', rfl, hrow, hfs b (by simp), fun c hc => hfs c (by simp [hc])⟩
 have HSUB := Lib.hid hsub
 have IH := Lib.hid ih
 have HI := Lib.hid (And.intro hi (And.intro hz0 (And.intro hz1 hz2)))
 have HST := Lib.hid (kd_start2 w o n t (.slice a L cap) φ k 25 (.cells #[.int .i64 o, .int .i64 n, .string t, .slice a L cap] 25))
 clear hsub hs hfs ih hi hz0 hz1 hz2 hnk hcnt h3 h4 h5 h6
 go_enter Try.func88, Try.ntmps88
 go_wp2_with (go_at_call 123; refine (HN.out _ _ _ _ _ _).mono ?_; rintro e1 w1 ⟨rfl, rfl⟩)
 go_loopw [5, 6] (fun v i wr => KdAt w o n t (.slice a L cap) φ k v i wr) (fun _ i _ => L - (intOf i).toNat)
 case atStart => exact HST.out
 case round =>
  obtain ⟨j, p, g, fs1, rfl, h3, h5, hG, hbw, hfv, hzb⟩ := hrel
  have h7 : g.len = L - j := by have := HL.out; rw [h3, F.len_app, h5] at this; omega
  have hjL0 : j ≤ L := by have := HL.out; rw [h3, F.len_app, h5] at this; omega
  obtain ⟨x0, x1, x2, x3⟩ := hfv
  have hsz0 : w.heap.size + 1 < wr.heap.size := hzb.2.2
  cases g with
  | nil =>
    have hjL : L = j := by simp only [F.len] at h7; omega
    subst hjL
    rw [F.app_nil] at h3
    subst h3
    obtain ⟨a', cap', rfl, hcap', hsub', hcm⟩ := hG.slice
    obtain ⟨⟨z0, z1, z2, z3⟩, ⟨z4, z5, z6, z7⟩, z8⟩ := hzb
    have HQ := Lib.hid (And.intro hsub' (And.intro hG.fresh (And.intro hbw hcap')))
    clear hG hbw hsub' h7 hcm hcap' h5 hjL0
    rw [HML.out]
    have hsubK := HQ.out.1
    have hl0 : w.heap.size < wr.heap.size := by omega
    have HZB := Lib.hid (show ZBox wr (w.heap.size + 1) from ⟨⟨z0, z1, z2, z3⟩, ⟨z4, z5, z6, z7⟩, z8⟩)
    go_wp2_with (first
     | (go_at_call 122; refine (specEmpty _ _ _ _ _ _ _).mono ?_; rintro e1 w3 ⟨rfl, rfl⟩)
     | (go_at_call 79; refine (specMap _ _ _ _ _ _ _ _ _ _).mono ?_; rintro e1 w3 ⟨rfl, hb3⟩; have q3 : Ext wr w3 := (by first | exact hb3 | exact ((Ext.refl wr).alloc _).trans hb3 | exact (((Ext.refl wr).alloc _).alloc _).trans hb3); obtain ⟨⟨z0, z1, z2, z3⟩, ⟨z4, z5, z6, z7⟩, z8⟩ := HZB.out.ext q3))
    refine bodyPost_ret (v := .agg #[.int .i64 o, .int .i64 n, .string t, .slice a' L cap']) (by simp [results, Try.results88, go_sem, z0, z1, z2, z3, z4, z5, z6, z7, z8, hl0]) rfl ?_
    obtain ⟨hs9, hF9, _, hc9⟩ := HQ.out
    refine end_but (x := w.heap.size + 1) (lo := w.heap.size + 2) (w3 := wr) HML.out hs9 hF9 hc9 (by omega) (by omega) HQ.out.2.2.1 (by repeat (first | exact But.of_below q3 | exact But.refl _ _ _ | refine But.setCell ?_ (Or.inl (by rfl)) _ | refine But.alloc ?_ (by simp) _))
  | cons o1 n1 t1 k1 r1 =>
    have hjL : j < L := by simp only [F.len] at h7; omega
    obtain ⟨b, off, f', rfl, hrow, hbB, hfB⟩ := HSUB.out (by omega)
    rw [h3] at hrow
    obtain ⟨a1, cap1, f1, c0, c1, c2, c3, hc1', hsub1, hin⟩ := row_at hrow
    rw [h5] at c0 c1 c2 c3
    rw [← hbw.cell (p := ⟨_, _, _⟩) hbB] at c0 c1 c2 c3
    have hd := fun (W1 : World) (hw1 : Ext wr W1) => IH.out W1 o1 n1 t1 k1 p r1 a1 cap1 f1 h3 (hsub1.below (fun c hc => hfB c (hin c hc)) (hbw.trans (hw1.mono hbw.size))) (fun c hc => Nat.lt_of_lt_of_le (hfB c (hin c hc)) (Nat.le_trans hbw.size hw1.size)) hc1'
    obtain ⟨⟨o2, n2, t2, k2⟩, hφ⟩ : ∃ d : D, φ o1 n1 t1 k1 = d := ⟨_, rfl⟩
    rw [hφ] at hd
    have HD := Lib.hid hd
    have H := Lib.hid (And.intro h3 (And.intro h5 (And.intro hG (And.intro hbw hzb))))
    have HF := Lib.hid hφ
    have i0' : (0 : Int) ≤ (j : Int) := Int.natCast_nonneg _
    have i1 : (j : Int) < (L : Int) := by omega
    have HX := Lib.hid (show Four w.heap.size (.int .i64 o) (.int .i64 n) (.string t) (.slice (some ⟨b, off, none⟩) L cap) wr from ⟨x0, x1, x2, x3⟩)
    clear hd h3 h5 h7 hbw hrow hG hφ hzb
    go_wp2_with (first
     | (go_at_call 88; refine (HD.out _ (by exact Ext.refl _)).mono ?_; rintro e1 w1 ⟨a2, cap2, f2, rfl, hc2, hs2, hfr2, hb2⟩; have HST2 := Lib.hid (fun ob => mid_d (ob := ob) H.out.2.2.1 hb2); have H2 := Lib.hid (And.intro hs2 (And.intro hfr2 (And.intro hb2 hc2))); clear hs2 hfr2 hb2 hc2 c0 c1 c2 c3)
     | (at_builtin; refine append_doc rfl (.tmp 32) (.tmp 40) 23 rfl Try.underlying23 HI.out.1 HI.out.2.1 HI.out.2.2.1 HI.out.2.2.2 rfl rfl (HST2.out _).1 (d := w1.heap.size) (c := 1) rfl (cell_new w1 _ _ 0 _ rfl) (cell_new w1 _ _ 1 _ rfl) (cell_new w1 _ _ 2 _ rfl) (cell_new w1 _ _ 3 _ rfl) H2.out.2.2.2 (H2.out.1.below H2.out.2.1.lt ((Below.refl _ _).alloc (Nat.le_refl _) _)) (H2.out.2.1.below H2.out.2.1.lt ((Below.refl _ _).alloc (Nat.le_refl _) _)) (HST2.out (.cells #[] 0)).2.1 (HST2.out (.cells #[] 0)).2.2.1 (HST2.out (.cells #[] 0)).2.2.2.1 (by rw [len_mapL]; have := H.out.2.1; omega) ?_; intro v' w2 fs' hG' hb' hg'))
    go_roundw
    case rel =>
     obtain ⟨h3, h5, hG, hbw, hzb⟩ := H.out
     have hch := mid_end H2.out.2.2.1 hb' hG.2.2.2
     refine ⟨j + 1, p.app (.cons o1 n1 t1 k1 .nil), r1, fs', by go_num, by rw [h3, F.app_assoc]; rfl, by rw [F.len_app, h5]; rfl, ?_, hbw.trans (hch.mono (by omega)), HX.out.below hch (by omega), zbox_below hzb hch (by omega)⟩
     rw [mapL_app, show mapL φ (.cons o1 n1 t1 k1 .nil) = .cons o2 n2 t2 k2 .nil by rw [mapL, HF.out]; rfl]
     exact hG'
    case measure => simp [intOf]; omega
theorem ps_line (w : World) (o n : Int) (t : ByteArray) (i : Nat) (ho : o = 3 ∨ o = 4 ∨ o = 5) (hi : i ≤ 100000) (a : Option Addr) (cap : Nat) :
  Calls Try.prog 88 #[.agg #[.int .i64 o, .int .i64 n, .string t, .slice a 0 cap], .int .i64 i] w (NewD w (nests i (o, n, t, .nil))) := by
 have hcall := fun (W : World) => l7Nest W o n t a cap i hi
 obtain ⟨⟨o2, n2, t2, k2⟩, hφ⟩ : ∃ d : D, nests i (o, n, t, .nil) = d := ⟨_, rfl⟩
 rw [hφ] at hcall ⊢
 have HK := Lib.hid hcall
 have HZ := Lib.hid (zbox_second w (.cells #[.int .i64 o, .int .i64 n, .string t, .slice a 0 cap] 25) 25)
 have HE := Lib.hid (show ∀ x y z, Ext w (((w.alloc x).alloc y).alloc z) from fun x y z => (((Ext.refl w).alloc x).alloc y).alloc z)
 have q6 : (o == 6) = false := by rw [beq_eq_false_iff_ne]; omega
 have HN := Lib.hid (fun (W : World) (n : Int) (t : ByteArray) (a : Option Addr) (l cap : Nat) => specNew_yes W o n t a l cap ho)
 clear hcall ho hφ hi
 go_enter Try.func88, Try.ntmps88
 go_wp2_with (first
  | (go_at_call 123; refine (HN.out _ _ _ _ _ _).mono ?_; rintro e1 w1 ⟨rfl, rfl⟩)
  | (go_at_call 124; refine (HK.out _).mono ?_; rintro e1 w3 ⟨a3, cap3, f3, rfl, hc3, hs3, hfr3, hb3⟩; obtain ⟨⟨z0, z1, z2, z3⟩, ⟨z4, z5, z6, z7⟩, z8⟩ := (HZ.out.ext ((Ext.refl _).alloc _)).ext hb3; have H3 := Lib.hid (And.intro hc3 (And.intro hs3 (And.intro hfr3 hb3))); clear hc3 hs3 hfr3 hb3))
 refine bodyPost_ret (v := .agg #[.int .i64 o2, .int .i64 n2, .string t2, .slice a3 k2.len cap3]) (by simp [results, Try.results88, go_sem, z0, z1, z2, z3, z4, z5, z6, z7, z8]) rfl ?_
 obtain ⟨hc3, hs3, hfr3, hb3⟩ := H3.out
 refine end_new2 (lo := w.heap.size + 1) (hi := w.heap.size + 2) (w3 := w3) hs3 (hfr3.mono (lo' := w.heap.size + 2) (by simp)) hc3 (Nat.le_refl _) (by omega) (by omega) (Below.trans (HE.out _ _ _) (hb3.mono (by simp; omega))) ?_
 repeat (first | exact Touch.refl _ _ _ | refine Touch.setCell ?_ (by simp) (by simp) _)
abbrev SixN (w0 b off : Nat) (n : Int) (u v0 v1 v2 v3 : Value) (w' : World) : Prop := w'.cell? ⟨w0, 3, none⟩ = some u ∧ w'.cell? ⟨w0, 1, none⟩ = some (.int .i64 n) ∧ w'.cell? ⟨b, off, none⟩ = some v0 ∧ w'.cell? ⟨b, off + 1, none⟩ = some v1 ∧ w'.cell? ⟨b, off + 2, none⟩ = some v2 ∧ w'.cell? ⟨b, off + 3, none⟩ = some v3
theorem SixN.below {w0 b off : Nat} {n : Int} {u v0 v1 v2 v3 : Value} {W w' : World} (h : SixN w0 b off n u v0 v1 v2 v3 W) {B : Nat} (k : Below B W w') (h1 : w0 < B) (h2 : b < B) : SixN w0 b off n u v0 v1 v2 v3 w' := by
 obtain ⟨a0, a1, a3, a4, a5, a6⟩ := h
 exact ⟨(k.cell (p := ⟨_, _, _⟩) h1).trans a0, (k.cell (p := ⟨_, _, _⟩) h1).trans a1, (k.cell (p := ⟨_, _, _⟩) h2).trans a3, (k.cell (p := ⟨_, _, _⟩) h2).trans a4, (k.cell (p := ⟨_, _, _⟩) h2).trans a5, (k.cell (p := ⟨_, _, _⟩) h2).trans a6⟩
theorem SixN.stored {w0 b off : Nat} {n : Int} {u v0 v1 v2 v3 : Value} {W w' : World} (h : SixN w0 b off n u v0 v1 v2 v3 W) {B : Nat} (k : Below B W w') (h1 : w0 + 1 ≤ B) (h2 : b < w0) {y0 y1 y2 y3 : Value} : SixN w0 b off n u v0 v1 v2 v3 ((((w'.setCell ⟨w0 + 1, 0, none⟩ y0).setCell ⟨w0 + 1, 1, none⟩ y1).setCell ⟨w0 + 1, 2, none⟩ y2).setCell ⟨w0 + 1, 3, none⟩ y3) :=
 h.below (B := w0 + 1) (((((k.mono h1).setCell (Nat.le_refl _) _).setCell (Nat.le_refl _) _).setCell (Nat.le_refl _) _).setCell (Nat.le_refl _) _) (by omega) (by omega)
theorem ps_nest (w : World) (n : Int) (t : ByteArray) (o1 n1 : Int) (t1 : ByteArray) (k1 : F) (i : Nat) (hn0 : 0 ≤ n) (hn9 : n ≤ 9) (hi : i ≤ 100000) (d : D)
  (ih : ∀ (W : World) (a : Option Addr) (cap : Nat) (fs : List Nat), SubAt W a k1 fs → (∀ c ∈ fs, c < W.heap.size) → k1.len ≤ cap → Calls Try.prog 88 #[.agg #[.int .i64 o1, .int .i64 n1, .string t1, .slice a k1.len cap], .int .i64 ((i : Int) + n)] W (NewD W d))
  (a : Option Addr) (cap : Nat) (fs : List Nat) (hs : SubAt w a (.cons o1 n1 t1 k1 .nil) fs) (hfs : ∀ c ∈ fs, c < w.heap.size) (hc : 1 ≤ cap) :
  Calls Try.prog 88 #[.agg #[.int .i64 6, .int .i64 n, .string t, .slice a 1 cap], .int .i64 i] w (NewD w d) := by
 rcases hs with ⟨h, _⟩ | ⟨b, off, f', rfl, _, rfl, hrow⟩
 ·cases h
 have hb : b < w.heap.size := hfs b (by simp)
 obtain ⟨a1, c1, f1, c0, c1', c2, c3, hc1, hsub1, hin⟩ := row_at (p := .nil) hrow
 simp only [F.len, Nat.zero_mul, Nat.add_zero] at c0 c1' c2 c3
 have hcall := fun (W : World) (e : Ext w W) => ih W a1 c1 f1 (e.sub hsub1 (fun c hc => hfs c (by simp [hin c hc]))) (fun c hc => Nat.lt_of_lt_of_le (hfs c (by simp [hin c hc])) e.size) hc1
 obtain ⟨L1, hL1⟩ : ∃ L, k1.len = L := ⟨_, rfl⟩
 rw [hL1] at hcall c3
 rw [show (i : Int) + n = IntKind.i64.wrap ((i : Int) + n) by rw [IntKind.wrap_i64]; omega] at hcall
 obtain ⟨o2, n2, t2, k2⟩ := d
 have HK := Lib.hid hcall
 have HE := Lib.hid (show ∀ x y, Ext w ((w.alloc x).alloc y) from fun x y => ((Ext.refl w).alloc x).alloc y)
 have hS := fun (x y : Obj) => And.intro (((HE.out x y).cell hb).trans c0) (And.intro (((HE.out x y).cell hb).trans c1') (And.intro (((HE.out x y).cell hb).trans c2) (((HE.out x y).cell hb).trans c3)))
 have hB : Four w.heap.size (.int .i64 6) (.int .i64 n) (.string t) (.slice (some ⟨b, off, none⟩) 1 cap) ((w.alloc (.cells #[.int .i64 6, .int .i64 n, .string t, .slice (some ⟨b, off, none⟩) 1 cap] 25)).alloc (.cells #[.int .i64 0, .int .i64 0, .string ⟨#[]⟩, .slice none 0 0] 25)) := by
  have h1 : Four w.heap.size (.int .i64 6) (.int .i64 n) (.string t) (.slice (some ⟨b, off, none⟩) 1 cap) (w.alloc (.cells #[.int .i64 6, .int .i64 n, .string t, .slice (some ⟨b, off, none⟩) 1 cap] 25)) := by
   refine ⟨?_, ?_, ?_, ?_⟩ <;> (rw [World.cell?_alloc_new]; rfl)
  exact h1.below ((Below.refl _ _).alloc (Nat.le_refl _) _) (by simp)
 have HS0 := Lib.hid (show SixN w.heap.size b off n (.slice (some ⟨b, off, none⟩) 1 cap) (.int .i64 o1) (.int .i64 n1) (.string t1) (.slice a1 L1 c1) _ from ⟨hB.2.2.2, hB.2.1, (hS _ _).1, (hS _ _).2.1, (hS _ _).2.2.1, (hS _ _).2.2.2⟩)
 have HZ := Lib.hid (zbox_second w (.cells #[.int .i64 6, .int .i64 n, .string t, .slice (some ⟨b, off, none⟩) 1 cap] 25) 25)
 have HD := Lib.hid (HS0.out.below (Below.refl (w.heap.size + 2) _).drew (by omega) (by omega))
 clear hcall hB hS hfs hrow hc1 hsub1 hin ih hL1 hi
 go_enter Try.func88, Try.ntmps88
 go_wp2_with fail
 go_region_held3 (fun w' => w'.cell? ⟨w.heap.size, 3, none⟩ = some (.slice (some ⟨b, off, none⟩) 1 cap) ∧ w'.cell? ⟨w.heap.size, 1, none⟩ = some (.int .i64 n) ∧ w'.cell? ⟨b, off, none⟩ = some (.int .i64 o1) ∧ w'.cell? ⟨b, off + 1, none⟩ = some (.int .i64 n1) ∧ w'.cell? ⟨b, off + 2, none⟩ = some (.string t1) ∧ w'.cell? ⟨b, off + 3, none⟩ = some (.slice a1 L1 c1))
  (first | (go_keep; done) | with_reducible exact HS0.out.stored q3 (by omega) (by omega) | with_reducible exact (HS0.out.below q3 (by omega) (by omega)) | with_reducible exact HD.out)
  (first | (go_at_call 88; refine (HK.out _ (by exact (HE.out _ _).drew)).mono ?_; rintro e1 w3 ⟨a3, cap3, f3, rfl, hc3, hs3, hfr3, hb3⟩; have q3 : Below (w.heap.size + 2) _ w3 := (Below.refl _ _).drew.trans (hb3.mono (by simp)); obtain ⟨⟨z0, z1, z2, z3⟩, ⟨z4, z5, z6, z7⟩, z8⟩ := zbox_below HZ.out q3 (by omega)))
 go_wp2_with fail
 refine bodyPost_ret (v := .agg #[.int .i64 o2, .int .i64 n2, .string t2, .slice a3 k2.len cap3]) (by simp [results, Try.results88, go_sem, z0, z1, z2, z3, z4, z5, z6, z7, z8]) rfl ?_
 refine end_new2 (lo := w.heap.size + 1) (hi := w.heap.size + 2) (w3 := w3) hs3 (hfr3.mono (lo' := w.heap.size + 2) (by simp)) hc3 (Nat.le_refl _) (by omega) (by omega) (Below.trans (HE.out _ _) (q3.mono (by omega))) ?_
 repeat (first | exact Touch.refl _ _ _ | refine Touch.setCell ?_ (by simp) (by simp) _)
theorem ps_step (w : World) (o n : Int) (t : ByteArray) (k : F) (i : Nat) (ih : PsS k) (hn : niceD (o, n, t, k) = true) (hcnt : k.cnt ≤ 10000) (hi : i + 9 * (k.deep + 1) ≤ 100000) (a : Option Addr) (cap : Nat) (fs : List Nat) (hs : SubAt w a k fs) (hfs : ∀ c ∈ fs, c < w.heap.size) (hc : k.len ≤ cap) :
  Calls Try.prog 88 #[.agg #[.int .i64 o, .int .i64 n, .string t, .slice a k.len cap], .int .i64 i] w (NewD w (pushD i o n t k)) := by
 have hnk := (nice_kids hn).2
 by_cases h6 : o = 6
 ·obtain ⟨⟨o1, n1, t1, k1⟩, rfl⟩ := kids_one hn (Or.inl h6)
  subst h6
  obtain ⟨h0, h9⟩ := nest_num hn
  have e : ((i + n.toNat : Nat) : Int) = (i : Int) + n := by omega
  rw [show pushD i 6 n t (consD (o1, n1, t1, k1) .nil) = pushD (i + n.toNat) o1 n1 t1 k1 from rfl]
  have hd : (consD (o1, n1, t1, k1) F.nil).deep = k1.deep + 1 := by show max (k1.deep + 1) 0 = _; omega
  refine ps_nest w n t o1 n1 t1 k1 i h0 h9 (by omega) _ (fun W a cap fs h1 h2 h3 => ?_) a cap fs hs hfs hc
  rw [← e]
  exact ih W o1 n1 t1 k1 .nil .nil a cap fs (i + n.toNat) rfl hnk hcnt (by omega) h1 h2 h3
 ·by_cases hl : o = 3 ∨ o = 4 ∨ o = 5
  ·have hk := kids_none hn h6 (by omega) (by omega)
   subst hk
   rw [show pushD i o n t .nil = nests i (o, n, t, .nil) by unfold pushD; rw [if_neg h6, if_pos hl]]
   exact ps_line w o n t i hl (by omega) a cap
  ·rw [show pushD i o n t k = (o, n, t, pushL k i) by unfold pushD; rw [if_neg h6, if_neg hl]]
   exact ps_other w o n t k i ih (by omega) (by omega) (by omega) h6 hnk hcnt (by omega) a cap fs hs hfs hc
theorem psS (m : Nat) : ∀ f : F, f.deep ≤ m → PsS f := by
 induction m with
 | zero =>
   intro f hf w o n t k p r a cap fs i he
   rw [he, F.deep_app] at hf; simp only [F.deep] at hf; omega
 | succ m ih =>
   intro f hf w o n t k p r a cap fs i he hn hcnt hi hs hfs hc
   have hk : k.deep ≤ m := by rw [he, F.deep_app] at hf; simp only [F.deep] at hf; omega
   have hkd : k.deep + 1 ≤ f.deep := by rw [he, F.deep_app]; simp only [F.deep]; omega
   have hn' : niceD (o, n, t, k) = true := by
    rw [he, nice_app, Bool.and_eq_true] at hn
    exact (Bool.and_eq_true_iff.1 hn.2).1
   rw [he, F.cnt_app] at hcnt
   simp only [F.cnt] at hcnt
   exact ps_step w o n t k i (ih k hk) hn' (by omega) (by omega) a cap fs hs hfs hc
theorem l7Push (w : World) (o n : Int) (t : ByteArray) (k : F) (i : Nat) (hn : niceD (o, n, t, k) = true) (hcnt : k.cnt ≤ 10000) (hi : i + 9 * (k.deep + 1) ≤ 100000) (a : Option Addr) (cap : Nat) (fs : List Nat) (hs : SubAt w a k fs) (hfs : ∀ c ∈ fs, c < w.heap.size) (hc : k.len ≤ cap) :
  Calls Try.prog 88 #[.agg #[.int .i64 o, .int .i64 n, .string t, .slice a k.len cap], .int .i64 i] w (NewD w (pushD i o n t k)) :=
 ps_step w o n t k i (psS _ k (Nat.le_refl _)) hn hcnt hi a cap fs hs hfs hc
end Go.Proofs.Ytjcaiecapapceaa.Nf
namespace Go.Proofs.Ytjcaiecapapceaa.Nf
open Go.RowKit P1 Copy CatD
end Go.Proofs.Ytjcaiecapapceaa.Nf
namespace Go.Proofs.Ytjcaiecapapceaa.Nf
open P1 CatD
end Go.Proofs.Ytjcaiecapapceaa.Nf
