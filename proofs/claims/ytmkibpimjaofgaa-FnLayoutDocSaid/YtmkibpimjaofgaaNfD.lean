import Derived.Test.YtmkibpimjaofgaaNfB
import Derived.Test.YtmkibpimjaofgaaCnX
/-
  PushNest of the program: inNests, pushInto, pushNest, PushNest.
-/
set_option linter.unusedVariables false
set_option linter.unusedSimpArgs false
set_option maxRecDepth 100000
set_option maxHeartbeats 3200000
namespace Go.Proofs.Ytmkibpimjaofgaa.Nf
open Go.RowKit P1 Copy CatD

def NeAt (w : World) (i : Nat) (d : D) (v : Value) (wr : World) : Prop :=
  ∃ (j : Nat) (d' : D) (a : Option Addr) (cap : Nat) (fs : List Nat), v = .int .i64 j ∧ j ≤ i ∧ nests j d' = nests i d ∧ Below w.heap.size w wr ∧ DocAt wr w.heap.size d'.1 d'.2.1 d'.2.2.1 d'.2.2.2 a cap fs ∧ Fresh (w.heap.size + 2) wr fs ∧ ZBox wr (w.heap.size + 1) ∧ (∀ j, wr.frozen? ⟨w.heap.size, j, none⟩ = false)

theorem ne_start (w : World) (i : Nat) (o n : Int) (t : ByteArray) (a : Option Addr) (cap : Nat) (T : TypeId) : NeAt w i (o, n, t, .nil) (.int .i64 i) ((w.alloc (.cells #[.int .i64 o, .int .i64 n, .string t, .slice a 0 cap] T)).alloc (.cells #[.int .i64 0, .int .i64 0, .string ⟨#[]⟩, .slice none 0 0] T)) := by
  refine ⟨i, (o, n, t, .nil), a, cap, [], rfl, Nat.le_refl _, rfl, ((Ext.refl w).alloc _).alloc _, ?_, Fresh.nil _ _, zbox_second w _ T, fun j => ?_⟩
  · exact (DocAt.new (k := .nil) (w := w) (Or.inl ⟨rfl, rfl⟩) (fun c hc => by cases hc) (Nat.zero_le _) o n t T).ext ((Ext.refl _).alloc _)
  · rw [((Below.refl _ _).alloc (Nat.le_refl _) _).frozen (p := ⟨_, _, _⟩) (by simp), World.frozen?_alloc_new]

theorem ne_round {w wr : World} {i j : Nat} {d d' : D} {a : Option Addr} {cap : Nat} {fs : List Nat} (hj : 0 < j) (hji : j ≤ i) (hn : nests j d' = nests i d) (hb : Below w.heap.size w wr) (hD : DocAt wr w.heap.size d'.1 d'.2.1 d'.2.2.1 d'.2.2.2 a cap fs) (hF : Fresh (w.heap.size + 2) wr fs) (hZ : ZBox wr (w.heap.size + 1)) (hz : ∀ j, wr.frozen? ⟨w.heap.size, j, none⟩ = false)
    (m : Nat) (hm : m = min j 9) (T : TypeId) (q : Int) (hq : q = ((j - m : Nat) : Int))
    {l : Nat} (hl : d'.2.2.2.len = l) :
    NeAt w i d (.int .i64 q) (((((wr.setCell ⟨w.heap.size, 0, none⟩ (.int .i64 6)).setCell ⟨w.heap.size, 1, none⟩ (.int .i64 m)).setCell ⟨w.heap.size, 2, none⟩ (.string ⟨#[]⟩)).setCell ⟨w.heap.size, 3, none⟩ (.slice (some ⟨wr.heap.size, 0, none⟩) 1 1)).alloc (.cells #[.int .i64 d'.1, .int .i64 d'.2.1, .string d'.2.2.1, .slice a l cap] T)) := by
  subst hl
  have hblt : w.heap.size < wr.heap.size := hD.blt
  rw [← World.setCell_alloc_past _ _ _ _ (by simpa using hblt), ← World.setCell_alloc_past _ _ _ _ (by simpa using hblt), ← World.setCell_alloc_past _ _ _ _ (by simpa using hblt), ← World.setCell_alloc_past _ _ _ _ hblt]
  subst hq
  have hz1 := hZ.2.2
  have hD1 := hD.ext ((Ext.refl wr).alloc (.cells #[.int .i64 d'.1, .int .i64 d'.2.1, .string d'.2.2.1, .slice a d'.2.2.2.len cap] T))
  obtain ⟨b0, b1, b2, b3⟩ := hD1.box
  have hrow : RowAt (wr.alloc (.cells #[.int .i64 d'.1, .int .i64 d'.2.1, .string d'.2.2.1, .slice a d'.2.2.2.len cap] T)) (consD d' .nil) wr.heap.size 0 fs :=
    RowAt.cons_iff.2 ⟨a, cap, fs, [], cell_new _ _ _ 0 _ rfl, cell_new _ _ _ 1 _ rfl, cell_new _ _ _ 2 _ rfl, cell_new _ _ _ 3 _ rfl, hD.cap_le, hD1.sub, rfl, by simp⟩
  have hsub : SubAt (wr.alloc (.cells #[.int .i64 d'.1, .int .i64 d'.2.1, .string d'.2.2.1, .slice a d'.2.2.2.len cap] T)) (some ⟨wr.heap.size, 0, none⟩) (consD d' .nil) (wr.heap.size :: fs) := Or.inr ⟨_, 0, fs, rfl, (by intro e; cases e), rfl, hrow⟩
  have hnd : wr.heap.size ∉ fs := fun hm => by have := hF.lt _ hm; omega
  have hfr : Fresh (w.heap.size + 2) (wr.alloc (.cells #[.int .i64 d'.1, .int .i64 d'.2.1, .string d'.2.2.1, .slice a d'.2.2.2.len cap] T)) (wr.heap.size :: fs) := by
    have h1 := ((Ext.refl wr).alloc (.cells #[.int .i64 d'.1, .int .i64 d'.2.1, .string d'.2.2.1, .slice a d'.2.2.2.len cap] T)).fresh hF
    refine ⟨List.nodup_cons.2 ⟨hnd, h1.1⟩, fun c hc => ?_⟩
    rcases List.mem_cons.1 hc with rfl | hc
    · exact ⟨by omega, by simp, fun o => World.frozen?_alloc_new _ _ _ _⟩
    · exact h1.2 c hc
  have hlt : ∀ c ∈ wr.heap.size :: fs, c < (wr.alloc (.cells #[.int .i64 d'.1, .int .i64 d'.2.1, .string d'.2.2.1, .slice a d'.2.2.2.len cap] T)).heap.size := hfr.lt
  have hnb : w.heap.size ∉ wr.heap.size :: fs := fun hm => by have := (hfr.2 _ hm).1; omega
  have hst := DocAt.stored (o := 6) (n := (m : Int)) (t := ⟨#[]⟩) (k := consD d' .nil) (cap := 1) hsub hlt (Nat.le_refl 1) hnb hD1.blt b0 b1 b2 b3
  have hT : Touch w.heap.size (w.heap.size + 1) (wr.alloc (.cells #[.int .i64 d'.1, .int .i64 d'.2.1, .string d'.2.2.1, .slice a d'.2.2.2.len cap] T)) (((((wr.alloc (.cells #[.int .i64 d'.1, .int .i64 d'.2.1, .string d'.2.2.1, .slice a d'.2.2.2.len cap] T)).setCell ⟨w.heap.size, 0, none⟩ (.int .i64 6)).setCell ⟨w.heap.size, 1, none⟩ (.int .i64 m)).setCell ⟨w.heap.size, 2, none⟩ (.string ⟨#[]⟩)).setCell ⟨w.heap.size, 3, none⟩ (.slice (some ⟨wr.heap.size, 0, none⟩) 1 1)) := by
    refine Touch.setCell (Touch.setCell (Touch.setCell (Touch.setCell (Touch.refl _ _ _) ?_ ?_ _) ?_ ?_ _) ?_ ?_ _) ?_ ?_ _ <;> simp
  refine ⟨j - m, (6, (m : Int), ⟨#[]⟩, consD d' .nil), some ⟨wr.heap.size, 0, none⟩, 1, wr.heap.size :: fs, rfl, by omega, ?_, hT.below (hb.alloc hb.size _) (Nat.le_refl _), hst, hT.fresh hfr (fun c hc => Or.inr (by have := (hfr.2 c hc).1; omega)), ?_, fun j => ?_⟩
  · rw [← hn, nests.eq_1 j d', dif_pos hj, ← hm]
  · have hz2 := hZ.ext ((Ext.refl wr).alloc (.cells #[.int .i64 d'.1, .int .i64 d'.2.1, .string d'.2.2.1, .slice a d'.2.2.2.len cap] T))
    obtain ⟨⟨h0, h1, h2, h3⟩, ⟨y0, y1, y2, y3⟩, hl⟩ := hz2
    exact ⟨⟨(hT.cell (Or.inr (by omega))).trans h0, (hT.cell (Or.inr (by omega))).trans h1, (hT.cell (Or.inr (by omega))).trans h2, (hT.cell (Or.inr (by omega))).trans h3⟩, ⟨(hT.frozen (Or.inr (by omega))).trans y0, (hT.frozen (Or.inr (by omega))).trans y1, (hT.frozen (Or.inr (by omega))).trans y2, (hT.frozen (Or.inr (by omega))).trans y3⟩, by rw [hT.size]; exact hl⟩
  · simp only [World.frozen?_setCell]
    rw [((Ext.refl wr).alloc _).frozen hD.blt]; exact hz j

theorem inNests (w : World) (o n : Int) (t : ByteArray) (a : Option Addr) (cap i : Nat) (hi : i ≤ 100000) :
    Calls Try.prog 127 #[.agg #[.int .i64 o, .int .i64 n, .string t, .slice a 0 cap], .int .i64 i] w (NewD w (nests i (o, n, t, .nil))) := by
  have HST := Lib.hid (ne_start w i o n t a cap 29)
  obtain ⟨d9, hd9⟩ : ∃ d : D, nests i (o, n, t, .nil) = d := ⟨_, rfl⟩
  rw [hd9]
  have H9 := Lib.hid hd9
  clear hd9
  go_enter Try.func127, Try.ntmps127
  go_wp2_with fail
  go_loopw [1, 5] (fun v u wr => NeAt w i (o, n, t, .nil) v wr) (fun v _ _ => (intOf v).toNat)
  case atStart => exact HST.out
  case round =>
    obtain ⟨j, ⟨o1, n1, t1, k1⟩, a1, c1, f1, rfl, hji, hnn, hbw, hD, hF, hZ, hz⟩ := hrel
    simp only at hD
    obtain ⟨b0, b1, b2, b3⟩ := hD.box
    have hl0 := hD.blt
    have zf0 := hz 0
    have zf1 := hz 1
    have zf2 := hz 2
    have zf3 := hz 3
    by_cases hj0 : 0 < j
    · have i0 : (0 : Int) < (j : Int) := by omega
      obtain ⟨L1, hL1⟩ : ∃ L, k1.len = L := ⟨_, rfl⟩
      have HL1 := Lib.hid hL1
      obtain ⟨M, hM⟩ : ∃ M, min j 9 = M := ⟨_, rfl⟩
      have hMj : M ≤ j := by omega
      have hM0 : 0 < M := by omega
      have hM9 : M ≤ 9 := by omega
      have hmin : min (j : Int) 9 = (M : Int) := by omega
      have HX := Lib.hid (And.intro hnn (And.intro hbw (And.intro hD (And.intro hF (And.intro hZ hz)))))
      have HM := Lib.hid hM.symm
      have i1 : (0 : Int) ≤ (j : Int) := Int.natCast_nonneg _
      have i2 : (M : Int) ≤ (j : Int) := by omega
      have i3 : (j : Int) ≤ 200000 := by omega
      clear hnn hbw hD hF hZ hM
      go_wp2_with fail
      go_roundw
      case rel => exact ne_round hj0 hji HX.out.1 HX.out.2.1 HX.out.2.2.1 HX.out.2.2.2.1 HX.out.2.2.2.2.1 HX.out.2.2.2.2.2 M HM.out _ ((j : Int) - (M : Int)) (by omega) HL1.out
      case measure => simp [intOf]; omega
    · have i0 : ¬ ((0 : Int) < (j : Int)) := by omega
      have hd9 : ((o1, n1, t1, k1) : D) = d9 := by rw [← H9.out, ← hnn, nests.eq_1, dif_neg hj0]
      subst hd9
      obtain ⟨⟨z0, z1, z2, z3⟩, ⟨z4, z5, z6, z7⟩, z8⟩ := hZ
      obtain ⟨L1, hL1⟩ : ∃ L, k1.len = L := ⟨_, rfl⟩
      rw [hL1] at b3
      have HL1 := Lib.hid hL1
      have HX := Lib.hid (And.intro hbw (And.intro hD hF))
      clear hnn hbw hD hF hL1
      go_wp2_with fail
      refine bodyPost_ret (v := .agg #[.int .i64 o1, .int .i64 n1, .string t1, .slice a1 L1 c1]) (by simp [results, Try.results127, go_sem, z0, z1, z2, z3, z4, z5, z6, z7, z8, hl0]) rfl ?_
      refine end_but (x := w.heap.size + 1) (lo := w.heap.size + 2) (w3 := wr) HL1.out HX.out.2.1.sub HX.out.2.2 HX.out.2.1.cap_le (by omega) (by omega) HX.out.1 (by repeat (first | exact But.refl _ _ _ | refine But.setCell ?_ (Or.inl (by rfl)) _ | refine But.alloc ?_ (by simp) _))

end Go.Proofs.Ytmkibpimjaofgaa.Nf

namespace Go.Proofs.Ytmkibpimjaofgaa.Nf
open Go.RowKit P1 Copy CatD
end Go.Proofs.Ytmkibpimjaofgaa.Nf

namespace Go.Proofs.Ytmkibpimjaofgaa.Nf
open Go.RowKit P1 Copy CatD
end Go.Proofs.Ytmkibpimjaofgaa.Nf

namespace Go.Proofs.Ytmkibpimjaofgaa.Nf
open Go.RowKit P1 Copy CatD


theorem l7Nest (w : World) (o n : Int) (t : ByteArray) (a : Option Addr) (cap i : Nat) (hi : i ≤ 100000) :
    Calls Try.prog 79 #[.agg #[.int .i64 o, .int .i64 n, .string t, .slice a 0 cap], .int .i64 i] w (NewD w (nests i (o, n, t, .nil))) := by
  have HST := Lib.hid (ne_start w i o n t a cap 29)
  obtain ⟨d9, hd9⟩ : ∃ d : D, nests i (o, n, t, .nil) = d := ⟨_, rfl⟩
  rw [hd9]
  have H9 := Lib.hid hd9
  clear hd9
  go_enter Try.func79, Try.ntmps79
  go_wp2_with fail
  go_loopw [1, 5] (fun v u wr => NeAt w i (o, n, t, .nil) v wr) (fun v _ _ => (intOf v).toNat)
  case atStart => exact HST.out
  case round =>
    obtain ⟨j, ⟨o1, n1, t1, k1⟩, a1, c1, f1, rfl, hji, hnn, hbw, hD, hF, hZ, hz⟩ := hrel
    simp only at hD
    obtain ⟨b0, b1, b2, b3⟩ := hD.box
    have hl0 := hD.blt
    have zf0 := hz 0
    have zf1 := hz 1
    have zf2 := hz 2
    have zf3 := hz 3
    by_cases hj0 : 0 < j
    · have i0 : (0 : Int) < (j : Int) := by omega
      obtain ⟨L1, hL1⟩ : ∃ L, k1.len = L := ⟨_, rfl⟩
      have HL1 := Lib.hid hL1
      obtain ⟨M, hM⟩ : ∃ M, min j 9 = M := ⟨_, rfl⟩
      have hMj : M ≤ j := by omega
      have hM0 : 0 < M := by omega
      have hM9 : M ≤ 9 := by omega
      have HX := Lib.hid (And.intro hnn (And.intro hbw (And.intro hD (And.intro hF (And.intro hZ hz)))))
      have HM := Lib.hid hM.symm
      have i1 : (0 : Int) ≤ (j : Int) := Int.natCast_nonneg _
      have i3 : (j : Int) ≤ 200000 := by omega
      by_cases h9 : 9 < j
      · have hM9' : M = 9 := by omega
        have i4 : (9 : Int) < (j : Int) := by omega
        have hcast : ((M : Nat) : Int) = 9 := by omega
        clear hnn hbw hD hF hZ hM
        go_wp2_with fail
        go_roundw
        case rel => 
          have := ne_round hj0 hji HX.out.1 HX.out.2.1 HX.out.2.2.1 HX.out.2.2.2.1 HX.out.2.2.2.2.1 HX.out.2.2.2.2.2 M HM.out 29 ((j : Int) - 9) (by omega) HL1.out
          rw [hcast] at this
          exact this
        case measure => simp [intOf]; omega
      · have hM9' : M = j := by omega
        have i4 : ¬ ((9 : Int) < (j : Int)) := by omega
        subst hM9'
        clear hnn hbw hD hF hZ hM
        go_wp2_with fail
        go_roundw
        case rel => exact ne_round hj0 hji HX.out.1 HX.out.2.1 HX.out.2.2.1 HX.out.2.2.2.1 HX.out.2.2.2.2.1 HX.out.2.2.2.2.2 M HM.out _ 0 (by omega) HL1.out
        case measure => simp [intOf]; omega
    · have i0 : ¬ ((0 : Int) < (j : Int)) := by omega
      have hd9 : ((o1, n1, t1, k1) : D) = d9 := by rw [← H9.out, ← hnn, nests.eq_1, dif_neg hj0]
      subst hd9
      obtain ⟨⟨z0, z1, z2, z3⟩, ⟨z4, z5, z6, z7⟩, z8⟩ := hZ
      obtain ⟨L1, hL1⟩ : ∃ L, k1.len = L := ⟨_, rfl⟩
      rw [hL1] at b3
      have HL1 := Lib.hid hL1
      have HX := Lib.hid (And.intro hbw (And.intro hD hF))
      clear hnn hbw hD hF hL1
      go_wp2_with fail
      refine bodyPost_ret (v := .agg #[.int .i64 o1, .int .i64 n1, .string t1, .slice a1 L1 c1]) (by simp [results, Try.results79, go_sem, z0, z1, z2, z3, z4, z5, z6, z7, z8, hl0]) rfl ?_
      refine end_but (x := w.heap.size + 1) (lo := w.heap.size + 2) (w3 := wr) HL1.out HX.out.2.1.sub HX.out.2.2 HX.out.2.1.cap_le (by omega) (by omega) HX.out.1 (by repeat (first | exact But.refl _ _ _ | refine But.setCell ?_ (Or.inl (by rfl)) _ | refine But.alloc ?_ (by simp) _))


end Go.Proofs.Ytmkibpimjaofgaa.Nf

namespace Go.Proofs.Ytmkibpimjaofgaa.Nf
open Go.RowKit P1 Copy CatD
end Go.Proofs.Ytmkibpimjaofgaa.Nf

namespace Go.Proofs.Ytmkibpimjaofgaa.Nf
open P1 CatD
end Go.Proofs.Ytmkibpimjaofgaa.Nf

