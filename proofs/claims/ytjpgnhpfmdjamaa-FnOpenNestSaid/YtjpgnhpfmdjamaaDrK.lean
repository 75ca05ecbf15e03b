/-
  What the model's DrawFlatText comes to: some document of a bounded size in memory of its own.
-/
import Derived.Test.YtjpgnhpfmdjamaaDrI
set_option linter.unusedVariables false
set_option linter.unusedSimpArgs false
namespace Go.Proofs.Ytjpgnhpfmdjamaa.DrK
open Go.RowKit P1 Draw Draw2 Draw6 Copy DrA DrD Mut Mut2 DrI

theorem box_new (w : World) (T : TypeId) (u0 u1 u2 u3 : Value) : (w.alloc (.cells #[u0, u1, u2, u3] T)).cell? ⟨w.heap.size, 0, none⟩ = some u0 ∧ (w.alloc (.cells #[u0, u1, u2, u3] T)).cell? ⟨w.heap.size, 1, none⟩ = some u1 ∧ (w.alloc (.cells #[u0, u1, u2, u3] T)).cell? ⟨w.heap.size, 2, none⟩ = some u2 ∧ (w.alloc (.cells #[u0, u1, u2, u3] T)).cell? ⟨w.heap.size, 3, none⟩ = some u3 := by
  refine ⟨?_, ?_, ?_, ?_⟩ <;> (rw [World.cell?_alloc_new]; rfl)

set_option maxRecDepth 100000 in
set_option maxHeartbeats 1600000 in
theorem drawFlatText (w : World) (a : Option Addr) (len cap : Nat) (hb : Bytes w a len) (hlc : len ≤ cap) (hcm : cap ≤ maxLen) :
    Calls Try.prog 43 #[.slice a len cap] w (DocDraw w) := by
  have HO := Lib.hid (fun ob => l15Open (w.alloc ob) a len cap (LawC.bytes_below hb ((Below.refl _ _).alloc (Nat.le_refl _) ob)) hlc hcm)
  clear hb hlc hcm
  go_enter Try.func43, Try.ntmps43
  go_wp2_with fail
  refine (HO.out _).mono ?_
  rintro e1 w1 ⟨rfl, hrd1, hlt1, hb1⟩
  have hth1 := four_new hb1
  simp only [World.size_alloc] at hrd1 hlt1
  have HD := Lib.hid (l1Draw w1 (w.heap.size + 1) _ 0 hrd1 (by omega) hlt1)
  have H1 := Lib.hid (And.intro hlt1 (And.intro (opened' hb1) hth1))
  clear hrd1 hlt1 hb1 hth1
  go_wp2_with fail
  refine HD.out.mono ?_
  rintro e2 w2 ⟨o1, n1, t1, k1, a1, c1, f1, q1, rfl, hc1, hs1, hv1, hsub1, hfr1, hrd2, hq1, hbut2⟩
  have hx2 : w.heap.size + 1 < w2.heap.size := Nat.lt_of_lt_of_le H1.out.1 hbut2.size
  have hA2 : ∀ ob, Below w2.heap.size w2 (w2.alloc ob) := fun ob => (Below.refl _ _).alloc (Nat.le_refl _) _
  have HP := Lib.hid (fun ob => pick (w2.alloc ob) (w.heap.size + 1) _ q1 12 (rdBelow hrd2 hx2 (hA2 ob)) (by omega))
  have HB := Lib.hid (fun T => box_new w2 T (.int .i64 o1) (.int .i64 n1) (.string t1) (.slice a1 k1.len c1))
  have H2 := Lib.hid (And.intro hx2 (And.intro hbut2 (And.intro hsub1 (And.intro hfr1 (And.intro hc1 hs1)))))
  clear hc1 hs1 hv1 hsub1 hfr1 hrd2 hbut2 hx2 hA2
  go_wp2_with fail
  refine (HP.out _).mono ?_
  rintro e3 w3 ⟨r, rfl, hr0, hr1, hrd3, hbut3⟩
  have hx3 : w.heap.size + 1 < w3.heap.size := by have := H2.out.1; have := hbut3.size; simp at this; omega
  have hne : w2.heap.size ≠ w.heap.size + 1 := by have := H2.out.1; omega
  have hw3 : w2.heap.size < w3.heap.size := by have := hbut3.size; simp at this; omega
  obtain ⟨g0, g1, g2, g3⟩ : w3.cell? ⟨w2.heap.size, 0, none⟩ = some (.int .i64 o1) ∧ w3.cell? ⟨w2.heap.size, 1, none⟩ = some (.int .i64 n1) ∧ w3.cell? ⟨w2.heap.size, 2, none⟩ = some (.string t1) ∧ w3.cell? ⟨w2.heap.size, 3, none⟩ = some (.slice a1 k1.len c1) := by
    obtain ⟨e0, e1, e2, e3⟩ := HB.out 25
    exact ⟨(hbut3.cell (by simp) hne).trans e0, (hbut3.cell (by simp) hne).trans e1, (hbut3.cell (by simp) hne).trans e2, (hbut3.cell (by simp) hne).trans e3⟩
  have hbut3' : But w2.heap.size (w.heap.size + 1) w2 w3 := ((But.refl _ _ _).alloc (Nat.le_refl _) _).trans (hbut3.mono (by simp))
  have hfx : ∀ c ∈ f1, c < w2.heap.size ∧ c ≠ w.heap.size + 1 := fun c hc => by
    have h1 := (H2.out.2.2.2.1.2 c hc).1
    have h2 := H2.out.2.2.2.1.lt c hc
    have h3 := H1.out.1
    exact ⟨h2, by omega⟩
  have hsub3 := hbut3'.sub H2.out.2.2.1 hfx
  have hfr3 : Fresh w1.heap.size w3 f1 := H2.out.2.2.2.1.alike (Nat.le_of_lt hw3) (fun c hc o => hbut3'.frozen (hfx c hc).1 (hfx c hc).2)
  have hth3 : w3.there w.heap.size 0 4 := there_but (there_but H1.out.2.2 H2.out.2.1 (by have := H1.out.1; omega) (by omega)) hbut3' (by have := H2.out.1; omega) (by omega)
  have H3 := Lib.hid (And.intro hsub3 (And.intro hfr3 (And.intro hbut3' (And.intro hx3 hth3))))
  have HRD := Lib.hid hrd3
  have hr : r = 0 ∨ r ≠ 0 := by omega
  clear hrd3 hbut3 hbut3' hfx hsub3 hfr3 hth3 hne hr0 hr1
  rcases hr with rfl | hr
  · have HM := Lib.hid (l1Mutate w3 (w.heap.size + 1) _ (q1 + 1) 1000 o1 n1 t1 k1 a1 c1 f1 H3.out.1 H3.out.2.1.lt H2.out.2.2.2.2.1 H2.out.2.2.2.2.2 (by omega) HRD.out (by omega) H3.out.2.2.2.1)
    go_wp2_with fail
    refine HM.out.mono ?_
    rintro e4 w5 ⟨o2, n2, t2, k2, a2, c2, f2, q2, rfl, hc2, hs2, hsub2, hfr2, hrd5, hq2, hbut5⟩
    have hx5 : w.heap.size + 1 < w5.heap.size := Nat.lt_of_lt_of_le H3.out.2.2.2.1 hbut5.size
    have HM5 := Lib.hid (l1Mutate w5 (w.heap.size + 1) _ q2 1020 o2 n2 t2 k2 a2 c2 f2 hsub2 hfr2.lt hc2 hs2 (by omega) hrd5 (by omega) hx5)
    have H5 := Lib.hid (And.intro hx5 hbut5)
    clear hc2 hs2 hsub2 hfr2 hrd5 hbut5 hx5 g0 g1 g2 g3
    go_wp2_with fail
    refine HM5.out.mono ?_
    rintro e4 w4 ⟨o3, n3, t3, k3, a3, c3, f3, q3, rfl, hc3, hs3, hsub3, hfr3, hrd4, hq3, hbut4⟩
    have hth4 : w4.there w.heap.size 0 4 := there_but (there_but H3.out.2.2.2.2 H5.out.2 (by have := H3.out.2.2.2.1; omega) (by omega)) hbut4 (by have := H5.out.1; omega) (by omega)
    have hl4 : w.heap.size < w4.heap.size := by have := H5.out.1; have := hbut4.size; omega
    obtain ⟨⟨u0, u1, u2, u3, y0, y1, y2, y3⟩, z0, z1, z2, z3⟩ := there_at hth4
    have H4 := Lib.hid (And.intro hc3 (And.intro hs3 (And.intro hsub3 (And.intro hfr3 hbut4))))
    clear hc3 hs3 hsub3 hfr3 hrd4 hbut4 hth4
    go_wp2_with fail
    refine bodyPost_ret (v := .agg #[.int .i64 o3, .int .i64 n3, .string t3, .slice a3 k3.len c3]) (by simp [results, Try.results43, go_sem, y0, y1, y2, y3, hl4]) rfl ?_
    have htt : Touch w.heap.size (w.heap.size + 1) w4 ((((w4.setCell ⟨w.heap.size, 0, none⟩ (.int .i64 o3)).setCell ⟨w.heap.size, 1, none⟩ (.int .i64 n3)).setCell ⟨w.heap.size, 2, none⟩ (.string t3)).setCell ⟨w.heap.size, 3, none⟩ (.slice a3 k3.len c3)) := by
      refine Touch.setCell (Touch.setCell (Touch.setCell (Touch.setCell (Touch.refl _ _ _) ?_ ?_ _) ?_ ?_ _) ?_ ?_ _) ?_ ?_ _ <;> simp
    obtain ⟨hc3, hs3, hsub3, hfr3, hbut4⟩ := H4.out
    have g1 := H1.out.1
    have g2 := H1.out.2.1.size
    have g3 := H2.out.2.1.size
    have g4 := H3.out.2.2.1.size
    have g5 := H5.out.2.size
    have hfo : ∀ c ∈ f3, c < w.heap.size ∨ w.heap.size + 1 ≤ c := fun c hc => by have := (hfr3.2 c hc).1; omega
    have hB4 : Below w.heap.size w w4 := (((H1.out.2.1.trans (H2.out.2.1.below (by omega) (by omega))).trans (H3.out.2.2.1.below (by omega) (by omega))).trans (H5.out.2.below (by omega) (by omega))).trans (hbut4.below (by omega) (by omega))
    exact ⟨o3, n3, t3, k3, a3, c3, f3, rfl, hc3, hs3, htt.sub hsub3 hfo, (htt.fresh hfr3 hfo).mono (by omega), htt.below hB4 (Nat.le_refl _)⟩
  · have hrb : (r == 0) = false := beq_eq_false_iff_ne.2 hr
    have hl4 : w.heap.size < w3.heap.size := by omega
    obtain ⟨⟨u0, u1, u2, u3, y0, y1, y2, y3⟩, z0, z1, z2, z3⟩ := there_at H3.out.2.2.2.2
    clear hr
    go_wp2_with fail
    refine bodyPost_ret (v := .agg #[.int .i64 o1, .int .i64 n1, .string t1, .slice a1 k1.len c1]) (by simp [results, Try.results43, go_sem, y0, y1, y2, y3, hl4]) rfl ?_
    have htt : Touch w.heap.size (w.heap.size + 1) w3 ((((w3.setCell ⟨w.heap.size, 0, none⟩ (.int .i64 o1)).setCell ⟨w.heap.size, 1, none⟩ (.int .i64 n1)).setCell ⟨w.heap.size, 2, none⟩ (.string t1)).setCell ⟨w.heap.size, 3, none⟩ (.slice a1 k1.len c1)) := by
      refine Touch.setCell (Touch.setCell (Touch.setCell (Touch.setCell (Touch.refl _ _ _) ?_ ?_ _) ?_ ?_ _) ?_ ?_ _) ?_ ?_ _ <;> simp
    obtain ⟨hsub3, hfr3, hbut3, _, _⟩ := H3.out
    have g1 := H1.out.1
    have g2 := H1.out.2.1.size
    have g3 := H2.out.2.1.size
    have hfo : ∀ c ∈ f1, c < w.heap.size ∨ w.heap.size + 1 ≤ c := fun c hc => by have := (hfr3.2 c hc).1; omega
    have hB4 : Below w.heap.size w w3 := (H1.out.2.1.trans (H2.out.2.1.below (by omega) (by omega))).trans (hbut3.below (by omega) (by omega))
    exact ⟨o1, n1, t1, k1, a1, c1, f1, rfl, H2.out.2.2.2.2.1, by have := H2.out.2.2.2.2.2; omega, htt.sub hsub3 hfo, (htt.fresh hfr3 hfo).mono (by omega), htt.below hB4 (Nat.le_refl _)⟩

end Go.Proofs.Ytjpgnhpfmdjamaa.DrK
