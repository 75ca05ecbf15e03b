import Derived.Test.YtlpmocdbmnpjcaaDrZ
/-
  The model's draw of the arguments of CatDocs: two documents, each in memory of its own.
-/
set_option linter.unusedVariables false
set_option linter.unusedSimpArgs false
namespace Go.Proofs.Ytlpmocdbmnpjcaa.DrJ
open Go.RowKit P1 Draw Draw2 Draw6 Copy DrA DrD Mut Mut2 DrI

/-- two documents -/
def TwoDraw (w : World) (e : Ending) (w' : World) : Prop := ∃ (o n : Int) (t : ByteArray) (k : F) (a : Option Addr) (cap : Nat) (fs : List Nat) (o' n' : Int) (t' : ByteArray) (k' : F) (a' : Option Addr) (cap' : Nat) (fs' : List Nat),
  e = .returned (.tuple #[.agg #[.int .i64 o, .int .i64 n, .string t, .slice a k.len cap], .agg #[.int .i64 o', .int .i64 n', .string t', .slice a' k'.len cap']]) ∧ k.len ≤ cap ∧ k'.len ≤ cap' ∧ t.size + k.size ≤ 1040 ∧ t'.size + k'.size ≤ 1040 ∧
  SubAt w' a k fs ∧ SubAt w' a' k' fs' ∧ Fresh w.heap.size w' fs ∧ Fresh w.heap.size w' fs' ∧ Below w.heap.size w w'

theorem eight_new {w w1 : World} {ob : Obj} {T : TypeId} {u0 u1 u2 u3 : Value} (h : Below ((w.alloc ob).alloc (.cells #[u0, u1, u2, u3] T)).heap.size ((w.alloc ob).alloc (.cells #[u0, u1, u2, u3] T)) w1) : w1.there (w.heap.size + 1) 0 4 := by
  have := four_new (w := w.alloc ob) h
  simpa using this
theorem four_new' {w w1 : World} {ob : Obj} {T : TypeId} {u0 u1 u2 u3 : Value} (h : Below ((w.alloc (.cells #[u0, u1, u2, u3] T)).alloc ob).heap.size ((w.alloc (.cells #[u0, u1, u2, u3] T)).alloc ob) w1) : w1.there w.heap.size 0 4 :=
  four_new (((Below.refl _ _).alloc (Nat.le_refl _) ob).trans (h.mono (by simp)))
theorem opened2 {w w1 : World} {o1 o2 : Obj} (h : Below ((w.alloc o1).alloc o2).heap.size ((w.alloc o1).alloc o2) w1) : Below w.heap.size w w1 := (((Below.refl _ _).alloc (Nat.le_refl _) _).alloc (by simp) _).trans (h.mono (by simp; omega))

set_option maxRecDepth 100000 in
set_option maxHeartbeats 3200000 in
theorem drawCatDocs (w : World) (a : Option Addr) (len cap : Nat) (hb : Bytes w a len) (hlc : len ≤ cap) (hcm : cap ≤ maxLen) :
    Calls Try.prog 17 #[.slice a len cap] w (TwoDraw w) := by
  have HO := Lib.hid (fun o1 o2 => l15Open ((w.alloc o1).alloc o2) a len cap (LawC.bytes_below hb (((Below.refl _ _).alloc (Nat.le_refl _) o1).alloc (by simp) o2)) hlc hcm)
  clear hb hlc hcm
  go_enter Try.func17, Try.ntmps17
  go_wp2_with fail
  refine (HO.out _ _).mono ?_
  rintro e1 w1 ⟨rfl, hrd1, hlt1, hb1⟩
  have hth1 := four_new' hb1
  have hth1' := eight_new hb1
  have e2 : ∀ o1 o2, ((w.alloc o1).alloc o2).heap.size = w.heap.size + 1 + 1 := fun o1 o2 => by simp
  simp only [World.size_alloc] at hrd1 hlt1
  have HD := Lib.hid (l1Draw w1 (w.heap.size + 1 + 1) _ 0 hrd1 (by omega) hlt1)
  have H1 := Lib.hid (And.intro hlt1 (And.intro (opened2 hb1) (And.intro hth1 hth1')))
  clear hrd1 hlt1 hb1 hth1 hth1' e2
  go_wp2_with fail
  refine HD.out.mono ?_
  rintro e2 w2 ⟨o1, n1, t1, k1, a1, c1, f1, q1, rfl, hc1, hs1, hv1, hsub1, hfr1, hrd2, hq1, hbut2⟩
  have hx2 : w.heap.size + 1 + 1 < w2.heap.size := Nat.lt_of_lt_of_le H1.out.1 hbut2.size
  have HM := Lib.hid (l1Mutate w2 (w.heap.size + 1 + 1) _ q1 1000 o1 n1 t1 k1 a1 c1 f1 hsub1 hfr1.lt hc1 hs1 (by omega) hrd2 (by omega) hx2)
  have H2 := Lib.hid (And.intro hx2 hbut2)
  clear hc1 hs1 hv1 hsub1 hfr1 hrd2 hbut2 hx2
  go_wp2_with fail
  refine HM.out.mono ?_
  rintro e3 w3 ⟨oA, nA, tA, kA, aA, cA, fA, q2, rfl, hcA, hsA, hsubA, hfrA, hrd3, hq2, hbut3⟩
  have hx3 : w.heap.size + 1 + 1 < w3.heap.size := Nat.lt_of_lt_of_le H2.out.1 hbut3.size
  have HD3 := Lib.hid (l1Draw w3 (w.heap.size + 1 + 1) _ q2 hrd3 (by omega) hx3)
  have H3 := Lib.hid (And.intro hx3 (And.intro hbut3 (And.intro hcA (And.intro hsA (And.intro hsubA hfrA)))))
  clear hcA hsA hsubA hfrA hrd3 hbut3 hx3
  go_wp2_with fail
  refine HD3.out.mono ?_
  rintro e4 w4 ⟨o2, n2, t2, k2, a2, c2, f2, q3, rfl, hc2, hs2, hv2, hsub2, hfr2, hrd4, hq3, hbut4⟩
  have hx4 : w.heap.size + 1 + 1 < w4.heap.size := Nat.lt_of_lt_of_le H3.out.1 hbut4.size
  have HM4 := Lib.hid (l1Mutate w4 (w.heap.size + 1 + 1) _ q3 1000 o2 n2 t2 k2 a2 c2 f2 hsub2 hfr2.lt hc2 hs2 (by omega) hrd4 (by omega) hx4)
  have H4 := Lib.hid (And.intro hx4 hbut4)
  clear hc2 hs2 hv2 hsub2 hfr2 hrd4 hbut4 hx4
  go_wp2_with fail
  refine HM4.out.mono ?_
  rintro e5 w5 ⟨oB, nB, tB, kB, aB, cB, fB, q4, rfl, hcB, hsB, hsubB, hfrB, hrd5, hq4, hbut5⟩
  have g1 := H1.out.1
  have g2 := H1.out.2.1.size
  have g3 := H2.out.2.size
  have g4 := H3.out.2.1.size
  have g5 := H4.out.2.size
  have g6 := hbut5.size
  have hth : ∀ b, b ≤ w.heap.size + 1 → w1.there b 0 4 → w5.there b 0 4 := fun b hb h => there_but (there_but (there_but (there_but h H2.out.2 (by omega) (by omega)) H3.out.2.1 (by omega) (by omega)) H4.out.2 (by omega) (by omega)) hbut5 (by omega) (by omega)
  obtain ⟨⟨u0, u1, u2, u3, y0, y1, y2, y3⟩, z0, z1, z2, z3⟩ := there_at (hth _ (by omega) H1.out.2.2.1)
  obtain ⟨⟨u4, u5, u6, u7, y4, y5, y6, y7⟩, z4, z5, z6, z7⟩ := there_at (hth _ (by omega) H1.out.2.2.2)
  have hl5 : w.heap.size < w5.heap.size := by omega
  have hl6 : w.heap.size + 1 < w5.heap.size := by omega
  have H5 := Lib.hid (And.intro hcB (And.intro hsB (And.intro hsubB (And.intro hfrB hbut5))))
  have HG := Lib.hid (And.intro g1 (And.intro g2 (And.intro g3 (And.intro g4 (And.intro g5 g6)))))
  clear hcB hsB hsubB hfrB hrd5 hbut5 hth g1 g2 g3 g4 g5 g6
  go_wp2_with fail
  refine bodyPost_ret (v := .tuple #[.agg #[.int .i64 oA, .int .i64 nA, .string tA, .slice aA kA.len cA], .agg #[.int .i64 oB, .int .i64 nB, .string tB, .slice aB kB.len cB]]) (by simp [results, Try.results17, go_sem, y0, y1, y2, y3, y4, y5, y6, y7, hl5, hl6]) rfl ?_
  obtain ⟨g1, g2, g3, g4, g5, g6⟩ := HG.out
  have htt : Touch w.heap.size (w.heap.size + 1 + 1) w5 ((((((((w5.setCell ⟨w.heap.size, 0, none⟩ (.int .i64 oA)).setCell ⟨w.heap.size, 1, none⟩ (.int .i64 nA)).setCell ⟨w.heap.size, 2, none⟩ (.string tA)).setCell ⟨w.heap.size, 3, none⟩ (.slice aA kA.len cA)).setCell ⟨w.heap.size + 1, 0, none⟩ (.int .i64 oB)).setCell ⟨w.heap.size + 1, 1, none⟩ (.int .i64 nB)).setCell ⟨w.heap.size + 1, 2, none⟩ (.string tB)).setCell ⟨w.heap.size + 1, 3, none⟩ (.slice aB kB.len cB)) := by
    refine Touch.setCell (Touch.setCell (Touch.setCell (Touch.setCell (Touch.setCell (Touch.setCell (Touch.setCell (Touch.setCell (Touch.refl _ _ _) ?_ ?_ _) ?_ ?_ _) ?_ ?_ _) ?_ ?_ _) ?_ ?_ _) ?_ ?_ _) ?_ ?_ _) ?_ ?_ _ <;> (simp; try omega)
  obtain ⟨_, hbut3, hcA, hsA, hsubA, hfrA⟩ := H3.out
  obtain ⟨hcB, hsB, hsubB, hfrB, hbut5⟩ := H5.out
  have h35 : But w3.heap.size (w.heap.size + 1 + 1) w3 w5 := H4.out.2.trans (hbut5.mono (by omega))
  have hAne : ∀ c ∈ fA, c < w3.heap.size ∧ c ≠ w.heap.size + 1 + 1 := fun c hc => ⟨hfrA.lt c hc, by have := (hfrA.2 c hc).1; omega⟩
  have hsubA5 : SubAt w5 aA kA fA := h35.sub hsubA hAne
  have hfrA5 : Fresh w2.heap.size w5 fA := hfrA.alike h35.size (fun c hc _ => h35.frozen (hAne c hc).1 (hAne c hc).2)
  have hoA : ∀ c ∈ fA, c < w.heap.size ∨ w.heap.size + 1 + 1 ≤ c := fun c hc => by have := (hfrA.2 c hc).1; omega
  have hoB : ∀ c ∈ fB, c < w.heap.size ∨ w.heap.size + 1 + 1 ≤ c := fun c hc => by have := (hfrB.2 c hc).1; omega
  have hB5 : Below w.heap.size w w5 := (((H1.out.2.1.trans (H2.out.2.below (by omega) (by omega))).trans (hbut3.below (by omega) (by omega))).trans (H4.out.2.below (by omega) (by omega))).trans (hbut5.below (by omega) (by omega))
  exact ⟨oA, nA, tA, kA, aA, cA, fA, oB, nB, tB, kB, aB, cB, fB, rfl, hcA, hcB, by omega, by omega, htt.sub hsubA5 hoA, htt.sub hsubB hoB, (htt.fresh hfrA5 hoA).mono (by omega), (htt.fresh hfrB hoB).mono (by omega), htt.below hB5 (Nat.le_refl _)⟩

end Go.Proofs.Ytlpmocdbmnpjcaa.DrJ

