/-
  What the model's draws of documents, perhaps changed in a place or two, come to: some document of a bounded size in memory of its own.
-/
import Derived.Test.YtjpgnhpfmdjamaaMut2
import Derived.Test.YtjpgnhpfmdjamaaLawC
set_option linter.unusedVariables false
set_option linter.unusedSimpArgs false
namespace Go.Proofs.Ytjpgnhpfmdjamaa.DrI
open Go.RowKit P1 Draw Draw2 Draw6 Copy DrA DrD Mut Mut2

/-- some document -/
def DocDraw (w : World) (e : Ending) (w' : World) : Prop := ∃ (o n : Int) (t : ByteArray) (k : F) (a : Option Addr) (cap : Nat) (fs : List Nat), e = .returned (.agg #[.int .i64 o, .int .i64 n, .string t, .slice a k.len cap]) ∧ k.len ≤ cap ∧ t.size + k.size ≤ 1040 ∧ SubAt w' a k fs ∧ Fresh w.heap.size w' fs ∧ Below w.heap.size w w'
/-- some document, and a number -/
def OpsDraw (w : World) (e : Ending) (w' : World) : Prop := ∃ (o n : Int) (t : ByteArray) (k : F) (a : Option Addr) (cap : Nat) (fs : List Nat) (op : Int), e = .returned (.tuple #[.agg #[.int .i64 o, .int .i64 n, .string t, .slice a k.len cap], .int .i64 op]) ∧ k.len ≤ cap ∧ t.size + k.size ≤ 1040 ∧ SubAt w' a k fs ∧ Fresh w.heap.size w' fs ∧ Below w.heap.size w w'

theorem opened' {w w1 : World} {ob : Obj} (h : Below (w.alloc ob).heap.size (w.alloc ob) w1) : Below w.heap.size w w1 := ((Below.refl _ _).alloc (Nat.le_refl _) _).trans (h.mono (by simp))

theorem four_new {w w1 : World} {T : TypeId} {u0 u1 u2 u3 : Value} (h : Below (w.alloc (.cells #[u0, u1, u2, u3] T)).heap.size (w.alloc (.cells #[u0, u1, u2, u3] T)) w1) : w1.there w.heap.size 0 4 := by
  have := there_new w #[u0, u1, u2, u3] T 4 (by simp)
  exact there_below this (by simp) h

theorem there_but {w w' : World} {b B x : Nat} (h : w.there b 0 4) (k : But B x w w') (hb : b < B) (hx : b ≠ x) : w'.there b 0 4 := fun j hj => ⟨by rw [k.cell hb hx]; exact (h j hj).1, by rw [k.frozen hb hx]; exact (h j hj).2⟩

set_option maxRecDepth 100000 in
set_option maxHeartbeats 1600000 in
theorem drawDocValid (w : World) (a : Option Addr) (len cap : Nat) (hb : Bytes w a len) (hlc : len ≤ cap) (hcm : cap ≤ maxLen) :
    Calls Try.prog 29 #[.slice a len cap] w (DocDraw w) := by
  have HO := Lib.hid (fun ob => l15Open (w.alloc ob) a len cap (LawC.bytes_below hb ((Below.refl _ _).alloc (Nat.le_refl _) ob)) hlc hcm)
  clear hb hlc hcm
  go_enter Try.func29, Try.ntmps29
  go_wp2_with fail
  refine (HO.out _).mono ?_
  rintro e1 w1 ⟨rfl, hrd1, hlt1, hb1⟩
  have hth1 := four_new hb1
  simp only [World.size_alloc] at hrd1 hlt1
  have HD := Lib.hid (l1Draw w1 (w.heap.size + 1) _ 0 hrd1 (by omega) hlt1)
  have H1 := Lib.hid (And.intro hlt1 (And.intro (opened' hb1) hth1))
  clear hrd1 hlt1 hb1 hth1
  go_wp2_with fail
  refine HD.out.mono ?_
  rintro e2 w2 ⟨o1, n1, t1, k1, a1, c1, f1, q1, rfl, hc1, hs1, hv1, hsub1, hfr1, hrd2, hq1, hbut2⟩
  have hx2 : w.heap.size + 1 < w2.heap.size := Nat.lt_of_lt_of_le H1.out.1 hbut2.size
  have HM := Lib.hid (l1Mutate w2 (w.heap.size + 1) _ q1 1000 o1 n1 t1 k1 a1 c1 f1 hsub1 hfr1.lt hc1 hs1 (by omega) hrd2 (by omega) hx2)
  have H2 := Lib.hid (And.intro hx2 hbut2)
  clear hc1 hs1 hv1 hsub1 hfr1 hrd2 hbut2 hx2
  go_wp2_with fail
  refine HM.out.mono ?_
  rintro e3 w3 ⟨o2, n2, t2, k2, a2, c2, f2, q2, rfl, hc2, hs2, hsub2, hfr2, hrd3, hq2, hbut3⟩
  have hx3 : w.heap.size + 1 < w3.heap.size := Nat.lt_of_lt_of_le H2.out.1 hbut3.size
  have HM3 := Lib.hid (l1Mutate w3 (w.heap.size + 1) _ q2 1020 o2 n2 t2 k2 a2 c2 f2 hsub2 hfr2.lt hc2 hs2 (by omega) hrd3 (by omega) hx3)
  have H3 := Lib.hid (And.intro hx3 hbut3)
  clear hc2 hs2 hsub2 hfr2 hrd3 hbut3 hx3
  go_wp2_with fail
  refine HM3.out.mono ?_
  rintro e4 w4 ⟨o3, n3, t3, k3, a3, c3, f3, q3, rfl, hc3, hs3, hsub3, hfr3, hrd4, hq3, hbut4⟩
  have hth4 : w4.there w.heap.size 0 4 := there_but (there_but (there_but H1.out.2.2 H2.out.2 (by have := H1.out.1; omega) (by omega)) H3.out.2 (by have := H2.out.1; omega) (by omega)) hbut4 (by have := H3.out.1; omega) (by omega)
  have hl4 : w.heap.size < w4.heap.size := by have := H3.out.1; have := hbut4.size; omega
  obtain ⟨⟨u0, u1, u2, u3, y0, y1, y2, y3⟩, z0, z1, z2, z3⟩ := there_at hth4
  have H4 := Lib.hid (And.intro hc3 (And.intro hs3 (And.intro hsub3 (And.intro hfr3 hbut4))))
  clear hc3 hs3 hsub3 hfr3 hrd4 hbut4 hth4
  go_wp2_with fail
  refine bodyPost_ret (v := .agg #[.int .i64 o3, .int .i64 n3, .string t3, .slice a3 k3.len c3]) (by simp [results, Try.results29, go_sem, y0, y1, y2, y3, hl4]) rfl ?_
  have htt : Touch w.heap.size (w.heap.size + 1) w4 ((((w4.setCell ⟨w.heap.size, 0, none⟩ (.int .i64 o3)).setCell ⟨w.heap.size, 1, none⟩ (.int .i64 n3)).setCell ⟨w.heap.size, 2, none⟩ (.string t3)).setCell ⟨w.heap.size, 3, none⟩ (.slice a3 k3.len c3)) := by
    refine Touch.setCell (Touch.setCell (Touch.setCell (Touch.setCell (Touch.refl _ _ _) ?_ ?_ _) ?_ ?_ _) ?_ ?_ _) ?_ ?_ _ <;> simp
  obtain ⟨hc3, hs3, hsub3, hfr3, hbut4⟩ := H4.out
  have g1 := H1.out.1
  have g2 := H1.out.2.1.size
  have g3 := H2.out.2.size
  have g4 := H3.out.2.size
  have hfo : ∀ c ∈ f3, c < w.heap.size ∨ w.heap.size + 1 ≤ c := fun c hc => by have := (hfr3.2 c hc).1; omega
  have hB4 : Below w.heap.size w w4 := ((H1.out.2.1.trans (H2.out.2.below (by omega) (by omega))).trans (H3.out.2.below (by omega) (by omega))).trans (hbut4.below (by omega) (by omega))
  exact ⟨o3, n3, t3, k3, a3, c3, f3, rfl, hc3, hs3, htt.sub hsub3 hfo, (htt.fresh hfr3 hfo).mono (by omega), htt.below hB4 (Nat.le_refl _)⟩

set_option maxRecDepth 100000 in
set_option maxHeartbeats 1600000 in
theorem drawCanFlatten (w : World) (a : Option Addr) (len cap : Nat) (hb : Bytes w a len) (hlc : len ≤ cap) (hcm : cap ≤ maxLen) :
    Calls Try.prog 32 #[.slice a len cap] w (DocDraw w) := by
  have HO := Lib.hid (fun ob => drawDocValid (w.alloc ob) a len cap (LawC.bytes_below hb ((Below.refl _ _).alloc (Nat.le_refl _) ob)) hlc hcm)
  clear hb hlc hcm
  go_enter Try.func32, Try.ntmps32
  go_wp2_with fail
  refine (HO.out _).mono ?_
  rintro e1 w4 ⟨o3, n3, t3, k3, a3, c3, f3, rfl, hc3, hs3, hsub3, hfr3, hb1⟩
  have hth1 := four_new hb1
  simp only [World.size_alloc] at hfr3
  have hl4 : w.heap.size < w4.heap.size := by have := hb1.size; simp at this; omega
  obtain ⟨⟨u0, u1, u2, u3, y0, y1, y2, y3⟩, z0, z1, z2, z3⟩ := there_at hth1
  have H4 := Lib.hid (And.intro hc3 (And.intro hs3 (And.intro hsub3 (And.intro hfr3 (opened' hb1)))))
  clear hc3 hs3 hsub3 hfr3 hb1 hth1
  go_wp2_with fail
  refine bodyPost_ret (v := .agg #[.int .i64 o3, .int .i64 n3, .string t3, .slice a3 k3.len c3]) (by simp [results, Try.results32, go_sem, y0, y1, y2, y3, hl4]) rfl ?_
  have htt : Touch w.heap.size (w.heap.size + 1) w4 ((((w4.setCell ⟨w.heap.size, 0, none⟩ (.int .i64 o3)).setCell ⟨w.heap.size, 1, none⟩ (.int .i64 n3)).setCell ⟨w.heap.size, 2, none⟩ (.string t3)).setCell ⟨w.heap.size, 3, none⟩ (.slice a3 k3.len c3)) := by
    refine Touch.setCell (Touch.setCell (Touch.setCell (Touch.setCell (Touch.refl _ _ _) ?_ ?_ _) ?_ ?_ _) ?_ ?_ _) ?_ ?_ _ <;> simp
  obtain ⟨hc3, hs3, hsub3, hfr3, hB4⟩ := H4.out
  have hfo : ∀ c ∈ f3, c < w.heap.size ∨ w.heap.size + 1 ≤ c := fun c hc => by have := (hfr3.2 c hc).1; omega
  exact ⟨o3, n3, t3, k3, a3, c3, f3, rfl, hc3, hs3, htt.sub hsub3 hfo, (htt.fresh hfr3 hfo).mono (by omega), htt.below hB4 (Nat.le_refl _)⟩

set_option maxRecDepth 100000 in
set_option maxHeartbeats 1600000 in
theorem drawCountOps (w : World) (a : Option Addr) (len cap : Nat) (hb : Bytes w a len) (hlc : len ≤ cap) (hcm : cap ≤ maxLen) :
    Calls Try.prog 25 #[.slice a len cap] w (OpsDraw w) := by
  have HO := Lib.hid (fun ob => drawDocValid (w.alloc ob) a len cap (LawC.bytes_below hb ((Below.refl _ _).alloc (Nat.le_refl _) ob)) hlc hcm)
  have HP := Lib.hid (fun (w1 : World) (h : Below w.heap.size w w1) => l15Open w1 a len cap (LawC.bytes_below hb h) hlc hcm)
  clear hb hlc hcm
  go_enter Try.func25, Try.ntmps25
  go_wp2_with fail
  refine (HO.out _).mono ?_
  rintro e1 w2 ⟨o3, n3, t3, k3, a3, c3, f3, rfl, hc3, hs3, hsub3, hfr3, hb1⟩
  have hth1 := four_new hb1
  simp only [World.size_alloc] at hfr3
  have hl2 : w.heap.size < w2.heap.size := by have := hb1.size; simp at this; omega
  have H2 := Lib.hid (And.intro hc3 (And.intro hs3 (And.intro hsub3 (And.intro hfr3 (And.intro (opened' hb1) (And.intro hl2 hth1))))))
  clear hc3 hs3 hsub3 hfr3 hb1 hth1 hl2
  go_wp2_with fail
  refine (HP.out w2 H2.out.2.2.2.2.1).mono ?_
  rintro e3 w3 ⟨rfl, hrd3, hlt3, hb3⟩
  have hA3 : ∀ ob, Below w3.heap.size w3 (w3.alloc ob) := fun ob => (Below.refl _ _).alloc (Nat.le_refl _) _
  have HN := Lib.hid (Draw.num (w3.alloc (.cells #[.int .i64 2, .int .i64 7, .int .i64 3, .int .i64 8, .int .i64 5, .int .i64 1, .int .i64 0] 3)) w2.heap.size w2.heap.size 0 w3.heap.size 0 7 [2, 7, 3, 8, 5, 1, 0] (rdBelow hrd3 hlt3 (hA3 _)) (by omega) (fun j hj => by
      rw [World.cell?_alloc_new]
      have hj' : j < 7 := hj
      match j, hj' with
      | 0, _ => rfl
      | 1, _ => rfl
      | 2, _ => rfl
      | 3, _ => rfl
      | 4, _ => rfl
      | 5, _ => rfl
      | 6, _ => rfl) (by decide) (by decide) (by decide) (by simp) (by omega))
  have H3 := Lib.hid (And.intro hlt3 hb3)
  clear hrd3 hlt3 hb3 hA3
  go_wp2_with fail
  refine HN.out.mono ?_
  rintro e4 w4 ⟨op, hmem, rfl, hrd4, hbutn⟩
  have hbut4 : But w3.heap.size w2.heap.size w3 w4 := ((But.refl _ _ _).alloc (Nat.le_refl _) _).trans (hbutn.mono (by simp))
  have hB24 : Below w2.heap.size w2 w4 := H3.out.2.trans (hbut4.below H3.out.2.size (Nat.le_refl _))
  have hth4 : w4.there w.heap.size 0 4 := there_below H2.out.2.2.2.2.2.2 H2.out.2.2.2.2.2.1 hB24
  have hl4 : w.heap.size < w4.heap.size := Nat.lt_of_lt_of_le H2.out.2.2.2.2.2.1 hB24.size
  obtain ⟨⟨u0, u1, u2, u3, y0, y1, y2, y3⟩, z0, z1, z2, z3⟩ := there_at hth4
  have H4 := Lib.hid hB24
  clear hmem hrd4 hbutn hbut4 hB24 hth4
  go_wp2_with fail
  refine bodyPost_ret (v := .tuple #[.agg #[.int .i64 o3, .int .i64 n3, .string t3, .slice a3 k3.len c3], .int .i64 op]) (by simp [results, Try.results25, go_sem, y0, y1, y2, y3, hl4]) rfl ?_
  have htt : Touch w.heap.size (w.heap.size + 1) w4 ((((w4.setCell ⟨w.heap.size, 0, none⟩ (.int .i64 o3)).setCell ⟨w.heap.size, 1, none⟩ (.int .i64 n3)).setCell ⟨w.heap.size, 2, none⟩ (.string t3)).setCell ⟨w.heap.size, 3, none⟩ (.slice a3 k3.len c3)) := by
    refine Touch.setCell (Touch.setCell (Touch.setCell (Touch.setCell (Touch.refl _ _ _) ?_ ?_ _) ?_ ?_ _) ?_ ?_ _) ?_ ?_ _ <;> simp
  obtain ⟨hc3, hs3, hsub3, hfr3, hB2, _, _⟩ := H2.out
  have hB4 := hB2.trans (H4.out.mono hB2.size)
  have hfo : ∀ c ∈ f3, c < w.heap.size ∨ w.heap.size + 1 ≤ c := fun c hc => by have := (hfr3.2 c hc).1; omega
  have hfr4 := hfr3.below hfr3.lt H4.out
  exact ⟨o3, n3, t3, k3, a3, c3, f3, op, rfl, hc3, hs3, htt.sub (hsub3.below hfr3.lt H4.out) hfo, (htt.fresh hfr4 hfo).mono (by omega), htt.below hB4 (Nat.le_refl _)⟩

end Go.Proofs.Ytjpgnhpfmdjamaa.DrI
