import Derived.Test.YtjpgnhpfmdjamaaDraw6
import Derived.Test.YtjpgnhpfmdjamaaLawKit
import Derived.ProofKit
import Derived.Test.YtjpgnhpfmdjamaaMut2
import Derived.Test.YtjpgnhpfmdjamaaOpenAm
import Derived.Test.YtjpgnhpfmdjamaaCntC
import Derived.Test.YtjpgnhpfmdjamaaFacts
import Derived.Test.YtjpgnhpfmdjamaaRows
import Derived.Deep.RegionHeld3
import Derived.Deep.DeepCutAuto
import Derived.Deep.RegionWith
/-
  An argument of bytes, opened; and what a law's walk over draws needs.
-/
set_option linter.unusedVariables false
set_option linter.unusedSimpArgs false
namespace Go.Proofs.Ytjpgnhpfmdjamaa.LawC
open Go.ChangeShapes Go.WideShapes Go.ChangeAt Go.RowKit P1 Draw6

theorem bytes_of {W : World} {a : Addr} {l : Nat} {zs : List Int} (hl : l ≤ zs.length) (hc : ∀ i, i < zs.length → W.cell? (a.add i) = some (.int .u8 (zs.getD i 0))) (hz : ∀ n ∈ zs, (Lit.int .u8 n).wf = true) : Bytes W (some a) l := by
  intro h0
  have hsp : a.spot = none := by
    have h := hc 0 (by omega)
    rw [show a.add 0 = a from rfl] at h
    unfold World.cell? at h
    split at h
    · split at h
      · cases h
      · rename_i hs; simpa using hs
    · cases h
  obtain ⟨b, off, sp⟩ := a
  obtain rfl : sp = none := hsp
  refine ⟨b, off, rfl, World.block_lt_of_cell? _ _ (hc 0 (by omega)), fun i hi => ?_⟩
  have hi' : i < zs.length := by omega
  have h2 := hz (zs.getD i 0) (by rw [List.getD_eq_getElem?_getD, List.getElem?_eq_getElem hi']; exact List.getElem_mem hi')
  have h1 : IntKind.u8.min = 0 := rfl
  have h3 : IntKind.u8.max = 255 := rfl
  simp only [Lit.wf, Bool.and_eq_true, decide_eq_true_eq] at h2
  refine ⟨(zs.getD i 0).toNat, by omega, ?_⟩
  have e : ((zs.getD i 0).toNat : Int) = zs.getD i 0 := by omega
  rw [e]
  have ea : ((⟨b, off, none⟩ : Addr).add i) = ⟨b, off + i, none⟩ := by
    unfold Addr.add
    split
    · rename_i h0; subst h0; rfl
    · rfl
  rw [← ea]
  exact hc i hi'

theorem opened {H : Type} {enc : TypeId × Value → H} {W : World} {a : Option Addr} {len cap : Nat} {d : DataW H} {p : List MemPlace} (h0 : DataW.Trod enc Try.prog W 0 (fun _ => true) true 22 (.slice a len cap) d p) :
    Bytes W a len ∧ len ≤ cap ∧ cap ≤ maxLen := by
  have hc : Try.prog.cellsOf 5 = 1 := by kernel_rfl
  obtain ⟨fuel, hf⟩ := h0
  rcases open_ints Try.underlying22 Try.underlying5 hc hf with ⟨hcs, hx⟩ | ⟨a, len', cap', zs, hcs, _, hl, hm, hz, hx, hcell, hwz⟩
  · simp [Value.cells] at hcs
    obtain ⟨rfl, rfl, rfl⟩ := hcs
    exact ⟨fun h => by omega, by omega, by unfold maxLen; omega⟩
  · simp [Value.cells] at hcs
    obtain ⟨rfl, rfl, rfl⟩ := hcs
    simp only [if_true] at hz
    exact ⟨bytes_of (by omega) hcell hwz, hl, hm⟩

theorem bytes_below {w W : World} {a : Option Addr} {len : Nat} (h : Bytes w a len) (k : Below w.heap.size w W) : Bytes W a len := fun h0 => by
  obtain ⟨b, off, ha, hb, hc⟩ := h h0
  refine ⟨b, off, ha, Nat.lt_of_lt_of_le hb k.size, fun i hi => ?_⟩
  obtain ⟨v, hv, hcell⟩ := hc i hi
  exact ⟨v, hv, (k.cell (p := ⟨b, off + i, none⟩) hb).trans hcell⟩
end Go.Proofs.Ytjpgnhpfmdjamaa.LawC

/-
  What the model's draws of documents, perhaps changed in a place or two, come to: some document of a bounded size in memory of its own.
-/
set_option linter.unusedVariables false
set_option linter.unusedSimpArgs false
namespace Go.Proofs.Ytjpgnhpfmdjamaa.DrI
open Go.RowKit P1 Draw Draw2 Draw6 Copy DrA DrD Mut Mut2

/-- some document -/
def DocDraw (w : World) (e : Ending) (w' : World) : Prop := ∃ (o n : Int) (t : ByteArray) (k : F) (a : Option Addr) (cap : Nat) (fs : List Nat), e = .returned (.agg #[.int .i64 o, .int .i64 n, .string t, .slice a k.len cap]) ∧ k.len ≤ cap ∧ t.size + k.size ≤ 1040 ∧ SubAt w' a k fs ∧ Fresh w.heap.size w' fs ∧ Below w.heap.size w w'
/-- some document, and a number -/
def OpsDraw (w : World) (e : Ending) (w' : World) : Prop := ∃ (o n : Int) (t : ByteArray) (k : F) (a : Option Addr) (cap : Nat) (fs : List Nat) (op : Int), e = .returned (.tuple #[.agg #[.int .i64 o, .int .i64 n, .string t, .slice a k.len cap], .int .i64 op]) ∧ k.len ≤ cap ∧ t.size + k.size ≤ 1040 ∧ SubAt w' a k fs ∧ Fresh w.heap.size w' fs ∧ Below w.heap.size w w'

theorem opened' {w w1 : World} {ob : Obj} (h : Below (w.alloc ob).heap.size (w.alloc ob) w1) : Below w.heap.size w w1 := ((Below.refl _ _).alloc (Nat.le_refl _) _).trans (h.mono (by simp))

theorem four_new {w w1 : World} {T : TypeId} {u0 u1 u2 u3 : Value} (h : Below (w.alloc (.cells #[u0, u1, u2, u3] T)).heap.size (w.alloc (.cells #[u0, u1, u2, u3] T)) w1) : w1.there w.heap.size 0 4 := by
  have := there_new w #[u0, u1, u2, u3] T 4 (by simp)
  exact there_below this (by simp) h

theorem there_but {w w' : World} {b B x : Nat} (h : w.there b 0 4) (k : But B x w w') (hb : b < B) (hx : b ≠ x) : w'.there b 0 4 := fun j hj => ⟨by rw [k.cell hb hx]; exact (h j hj).1, by rw [k.frozen hb hx]; exact (h j hj).2⟩

set_option maxRecDepth 100000 in
set_option maxHeartbeats 1600000 in
theorem drawDocValid (w : World) (a : Option Addr) (len cap : Nat) (hb : Bytes w a len) (hlc : len ≤ cap) (hcm : cap ≤ maxLen) :
    Calls Try.prog 29 #[.slice a len cap] w (DocDraw w) := by
  have HO := Lib.hid (fun ob => l15Open (w.alloc ob) a len cap (LawC.bytes_below hb ((Below.refl _ _).alloc (Nat.le_refl _) ob)) hlc hcm)
  clear hb hlc hcm
  go_enter Try.func29, Try.ntmps29
  go_wp2_with fail
  refine (HO.out _).mono ?_
  rintro e1 w1 ⟨rfl, hrd1, hlt1, hb1⟩
  have hth1 := four_new hb1
  simp only [World.size_alloc] at hrd1 hlt1
  have HD := Lib.hid (l1Draw w1 (w.heap.size + 1) _ 0 hrd1 (by omega) hlt1)
  have H1 := Lib.hid (And.intro hlt1 (And.intro (opened' hb1) hth1))
  clear hrd1 hlt1 hb1 hth1
  go_wp2_with fail
  refine HD.out.mono ?_
  rintro e2 w2 ⟨o1, n1, t1, k1, a1, c1, f1, q1, rfl, hc1, hs1, hv1, hsub1, hfr1, hrd2, hq1, hbut2⟩
  have hx2 : w.heap.size + 1 < w2.heap.size := Nat.lt_of_lt_of_le H1.out.1 hbut2.size
  have HM := Lib.hid (l1Mutate w2 (w.heap.size + 1) _ q1 1000 o1 n1 t1 k1 a1 c1 f1 hsub1 hfr1.lt hc1 hs1 (by omega) hrd2 (by omega) hx2)
  have H2 := Lib.hid (And.intro hx2 hbut2)
  clear hc1 hs1 hv1 hsub1 hfr1 hrd2 hbut2 hx2
  go_wp2_with fail
  refine HM.out.mono ?_
  rintro e3 w3 ⟨o2, n2, t2, k2, a2, c2, f2, q2, rfl, hc2, hs2, hsub2, hfr2, hrd3, hq2, hbut3⟩
  have hx3 : w.heap.size + 1 < w3.heap.size := Nat.lt_of_lt_of_le H2.out.1 hbut3.size
  have HM3 := Lib.hid (l1Mutate w3 (w.heap.size + 1) _ q2 1020 o2 n2 t2 k2 a2 c2 f2 hsub2 hfr2.lt hc2 hs2 (by omega) hrd3 (by omega) hx3)
  have H3 := Lib.hid (And.intro hx3 hbut3)
  clear hc2 hs2 hsub2 hfr2 hrd3 hbut3 hx3
  go_wp2_with fail
  refine HM3.out.mono ?_
  rintro e4 w4 ⟨o3, n3, t3, k3, a3, c3, f3, q3, rfl, hc3, hs3, hsub3, hfr3, hrd4, hq3, hbut4⟩
  have hth4 : w4.there w.heap.size 0 4 := there_but (there_but (there_but H1.out.2.2 H2.out.2 (by have := H1.out.1; omega) (by omega)) H3.out.2 (by have := H2.out.1; omega) (by omega)) hbut4 (by have := H3.out.1; omega) (by omega)
  have hl4 : w.heap.size < w4.heap.size := by have := H3.out.1; have := hbut4.size; omega
  obtain ⟨⟨u0, u1, u2, u3, y0, y1, y2, y3⟩, z0, z1, z2, z3⟩ := there_at hth4
  have H4 := Lib.hid (And.intro hc3 (And.intro hs3 (And.intro hsub3 (And.intro hfr3 hbut4))))
  clear hc3 hs3 hsub3 hfr3 hrd4 hbut4 hth4
  go_wp2_with fail
  refine bodyPost_ret (v := .agg #[.int .i64 o3, .int .i64 n3, .string t3, .slice a3 k3.len c3]) (by simp [results, Try.results29, go_sem, y0, y1, y2, y3, hl4]) rfl ?_
  have htt : Touch w.heap.size (w.heap.size + 1) w4 ((((w4.setCell ⟨w.heap.size, 0, none⟩ (.int .i64 o3)).setCell ⟨w.heap.size, 1, none⟩ (.int .i64 n3)).setCell ⟨w.heap.size, 2, none⟩ (.string t3)).setCell ⟨w.heap.size, 3, none⟩ (.slice a3 k3.len c3)) := by
    refine Touch.setCell (Touch.setCell (Touch.setCell (Touch.setCell (Touch.refl _ _ _) ?_ ?_ _) ?_ ?_ _) ?_ ?_ _) ?_ ?_ _ <;> simp
  obtain ⟨hc3, hs3, hsub3, hfr3, hbut4⟩ := H4.out
  have g1 := H1.out.1
  have g2 := H1.out.2.1.size
  have g3 := H2.out.2.size
  have g4 := H3.out.2.size
  have hfo : ∀ c ∈ f3, c < w.heap.size ∨ w.heap.size + 1 ≤ c := fun c hc => by have := (hfr3.2 c hc).1; omega
  have hB4 : Below w.heap.size w w4 := ((H1.out.2.1.trans (H2.out.2.below (by omega) (by omega))).trans (H3.out.2.below (by omega) (by omega))).trans (hbut4.below (by omega) (by omega))
  exact ⟨o3, n3, t3, k3, a3, c3, f3, rfl, hc3, hs3, htt.sub hsub3 hfo, (htt.fresh hfr3 hfo).mono (by omega), htt.below hB4 (Nat.le_refl _)⟩

set_option maxRecDepth 100000 in
set_option maxHeartbeats 1600000 in
theorem drawCanFlatten (w : World) (a : Option Addr) (len cap : Nat) (hb : Bytes w a len) (hlc : len ≤ cap) (hcm : cap ≤ maxLen) :
    Calls Try.prog 32 #[.slice a len cap] w (DocDraw w) := by
  have HO := Lib.hid (fun ob => drawDocValid (w.alloc ob) a len cap (LawC.bytes_below hb ((Below.refl _ _).alloc (Nat.le_refl _) ob)) hlc hcm)
  clear hb hlc hcm
  go_enter Try.func32, Try.ntmps32
  go_wp2_with fail
  refine (HO.out _).mono ?_
  rintro e1 w4 ⟨o3, n3, t3, k3, a3, c3, f3, rfl, hc3, hs3, hsub3, hfr3, hb1⟩
  have hth1 := four_new hb1
  simp only [World.size_alloc] at hfr3
  have hl4 : w.heap.size < w4.heap.size := by have := hb1.size; simp at this; omega
  obtain ⟨⟨u0, u1, u2, u3, y0, y1, y2, y3⟩, z0, z1, z2, z3⟩ := there_at hth1
  have H4 := Lib.hid (And.intro hc3 (And.intro hs3 (And.intro hsub3 (And.intro hfr3 (opened' hb1)))))
  clear hc3 hs3 hsub3 hfr3 hb1 hth1
  go_wp2_with fail
  refine bodyPost_ret (v := .agg #[.int .i64 o3, .int .i64 n3, .string t3, .slice a3 k3.len c3]) (by simp [results, Try.results32, go_sem, y0, y1, y2, y3, hl4]) rfl ?_
  have htt : Touch w.heap.size (w.heap.size + 1) w4 ((((w4.setCell ⟨w.heap.size, 0, none⟩ (.int .i64 o3)).setCell ⟨w.heap.size, 1, none⟩ (.int .i64 n3)).setCell ⟨w.heap.size, 2, none⟩ (.string t3)).setCell ⟨w.heap.size, 3, none⟩ (.slice a3 k3.len c3)) := by
    refine Touch.setCell (Touch.setCell (Touch.setCell (Touch.setCell (Touch.refl _ _ _) ?_ ?_ _) ?_ ?_ _) ?_ ?_ _) ?_ ?_ _ <;> simp
  obtain ⟨hc3, hs3, hsub3, hfr3, hB4⟩ := H4.out
  have hfo : ∀ c ∈ f3, c < w.heap.size ∨ w.heap.size + 1 ≤ c := fun c hc => by have := (hfr3.2 c hc).1; omega
  exact ⟨o3, n3, t3, k3, a3, c3, f3, rfl, hc3, hs3, htt.sub hsub3 hfo, (htt.fresh hfr3 hfo).mono (by omega), htt.below hB4 (Nat.le_refl _)⟩

set_option maxRecDepth 100000 in
set_option maxHeartbeats 1600000 in
theorem drawCountOps (w : World) (a : Option Addr) (len cap : Nat) (hb : Bytes w a len) (hlc : len ≤ cap) (hcm : cap ≤ maxLen) :
    Calls Try.prog 25 #[.slice a len cap] w (OpsDraw w) := by
  have HO := Lib.hid (fun ob => drawDocValid (w.alloc ob) a len cap (LawC.bytes_below hb ((Below.refl _ _).alloc (Nat.le_refl _) ob)) hlc hcm)
  have HP := Lib.hid (fun (w1 : World) (h : Below w.heap.size w w1) => l15Open w1 a len cap (LawC.bytes_below hb h) hlc hcm)
  clear hb hlc hcm
  go_enter Try.func25, Try.ntmps25
  go_wp2_with fail
  refine (HO.out _).mono ?_
  rintro e1 w2 ⟨o3, n3, t3, k3, a3, c3, f3, rfl, hc3, hs3, hsub3, hfr3, hb1⟩
  have hth1 := four_new hb1
  simp only [World.size_alloc] at hfr3
  have hl2 : w.heap.size < w2.heap.size := by have := hb1.size; simp at this; omega
  have H2 := Lib.hid (And.intro hc3 (And.intro hs3 (And.intro hsub3 (And.intro hfr3 (And.intro (opened' hb1) (And.intro hl2 hth1))))))
  clear hc3 hs3 hsub3 hfr3 hb1 hth1 hl2
  go_wp2_with fail
  refine (HP.out w2 H2.out.2.2.2.2.1).mono ?_
  rintro e3 w3 ⟨rfl, hrd3, hlt3, hb3⟩
  have hA3 : ∀ ob, Below w3.heap.size w3 (w3.alloc ob) := fun ob => (Below.refl _ _).alloc (Nat.le_refl _) _
  have HN := Lib.hid (Draw.num (w3.alloc (.cells #[.int .i64 2, .int .i64 7, .int .i64 3, .int .i64 8, .int .i64 5, .int .i64 1, .int .i64 0] 3)) w2.heap.size w2.heap.size 0 w3.heap.size 0 7 [2, 7, 3, 8, 5, 1, 0] (rdBelow hrd3 hlt3 (hA3 _)) (by omega) (fun j hj => by
      rw [World.cell?_alloc_new]
      have hj' : j < 7 := hj
      match j, hj' with
      | 0, _ => rfl
      | 1, _ => rfl
      | 2, _ => rfl
      | 3, _ => rfl
      | 4, _ => rfl
      | 5, _ => rfl
      | 6, _ => rfl) (by decide) (by decide) (by decide) (by simp) (by omega))
  have H3 := Lib.hid (And.intro hlt3 hb3)
  clear hrd3 hlt3 hb3 hA3
  go_wp2_with fail
  refine HN.out.mono ?_
  rintro e4 w4 ⟨op, hmem, rfl, hrd4, hbutn⟩
  have hbut4 : But w3.heap.size w2.heap.size w3 w4 := ((But.refl _ _ _).alloc (Nat.le_refl _) _).trans (hbutn.mono (by simp))
  have hB24 : Below w2.heap.size w2 w4 := H3.out.2.trans (hbut4.below H3.out.2.size (Nat.le_refl _))
  have hth4 : w4.there w.heap.size 0 4 := there_below H2.out.2.2.2.2.2.2 H2.out.2.2.2.2.2.1 hB24
  have hl4 : w.heap.size < w4.heap.size := Nat.lt_of_lt_of_le H2.out.2.2.2.2.2.1 hB24.size
  obtain ⟨⟨u0, u1, u2, u3, y0, y1, y2, y3⟩, z0, z1, z2, z3⟩ := there_at hth4
  have H4 := Lib.hid hB24
  clear hmem hrd4 hbutn hbut4 hB24 hth4
  go_wp2_with fail
  refine bodyPost_ret (v := .tuple #[.agg #[.int .i64 o3, .int .i64 n3, .string t3, .slice a3 k3.len c3], .int .i64 op]) (by simp [results, Try.results25, go_sem, y0, y1, y2, y3, hl4]) rfl ?_
  have htt : Touch w.heap.size (w.heap.size + 1) w4 ((((w4.setCell ⟨w.heap.size, 0, none⟩ (.int .i64 o3)).setCell ⟨w.heap.size, 1, none⟩ (.int .i64 n3)).setCell ⟨w.heap.size, 2, none⟩ (.string t3)).setCell ⟨w.heap.size, 3, none⟩ (.slice a3 k3.len c3)) := by
    refine Touch.setCell (Touch.setCell (Touch.setCell (Touch.setCell (Touch.refl _ _ _) ?_ ?_ _) ?_ ?_ _) ?_ ?_ _) ?_ ?_ _ <;> simp
  obtain ⟨hc3, hs3, hsub3, hfr3, hB2, _, _⟩ := H2.out
  have hB4 := hB2.trans (H4.out.mono hB2.size)
  have hfo : ∀ c ∈ f3, c < w.heap.size ∨ w.heap.size + 1 ≤ c := fun c hc => by have := (hfr3.2 c hc).1; omega
  have hfr4 := hfr3.below hfr3.lt H4.out
  exact ⟨o3, n3, t3, k3, a3, c3, f3, op, rfl, hc3, hs3, htt.sub (hsub3.below hfr3.lt H4.out) hfo, (htt.fresh hfr4 hfo).mono (by omega), htt.below hB4 (Nat.le_refl _)⟩

end Go.Proofs.Ytjpgnhpfmdjamaa.DrI

/-
  What the model's DrawFlatText comes to: some document of a bounded size in memory of its own.
-/
set_option linter.unusedVariables false
set_option linter.unusedSimpArgs false
namespace Go.Proofs.Ytjpgnhpfmdjamaa.DrK
open Go.RowKit P1 Draw Draw2 Draw6 Copy DrA DrD Mut Mut2 DrI

theorem box_new (w : World) (T : TypeId) (u0 u1 u2 u3 : Value) : (w.alloc (.cells #[u0, u1, u2, u3] T)).cell? ⟨w.heap.size, 0, none⟩ = some u0 ∧ (w.alloc (.cells #[u0, u1, u2, u3] T)).cell? ⟨w.heap.size, 1, none⟩ = some u1 ∧ (w.alloc (.cells #[u0, u1, u2, u3] T)).cell? ⟨w.heap.size, 2, none⟩ = some u2 ∧ (w.alloc (.cells #[u0, u1, u2, u3] T)).cell? ⟨w.heap.size, 3, none⟩ = some u3 := by
  refine ⟨?_, ?_, ?_, ?_⟩ <;> (rw [World.cell?_alloc_new]; rfl)

set_option maxRecDepth 100000 in
set_option maxHeartbeats 1600000 in
theorem drawFlatText (w : World) (a : Option Addr) (len cap : Nat) (hb : Bytes w a len) (hlc : len ≤ cap) (hcm : cap ≤ maxLen) :
    Calls Try.prog 43 #[.slice a len cap] w (DocDraw w) := by
  have HO := Lib.hid (fun ob => l15Open (w.alloc ob) a len cap (LawC.bytes_below hb ((Below.refl _ _).alloc (Nat.le_refl _) ob)) hlc hcm)
  clear hb hlc hcm
  go_enter Try.func43, Try.ntmps43
  go_wp2_with fail
  refine (HO.out _).mono ?_
  rintro e1 w1 ⟨rfl, hrd1, hlt1, hb1⟩
  have hth1 := four_new hb1
  simp only [World.size_alloc] at hrd1 hlt1
  have HD := Lib.hid (l1Draw w1 (w.heap.size + 1) _ 0 hrd1 (by omega) hlt1)
  have H1 := Lib.hid (And.intro hlt1 (And.intro (opened' hb1) hth1))
  clear hrd1 hlt1 hb1 hth1
  go_wp2_with fail
  refine HD.out.mono ?_
  rintro e2 w2 ⟨o1, n1, t1, k1, a1, c1, f1, q1, rfl, hc1, hs1, hv1, hsub1, hfr1, hrd2, hq1, hbut2⟩
  have hx2 : w.heap.size + 1 < w2.heap.size := Nat.lt_of_lt_of_le H1.out.1 hbut2.size
  have hA2 : ∀ ob, Below w2.heap.size w2 (w2.alloc ob) := fun ob => (Below.refl _ _).alloc (Nat.le_refl _) _
  have HP := Lib.hid (fun ob => pick (w2.alloc ob) (w.heap.size + 1) _ q1 12 (rdBelow hrd2 hx2 (hA2 ob)) (by omega))
  have HB := Lib.hid (fun T => box_new w2 T (.int .i64 o1) (.int .i64 n1) (.string t1) (.slice a1 k1.len c1))
  have H2 := Lib.hid (And.intro hx2 (And.intro hbut2 (And.intro hsub1 (And.intro hfr1 (And.intro hc1 hs1)))))
  clear hc1 hs1 hv1 hsub1 hfr1 hrd2 hbut2 hx2 hA2
  go_wp2_with fail
  refine (HP.out _).mono ?_
  rintro e3 w3 ⟨r, rfl, hr0, hr1, hrd3, hbut3⟩
  have hx3 : w.heap.size + 1 < w3.heap.size := by have := H2.out.1; have := hbut3.size; simp at this; omega
  have hne : w2.heap.size ≠ w.heap.size + 1 := by have := H2.out.1; omega
  have hw3 : w2.heap.size < w3.heap.size := by have := hbut3.size; simp at this; omega
  obtain ⟨g0, g1, g2, g3⟩ : w3.cell? ⟨w2.heap.size, 0, none⟩ = some (.int .i64 o1) ∧ w3.cell? ⟨w2.heap.size, 1, none⟩ = some (.int .i64 n1) ∧ w3.cell? ⟨w2.heap.size, 2, none⟩ = some (.string t1) ∧ w3.cell? ⟨w2.heap.size, 3, none⟩ = some (.slice a1 k1.len c1) := by
    obtain ⟨e0, e1, e2, e3⟩ := HB.out 25
    exact ⟨(hbut3.cell (by simp) hne).trans e0, (hbut3.cell (by simp) hne).trans e1, (hbut3.cell (by simp) hne).trans e2, (hbut3.cell (by simp) hne).trans e3⟩
  have hbut3' : But w2.heap.size (w.heap.size + 1) w2 w3 := ((But.refl _ _ _).alloc (Nat.le_refl _) _).trans (hbut3.mono (by simp))
  have hfx : ∀ c ∈ f1, c < w2.heap.size ∧ c ≠ w.heap.size + 1 := fun c hc => by
    have h1 := (H2.out.2.2.2.1.2 c hc).1
    have h2 := H2.out.2.2.2.1.lt c hc
    have h3 := H1.out.1
    exact ⟨h2, by omega⟩
  have hsub3 := hbut3'.sub H2.out.2.2.1 hfx
  have hfr3 : Fresh w1.heap.size w3 f1 := H2.out.2.2.2.1.alike (Nat.le_of_lt hw3) (fun c hc o => hbut3'.frozen (hfx c hc).1 (hfx c hc).2)
  have hth3 : w3.there w.heap.size 0 4 := there_but (there_but H1.out.2.2 H2.out.2.1 (by have := H1.out.1; omega) (by omega)) hbut3' (by have := H2.out.1; omega) (by omega)
  have H3 := Lib.hid (And.intro hsub3 (And.intro hfr3 (And.intro hbut3' (And.intro hx3 hth3))))
  have HRD := Lib.hid hrd3
  have hr : r = 0 ∨ r ≠ 0 := by omega
  clear hrd3 hbut3 hbut3' hfx hsub3 hfr3 hth3 hne hr0 hr1
  rcases hr with rfl | hr
  · have HM := Lib.hid (l1Mutate w3 (w.heap.size + 1) _ (q1 + 1) 1000 o1 n1 t1 k1 a1 c1 f1 H3.out.1 H3.out.2.1.lt H2.out.2.2.2.2.1 H2.out.2.2.2.2.2 (by omega) HRD.out (by omega) H3.out.2.2.2.1)
    go_wp2_with fail
    refine HM.out.mono ?_
    rintro e4 w5 ⟨o2, n2, t2, k2, a2, c2, f2, q2, rfl, hc2, hs2, hsub2, hfr2, hrd5, hq2, hbut5⟩
    have hx5 : w.heap.size + 1 < w5.heap.size := Nat.lt_of_lt_of_le H3.out.2.2.2.1 hbut5.size
    have HM5 := Lib.hid (l1Mutate w5 (w.heap.size + 1) _ q2 1020 o2 n2 t2 k2 a2 c2 f2 hsub2 hfr2.lt hc2 hs2 (by omega) hrd5 (by omega) hx5)
    have H5 := Lib.hid (And.intro hx5 hbut5)
    clear hc2 hs2 hsub2 hfr2 hrd5 hbut5 hx5 g0 g1 g2 g3
    go_wp2_with fail
    refine HM5.out.mono ?_
    rintro e4 w4 ⟨o3, n3, t3, k3, a3, c3, f3, q3, rfl, hc3, hs3, hsub3, hfr3, hrd4, hq3, hbut4⟩
    have hth4 : w4.there w.heap.size 0 4 := there_but (there_but H3.out.2.2.2.2 H5.out.2 (by have := H3.out.2.2.2.1; omega) (by omega)) hbut4 (by have := H5.out.1; omega) (by omega)
    have hl4 : w.heap.size < w4.heap.size := by have := H5.out.1; have := hbut4.size; omega
    obtain ⟨⟨u0, u1, u2, u3, y0, y1, y2, y3⟩, z0, z1, z2, z3⟩ := there_at hth4
    have H4 := Lib.hid (And.intro hc3 (And.intro hs3 (And.intro hsub3 (And.intro hfr3 hbut4))))
    clear hc3 hs3 hsub3 hfr3 hrd4 hbut4 hth4
    go_wp2_with fail
    refine bodyPost_ret (v := .agg #[.int .i64 o3, .int .i64 n3, .string t3, .slice a3 k3.len c3]) (by simp [results, Try.results43, go_sem, y0, y1, y2, y3, hl4]) rfl ?_
    have htt : Touch w.heap.size (w.heap.size + 1) w4 ((((w4.setCell ⟨w.heap.size, 0, none⟩ (.int .i64 o3)).setCell ⟨w.heap.size, 1, none⟩ (.int .i64 n3)).setCell ⟨w.heap.size, 2, none⟩ (.string t3)).setCell ⟨w.heap.size, 3, none⟩ (.slice a3 k3.len c3)) := by
      refine Touch.setCell (Touch.setCell (Touch.setCell (Touch.setCell (Touch.refl _ _ _) ?_ ?_ _) ?_ ?_ _) ?_ ?_ _) ?_ ?_ _ <;> simp
    obtain ⟨hc3, hs3, hsub3, hfr3, hbut4⟩ := H4.out
    have g1 := H1.out.1
    have g2 := H1.out.2.1.size
    have g3 := H2.out.2.1.size
    have g4 := H3.out.2.2.1.size
    have g5 := H5.out.2.size
    have hfo : ∀ c ∈ f3, c < w.heap.size ∨ w.heap.size + 1 ≤ c := fun c hc => by have := (hfr3.2 c hc).1; omega
    have hB4 : Below w.heap.size w w4 := (((H1.out.2.1.trans (H2.out.2.1.below (by omega) (by omega))).trans (H3.out.2.2.1.below (by omega) (by omega))).trans (H5.out.2.below (by omega) (by omega))).trans (hbut4.below (by omega) (by omega))
    exact ⟨o3, n3, t3, k3, a3, c3, f3, rfl, hc3, hs3, htt.sub hsub3 hfo, (htt.fresh hfr3 hfo).mono (by omega), htt.below hB4 (Nat.le_refl _)⟩
  · have hrb : (r == 0) = false := beq_eq_false_iff_ne.2 hr
    have hl4 : w.heap.size < w3.heap.size := by omega
    obtain ⟨⟨u0, u1, u2, u3, y0, y1, y2, y3⟩, z0, z1, z2, z3⟩ := there_at H3.out.2.2.2.2
    clear hr
    go_wp2_with fail
    refine bodyPost_ret (v := .agg #[.int .i64 o1, .int .i64 n1, .string t1, .slice a1 k1.len c1]) (by simp [results, Try.results43, go_sem, y0, y1, y2, y3, hl4]) rfl ?_
    have htt : Touch w.heap.size (w.heap.size + 1) w3 ((((w3.setCell ⟨w.heap.size, 0, none⟩ (.int .i64 o1)).setCell ⟨w.heap.size, 1, none⟩ (.int .i64 n1)).setCell ⟨w.heap.size, 2, none⟩ (.string t1)).setCell ⟨w.heap.size, 3, none⟩ (.slice a1 k1.len c1)) := by
      refine Touch.setCell (Touch.setCell (Touch.setCell (Touch.setCell (Touch.refl _ _ _) ?_ ?_ _) ?_ ?_ _) ?_ ?_ _) ?_ ?_ _ <;> simp
    obtain ⟨hsub3, hfr3, hbut3, _, _⟩ := H3.out
    have g1 := H1.out.1
    have g2 := H1.out.2.1.size
    have g3 := H2.out.2.1.size
    have hfo : ∀ c ∈ f1, c < w.heap.size ∨ w.heap.size + 1 ≤ c := fun c hc => by have := (hfr3.2 c hc).1; omega
    have hB4 : Below w.heap.size w w3 := (H1.out.2.1.trans (H2.out.2.1.below (by omega) (by omega))).trans (hbut3.below (by omega) (by omega))
    exact ⟨o1, n1, t1, k1, a1, c1, f1, rfl, H2.out.2.2.2.2.1, by have := H2.out.2.2.2.2.2; omega, htt.sub hsub3 hfo, (htt.fresh hfr3 hfo).mono (by omega), htt.below hB4 (Nat.le_refl _)⟩

end Go.Proofs.Ytjpgnhpfmdjamaa.DrK

/-
  What the model's DrawOpenLayout comes to.
-/
set_option linter.unusedVariables false
set_option linter.unusedSimpArgs false
namespace Go.Proofs.Ytjpgnhpfmdjamaa.DrL
open Go.RowKit P1 Draw Draw2 Draw6 Copy DrA DrD Mut Mut2 DrI

set_option maxRecDepth 100000 in
set_option maxHeartbeats 1600000 in
theorem drawOpenLayout (w : World) (a : Option Addr) (len cap : Nat) (hb : Bytes w a len) (hlc : len ≤ cap) (hcm : cap ≤ maxLen) :
    Calls Try.prog 37 #[.slice a len cap] w (DocDraw w) := by
  have HO := Lib.hid (fun ob => DrK.drawFlatText (w.alloc ob) a len cap (LawC.bytes_below hb ((Below.refl _ _).alloc (Nat.le_refl _) ob)) hlc hcm)
  clear hb hlc hcm
  go_enter Try.func37, Try.ntmps37
  go_wp2_with fail
  refine (HO.out _).mono ?_
  rintro e1 w4 ⟨o3, n3, t3, k3, a3, c3, f3, rfl, hc3, hs3, hsub3, hfr3, hb1⟩
  have hth1 := four_new hb1
  simp only [World.size_alloc] at hfr3
  have hl4 : w.heap.size < w4.heap.size := by have := hb1.size; simp at this; omega
  obtain ⟨⟨u0, u1, u2, u3, y0, y1, y2, y3⟩, z0, z1, z2, z3⟩ := there_at hth1
  have H4 := Lib.hid (And.intro hc3 (And.intro hs3 (And.intro hsub3 (And.intro hfr3 (opened' hb1)))))
  clear hc3 hs3 hsub3 hfr3 hb1 hth1
  go_wp2_with fail
  refine bodyPost_ret (v := .agg #[.int .i64 o3, .int .i64 n3, .string t3, .slice a3 k3.len c3]) (by simp [results, Try.results37, go_sem, y0, y1, y2, y3, hl4]) rfl ?_
  have htt : Touch w.heap.size (w.heap.size + 1) w4 ((((w4.setCell ⟨w.heap.size, 0, none⟩ (.int .i64 o3)).setCell ⟨w.heap.size, 1, none⟩ (.int .i64 n3)).setCell ⟨w.heap.size, 2, none⟩ (.string t3)).setCell ⟨w.heap.size, 3, none⟩ (.slice a3 k3.len c3)) := by
    refine Touch.setCell (Touch.setCell (Touch.setCell (Touch.setCell (Touch.refl _ _ _) ?_ ?_ _) ?_ ?_ _) ?_ ?_ _) ?_ ?_ _ <;> simp
  obtain ⟨hc3, hs3, hsub3, hfr3, hB4⟩ := H4.out
  have hfo : ∀ c ∈ f3, c < w.heap.size ∨ w.heap.size + 1 ≤ c := fun c hc => by have := (hfr3.2 c hc).1; omega
  exact ⟨o3, n3, t3, k3, a3, c3, f3, rfl, hc3, hs3, htt.sub hsub3 hfo, (htt.fresh hfr3 hfo).mono (by omega), htt.below hB4 (Nat.le_refl _)⟩

end Go.Proofs.Ytjpgnhpfmdjamaa.DrL

/-
  A document, and layouts, that stay where they are while a law goes on: what the functions of chapter 2 come to at them.
-/
set_option linter.unusedVariables false
set_option linter.unusedSimpArgs false
namespace Go.Proofs.Ytjpgnhpfmdjamaa.DocO
open Go.RowKit P1 LayN OpenR

theorem fits_of {m : Nat} (hm : m ≤ maxLen) : ∀ f : F, f.size ≤ m → f.Fits
  | .nil, _ => trivial
  | .cons o n t k r, h => by
    have h1 : t.size ≤ maxLen := by simp only [F.size] at h; omega
    have h2 : k.len ≤ maxLen := by have := F.len_le_size k; simp only [F.size] at h; omega
    exact ⟨h1, h2, fits_of hm k (by simp only [F.size] at h; omega), fits_of hm r (by simp only [F.size] at h; omega)⟩

/-- a document in memory that may be written, of a bounded size -/
structure Doc0 (w : World) (n : Int) (t : ByteArray) (k : F) (a : Option Addr) (cap : Nat) (fs : List Nat) : Prop where
  sub : SubAt w a k fs
  ok : ∀ c ∈ fs, c < w.heap.size ∧ ∀ o, w.frozen? ⟨c, o, none⟩ = false
  cap_le : k.len ≤ cap
  size : t.size + k.size ≤ 100000

section
variable {w w' : World} {o n : Int} {t : ByteArray} {k : F} {a : Option Addr} {cap : Nat} {fs : List Nat}

theorem Doc0.ext (h : Doc0 w n t k a cap fs) (e : Ext w w') : Doc0 w' n t k a cap fs :=
  ⟨e.sub h.sub (fun c hc => (h.ok c hc).1), fun c hc => ⟨Nat.lt_of_lt_of_le (h.ok c hc).1 e.size, fun o => (e.frozen (h.ok c hc).1).trans ((h.ok c hc).2 o)⟩, h.cap_le, h.size⟩
theorem Doc0.len (h : Doc0 w n t k a cap fs) : k.len ≤ 100000 := by have := h.size; have := F.len_le_size k; omega
theorem Doc0.fits (h : Doc0 w n t k a cap fs) : k.Fits := fits_of (m := 100000) (by unfold maxLen; omega) k (by have := h.size; omega)
theorem Doc0.tfit (h : Doc0 w n t k a cap fs) : t.size ≤ maxLen := by have := h.size; unfold maxLen; omega
theorem Doc0.lfit (h : Doc0 w n t k a cap fs) : k.len ≤ maxLen := by have := h.len; unfold maxLen; omega
theorem Doc0.lt (h : Doc0 w n t k a cap fs) : ∀ c ∈ fs, c < w.heap.size := fun c hc => (h.ok c hc).1
end

/-- a document of a list of Kids, by the list's parts -/
theorem Doc0.kid' {w : World} {n : Int} {t : ByteArray} {k : F} {a : Option Addr} {cap : Nat} {fs : List Nat} (h : Doc0 w n t k a cap fs) {p : F} {o1 n1 : Int} {t1 : ByteArray} {k1 r : F} (hk : k = p.app (.cons o1 n1 t1 k1 r)) : ∃ (b off : Nat) (a1 : Option Addr) (c1 : Nat) (f1 : List Nat), a = some ⟨b, off, none⟩ ∧ b < w.heap.size ∧ Doc0 w n1 t1 k1 a1 c1 f1 ∧
    w.cell? ⟨b, off + p.len * 4, none⟩ = some (.int .i64 o1) ∧ w.cell? ⟨b, off + p.len * 4 + 1, none⟩ = some (.int .i64 n1) ∧ w.cell? ⟨b, off + p.len * 4 + 2, none⟩ = some (.string t1) ∧ w.cell? ⟨b, off + p.len * 4 + 3, none⟩ = some (.slice a1 k1.len c1) := by
  rcases h.sub with ⟨h0, _⟩ | ⟨b, off, f', rfl, _, hfs, hrow⟩
  · rw [h0] at hk
    have := congrArg F.len hk
    rw [F.len_app] at this
    simp [F.len] at this
  · rw [hk] at hrow
    obtain ⟨a1, c1, f1, h1, h2, h3, h4, h5, h6, h7⟩ := row_at hrow
    refine ⟨b, off, a1, c1, f1, rfl, (h.ok b (by rw [hfs]; simp)).1, ⟨h6, fun c hc => h.ok c (by rw [hfs]; simp [h7 c hc]), h5, ?_⟩, h1, h2, h3, h4⟩
    have := h.size
    rw [hk, F.size_app] at this
    simp only [F.size] at this
    omega

/-- the four cells of a variable, later -/
theorem box4 {w w' : World} {b : Nat} {u0 u1 u2 u3 : Value} (h : w.cell? ⟨b, 0, none⟩ = some u0 ∧ w.cell? ⟨b, 1, none⟩ = some u1 ∧ w.cell? ⟨b, 2, none⟩ = some u2 ∧ w.cell? ⟨b, 3, none⟩ = some u3) (hb : b < w.heap.size) (k : Ext w w') :
    w'.cell? ⟨b, 0, none⟩ = some u0 ∧ w'.cell? ⟨b, 1, none⟩ = some u1 ∧ w'.cell? ⟨b, 2, none⟩ = some u2 ∧ w'.cell? ⟨b, 3, none⟩ = some u3 :=
  ⟨(k.cell hb).trans h.1, (k.cell hb).trans h.2.1, (k.cell hb).trans h.2.2.1, (k.cell hb).trans h.2.2.2⟩
theorem keep8 {w w' : World} {b c i : Nat} {u0 u1 u2 u3 v0 v1 v2 v3 : Value} (h : (w.cell? ⟨b, 0, none⟩ = some u0 ∧ w.cell? ⟨b, 1, none⟩ = some u1 ∧ w.cell? ⟨b, 2, none⟩ = some u2 ∧ w.cell? ⟨b, 3, none⟩ = some u3) ∧ (w.cell? ⟨c, i, none⟩ = some v0 ∧ w.cell? ⟨c, i + 1, none⟩ = some v1 ∧ w.cell? ⟨c, i + 2, none⟩ = some v2 ∧ w.cell? ⟨c, i + 3, none⟩ = some v3)) (l : b < w.heap.size ∧ c < w.heap.size) (k : Ext w w') :
    w'.cell? ⟨b, 0, none⟩ = some u0 ∧ w'.cell? ⟨b, 1, none⟩ = some u1 ∧ w'.cell? ⟨b, 2, none⟩ = some u2 ∧ w'.cell? ⟨b, 3, none⟩ = some u3 ∧ w'.cell? ⟨c, i, none⟩ = some v0 ∧ w'.cell? ⟨c, i + 1, none⟩ = some v1 ∧ w'.cell? ⟨c, i + 2, none⟩ = some v2 ∧ w'.cell? ⟨c, i + 3, none⟩ = some v3 :=
  ⟨(k.cell l.1).trans h.1.1, (k.cell l.1).trans h.1.2.1, (k.cell l.1).trans h.1.2.2.1, (k.cell l.1).trans h.1.2.2.2, (k.cell l.2).trans h.2.1, (k.cell l.2).trans h.2.2.1, (k.cell l.2).trans h.2.2.2.1, (k.cell l.2).trans h.2.2.2.2⟩
theorem box_new (w : World) (T : TypeId) (u0 u1 u2 u3 : Value) : (w.alloc (.cells #[u0, u1, u2, u3] T)).cell? ⟨w.heap.size, 0, none⟩ = some u0 ∧ (w.alloc (.cells #[u0, u1, u2, u3] T)).cell? ⟨w.heap.size, 1, none⟩ = some u1 ∧ (w.alloc (.cells #[u0, u1, u2, u3] T)).cell? ⟨w.heap.size, 2, none⟩ = some u2 ∧ (w.alloc (.cells #[u0, u1, u2, u3] T)).cell? ⟨w.heap.size, 3, none⟩ = some u3 := by
  refine ⟨?_, ?_, ?_, ?_⟩ <;> (rw [World.cell?_alloc_new]; rfl)

/-- a layout in memory, valid or empty -/
structure LayIs (w : World) (X : List (Int × ByteArray)) (a : Option Addr) (c : Nat) : Prop where
  sub : ∃ fs, LaySub w a X fs
  cap_le : X.length ≤ c
  good : X = [] ∨ lv X = true
theorem LayIs.ext {w w' : World} {X : List (Int × ByteArray)} {a : Option Addr} {c : Nat} (h : LayIs w X a c) (e : Ext w w') : LayIs w' X a c := by
  obtain ⟨fs, hs⟩ := h.sub
  exact ⟨⟨fs, hs.below hs.lt e⟩, h.cap_le, h.good⟩
theorem LayIs.len {w : World} {X : List (Int × ByteArray)} {a : Option Addr} {c : Nat} (h : LayIs w X a c) : X.length ≤ 200 := by
  rcases h.good with h | h
  · rw [h]; simp
  · exact (lv_len h).2
theorem LayIs.fits {w : World} {X : List (Int × ByteArray)} {a : Option Addr} {c : Nat} (h : LayIs w X a c) : L.Fits X ∧ X.length ≤ maxLen := by
  refine ⟨fun r hr => ?_, by have := h.len; unfold maxLen; omega⟩
  rcases h.good with g | g
  · rw [g] at hr; simp at hr
  · obtain ⟨i, hi, rfl⟩ := List.getElem_of_mem hr
    have := lv_small g i hi
    unfold maxLen; omega

/-- a layout, and whether there is one -/
def Out (w : World) (X : List (Int × ByteArray)) (V : Bool) (e : Ending) (w' : World) : Prop := ∃ (a : Option Addr) (c : Nat), e = .returned (.tuple #[.slice a X.length c, .bool V]) ∧ LayIs w' X a c ∧ Ext w w'
theorem Out.of {w w' : World} {r : List (Int × ByteArray) × Bool} {e : Ending} (h : LayRes w r e w') (g : r.1 = [] ∨ lv r.1 = true) : Out w r.1 r.2 e w' := by
  obtain ⟨a, c, fs, rfl, h1, h2, _, h4⟩ := h
  exact ⟨a, c, rfl, ⟨⟨fs, h2⟩, h1, g⟩, h4⟩
theorem open_good' (o n : Int) (t : ByteArray) (k : F) : (openRes o n t k).1 = [] ∨ lv (openRes o n t k).1 = true := by
  cases h : validD o n t k with
  | true => rw [openRes_yes h]; exact .inr (valid_lv h)
  | false => rw [openRes_no h]; exact .inl rfl
theorem nest_good (n : Int) (l : List (Int × ByteArray)) : (nestR n l).1 = [] ∨ lv (nestR n l).1 = true := by
  unfold nestR
  split
  · rename_i h; exact .inr h.2.2.2
  · exact .inl rfl
theorem nest_yes {n : Int} {l Z : List (Int × ByteArray)} (h : nestR n l = (Z, true)) : Z = nestL n l := by
  unfold nestR at h
  split at h
  · injection h with h1 _; exact h1.symm
  · injection h with _ h2; cases h2
theorem open_yes {o n : Int} {t : ByteArray} {k : F} {X : List (Int × ByteArray)} (h : openRes o n t k = (X, true)) : validD o n t k = true ∧ X = openD o n t k := by
  cases hv : validD o n t k with
  | true => rw [openRes_yes hv] at h; injection h with h1 _; exact ⟨rfl, h1.symm⟩
  | false => rw [openRes_no hv] at h; injection h with _ h2; cases h2

section
variable {w w' : World} {o n : Int} {t : ByteArray} {k : F} {a a' : Option Addr} {cap c c' : Nat} {fs : List Nat} {X X' : List (Int × ByteArray)}

theorem Doc0.implOpen (h : Doc0 w n t k a cap fs) (o : Int) : Calls Try.prog 38 #[.agg #[.int .i64 o, .int .i64 n, .string t, .slice a k.len cap]] w (Out w (openRes o n t k).1 (openRes o n t k).2) :=
  (implOpenLayout w o n t k a cap fs h.sub h.lt h.cap_le (by have := h.size; omega) h.fits h.tfit).mono fun e w' g => Out.of g (open_good' o n t k)
theorem Doc0.specOpen (h : Doc0 w n t k a cap fs) (o : Int) : Calls Try.prog 39 #[.agg #[.int .i64 o, .int .i64 n, .string t, .slice a k.len cap]] w (Out w (openRes o n t k).1 (openRes o n t k).2) :=
  (specOpenLayout w o n t k a cap fs h.sub h.lt h.cap_le (by have := h.size; omega) h.fits h.tfit).mono fun e w' g => Out.of g (open_good' o n t k)

theorem nest_sub (h : Doc0 w n t k a cap fs) (o : Int) (T : TypeId) : SubAt (w.alloc (.cells #[.int .i64 o, .int .i64 n, .string t, .slice a k.len cap] T)) (some ⟨w.heap.size, 0, none⟩) (.cons o n t k .nil) (w.heap.size :: fs) := by
  obtain ⟨c0, c1, c2, c3⟩ := box_new w T (.int .i64 o) (.int .i64 n) (.string t) (.slice a k.len cap)
  exact .inr ⟨w.heap.size, 0, fs, rfl, by simp, rfl, RowAt.cons_iff.2 ⟨a, cap, fs, [], c0, c1, c2, c3, h.cap_le, h.sub.below h.lt ((Below.refl _ _).alloc (Nat.le_refl _) _), rfl, by simp⟩⟩

theorem Doc0.implOpenNest (h : Doc0 w n t k a cap fs) (o m : Int) (T : TypeId) (W : World) (hW : Ext (w.alloc (.cells #[.int .i64 o, .int .i64 n, .string t, .slice a k.len cap] T)) W) : Calls Try.prog 38 #[.agg #[.int .i64 6, .int .i64 m, .string ⟨#[]⟩, .slice (some ⟨w.heap.size, 0, none⟩) 1 1]] W (Out W (openRes 6 m ⟨#[]⟩ (.cons o n t k .nil)).1 (openRes 6 m ⟨#[]⟩ (.cons o n t k .nil)).2) := by
  have hs := h.size
  have hlt : ∀ c ∈ w.heap.size :: fs, c < (w.alloc (.cells #[.int .i64 o, .int .i64 n, .string t, .slice a k.len cap] T)).heap.size := by
    intro c hc
    rcases List.mem_cons.1 hc with rfl | hc
    · simp
    · have := h.lt c hc; simp; omega
  have hf : (F.cons o n t k .nil).Fits := ⟨h.tfit, by have := h.len; unfold maxLen; omega, h.fits, trivial⟩
  exact (implOpenLayout W 6 m ⟨#[]⟩ (.cons o n t k .nil) (some ⟨w.heap.size, 0, none⟩) 1 (w.heap.size :: fs) ((nest_sub h o T).below hlt hW) (fun c hc => Nat.lt_of_lt_of_le (hlt c hc) hW.size) (Nat.le_refl _) (by simp only [F.size]; omega) hf (Nat.zero_le _)).mono fun e w' g => Out.of g (open_good' 6 m ⟨#[]⟩ _)

theorem LayIs.same (h : LayIs w X a c) (h' : LayIs w X a' c') : Calls Try.prog 40 #[.slice a X.length c, .slice a' X.length c'] w fun e w' => e = .returned (.bool true) ∧ Ext w w' := by
  obtain ⟨f, hs⟩ := h.sub
  obtain ⟨f', hs'⟩ := h'.sub
  have H := LaySm.implLayoutSame X X w a c f hs a' c' f' hs' h.cap_le h'.cap_le h.fits.2 h.fits.2
  rw [decide_eq_true rfl] at H
  exact H
theorem LayIs.nest (h : LayIs w X a c) (n : Int) (hn : -9223372036854775808 ≤ n ∧ n ≤ 9223372036854775807) : Calls Try.prog 46 #[.int .i64 n, .slice a X.length c] w (Out w (nestR n X).1 (nestR n X).2) := by
  obtain ⟨f, hs⟩ := h.sub
  exact (LayN.implNestLayout n X w a c f hs h.cap_le h.fits.2 h.fits.1 hn).mono fun e w' g => Out.of g (nest_good n X)
end

end Go.Proofs.Ytjpgnhpfmdjamaa.DocO

/-
  What CountOps, LayoutValid and CatLayouts come to while a law goes on; how many lines an open layout has.
-/
set_option linter.unusedVariables false
set_option linter.unusedSimpArgs false
namespace Go.Proofs.Ytjpgnhpfmdjamaa.DocO
open Go.RowKit P1 LayN LayC OpenR Cnt CntC

theorem Doc0.docV {w : World} {n : Int} {t : ByteArray} {k : F} {a : Option Addr} {cap : Nat} {fs : List Nat} (h : Doc0 w n t k a cap fs) (o : Int) : DocV w (o, n, t, k) [.int .i64 o, .int .i64 n, .string t, .slice a k.len cap] := ⟨a, cap, fs, rfl, h.cap_le, h.sub, h.ok, by have := h.size; show k.size ≤ _; omega⟩
theorem Doc0.implCountOps {w : World} {n : Int} {t : ByteArray} {k : F} {a : Option Addr} {cap : Nat} {fs : List Nat} (h : Doc0 w n t k a cap fs) (o op : Int) : Calls Try.prog 26 #[.agg #[.int .i64 o, .int .i64 n, .string t, .slice a k.len cap], .int .i64 op] w fun e w' => e = .returned (.int .i64 ((opsD op o k : Nat) : Int)) ∧ Ext w w' := CntC.countOps w (o, n, t, k) _ op (h.docV o)
theorem LayIs.valid {w : World} {X : List (Int × ByteArray)} {a : Option Addr} {c : Nat} (h : LayIs w X a c) : Calls Try.prog 41 #[.slice a X.length c] w fun e w' => e = .returned (.bool (lv X)) ∧ Ext w w' := by
  obtain ⟨f, hs⟩ := h.sub
  exact LayV.implLayoutValid X w a c f hs h.cap_le h.fits.2 h.fits.1
theorem cat_good (a b : List (Int × ByteArray)) : (catLR a b).1 = [] ∨ lv (catLR a b).1 = true := by
  unfold catLR
  split
  · rename_i h; exact .inr h.2.2
  · exact .inl rfl
theorem LayIs.cat {w : World} {X X' : List (Int × ByteArray)} {a a' : Option Addr} {c c' : Nat} (h : LayIs w X a c) (h' : LayIs w X' a' c') : Calls Try.prog 42 #[.slice a X.length c, .slice a' X'.length c'] w (Out w (catLR X X').1 (catLR X X').2) := by
  obtain ⟨f, hs⟩ := h.sub
  obtain ⟨f', hs'⟩ := h'.sub
  exact (LayC.implCatLayouts X X' w a c f hs h.cap_le h.fits.2 h.fits.1 a' c' f' hs' h'.cap_le h'.fits.2 h'.fits.1).mono fun e w' g => Out.of g (cat_good X X')

theorem ok_mono : ∀ (f : F) (d d' : Nat), f.ok d = true → d ≤ d' → f.ok d' = true := by
  intro f
  induction f with
  | nil => intro d d' _ _; rfl
  | cons o n t k r ihk ihr =>
    intro d d' h hd
    simp only [F.ok, Bool.and_eq_true, decide_eq_true_eq] at h ⊢
    exact ⟨⟨⟨by omega, h.1.1.2⟩, ihk _ _ h.1.2 (by omega)⟩, ihr _ _ h.2 hd⟩

/-- the parts of a valid document are valid -/
theorem valid_kid {o n : Int} {t : ByteArray} {p : F} {o1 n1 : Int} {t1 : ByteArray} {k1 r : F} (h : validD o n t (p.app (.cons o1 n1 t1 k1 r)) = true) : validD o1 n1 t1 k1 = true := by
  simp only [validD, okD, Bool.and_eq_true, decide_eq_true_eq, F.ok_app, F.ok, F.cnt_app, F.cnt] at h ⊢
  obtain ⟨⟨⟨_, _⟩, _, ⟨⟨h1, h2⟩, h3⟩, _⟩, h5⟩ := h
  exact ⟨⟨⟨by omega, h2⟩, ok_mono k1 _ _ h3 (by omega)⟩, by omega⟩

theorem opsD_cons (op o o1 n1 : Int) (t1 : ByteArray) (k1 r : F) : opsD op o (.cons o1 n1 t1 k1 r) = (if o == op then 1 else 0) + opsD op o1 k1 + cntF (fun x => x == op) r := by
  rw [opsD_eq, opsD_eq]; simp only [cntF]; omega
theorem opsD_le' (op o : Int) (k : F) : opsD op o k ≤ 1 + k.cnt := by
  rw [opsD_eq]
  have h1 := cntF_nodes (fun x => x == op) k
  have h2 := nodes_cnt k
  split <;> omega
theorem catL_length {a b : List (Int × ByteArray)} (ha : 0 < a.length) (hb : 0 < b.length) : (catL a b).length + 1 = a.length + b.length := by
  rw [catL_set ha hb]; simp; omega

/-- the lines of an open layout -/
theorem open_len : ∀ (d : Nat) (o n : Int) (t : ByteArray) (k : F), okD d o n t k = true → (openD o n t k).length = opsD 3 o k + opsD 4 o k + opsD 5 o k + 1 := by
  intro d
  induction d with
  | zero => intro o n t k h; rw [okD_zero] at h; cases h
  | succ d ih =>
    intro o n t k h
    simp only [okD, Bool.and_eq_true, decide_eq_true_eq] at h
    obtain ⟨⟨_, hn⟩, hk⟩ := h
    rw [show d + 1 - 1 = d by omega] at hk
    have nil_of : k.len = 0 → k = .nil := fun h => by cases k with | nil => rfl | cons => simp [F.len] at h
    rcases node_kinds hn with ⟨rfl, ht, hl⟩ | ⟨ho, rfl, hl⟩ | ⟨rfl, rfl, h0, h9, hl⟩ | ⟨rfl, rfl, hl⟩ | ⟨rfl, rfl, hl⟩
    · rw [nil_of hl, openD_text]; simp [opsD_eq, cntF]
    · rw [nil_of hl]
      rcases ho with rfl | rfl | rfl | rfl
      · simp [openD_empty, opsD_eq, cntF]
      · rw [openD_line (.inl rfl)]; simp [opsD_eq, cntF]
      · rw [openD_line (.inr (.inl rfl))]; simp [opsD_eq, cntF]
      · rw [openD_line (.inr (.inr rfl))]; simp [opsD_eq, cntF]
    · obtain ⟨o1, n1, t1, k1, rfl⟩ := one_kid hl
      rw [ok_cons, Bool.and_eq_true] at hk
      rw [openD_nest, nestL_length, ih _ _ _ _ hk.1]
      simp [opsD_cons, cntF]
    · obtain ⟨o1, n1, t1, k1, o2, n2, t2, k2, rfl⟩ := two_kids hl
      rw [ok_cons, ok_cons, Bool.and_eq_true, Bool.and_eq_true] at hk
      rw [openD_cat]
      have h1 := ih _ _ _ _ hk.1
      have h2 := ih _ _ _ _ hk.2.1
      have h3 := catL_length (a := openD o1 n1 t1 k1) (b := openD o2 n2 t2 k2) (by omega) (by omega)
      have e : ∀ op : Int, (7 == op) = false → opsD op 7 (.cons o1 n1 t1 k1 (.cons o2 n2 t2 k2 .nil)) = opsD op o1 k1 + opsD op o2 k2 := fun op ho => by
        rw [opsD_cons, ho, opsD_any]; simp
      rw [e 3 rfl, e 4 rfl, e 5 rfl]
      omega
    · obtain ⟨o1, n1, t1, k1, rfl⟩ := one_kid hl
      rw [ok_cons, Bool.and_eq_true] at hk
      rw [openD_group, ih _ _ _ _ hk.1]
      simp [opsD_cons, cntF]

/-- the parts of a valid document of two: their layouts joined are its own -/
theorem cat_open {n : Int} {t : ByteArray} {o1 n1 : Int} {t1 : ByteArray} {k1 : F} {o2 n2 : Int} {t2 : ByteArray} {k2 : F} (h : validD 7 n t (.cons o1 n1 t1 k1 (.cons o2 n2 t2 k2 .nil)) = true) :
    openRes o1 n1 t1 k1 = (openD o1 n1 t1 k1, true) ∧ openRes o2 n2 t2 k2 = (openD o2 n2 t2 k2, true) ∧ catLR (openD o1 n1 t1 k1) (openD o2 n2 t2 k2) = (openD 7 n t (.cons o1 n1 t1 k1 (.cons o2 n2 t2 k2 .nil)), true) := by
  have h1 : validD o1 n1 t1 k1 = true := valid_kid (p := .nil) h
  have h2 : validD o2 n2 t2 k2 = true := valid_kid (p := .cons o1 n1 t1 k1 .nil) h
  exact ⟨openRes_yes h1, openRes_yes h2, by rw [openD_cat]; exact catLR_yes (valid_lv h1) (valid_lv h2) (by rw [← openD_cat n t]; exact valid_lv h)⟩
theorem valid_two {o n : Int} {t : ByteArray} {k : F} (h : validD o n t k = true) (ho : o = 7) : k.len = 2 := by
  simp only [validD, okD, Bool.and_eq_true, decide_eq_true_eq] at h
  rcases node_kinds h.1.1.2 with ⟨rfl, _, _⟩ | ⟨h1, _, _⟩ | ⟨rfl, _, _, _, _⟩ | ⟨_, _, h2⟩ | ⟨rfl, _, _⟩
  · omega
  · omega
  · omega
  · exact h2
  · omega

end Go.Proofs.Ytjpgnhpfmdjamaa.DocO

/-
  Open layouts are joined: the law FnOpenLayout returns true for whatever draws, and its argument reads as it did. No condition of ours.
-/
set_option linter.unusedVariables false
set_option linter.unusedSimpArgs false
namespace Go.Proofs.Ytjpgnhpfmdjamaa.lawOpenLayout
open Go.ChangeShapes Go.WideShapes Go.ChangeAt Go.RowKit P1 Draw6 LawC DocO OpenR CntC LayN LayN LayC

set_option maxRecDepth 100000 in
set_option maxHeartbeats 6400000 in
theorem walk_good (w : World) (a0 : Option Addr) (len0 cap0 : Nat) (hb0 : Bytes w a0 len0) (hlc0 : len0 ≤ cap0) (hcm0 : cap0 ≤ maxLen) (hl0 : len0 ≤ 1048576) :
    Calls Try.prog 10 #[.slice a0 len0 cap0] w fun e w' => e = .returned (.bool true) ∧ Ext w w' := by
  have HD0 := Lib.hid (DrL.drawOpenLayout w a0 len0 cap0 hb0 hlc0 hcm0)
  clear hb0
  unfold maxLen at hcm0
  go_enter Try.func10, Try.ntmps10
  go_wp2_with fail
  refine HD0.out.mono ?_
  rintro e1 w1 ⟨o, n, t, k, a, cap, fs, rfl, hc, hsz, hsub, hfr, hb1⟩
  have D1 := Lib.hid (show DocO.Doc0 w1 n t k a cap fs from ⟨hsub, fun c hc => (hfr.2 c hc).2, hc, by omega⟩)
  have E1 := Lib.hid (show Ext w w1 from hb1)
  clear hsub hfr hb1
  obtain ⟨⟨X, V⟩, hr⟩ : ∃ r, openRes o n t k = r := ⟨_, rfl⟩
  have HOI := Lib.hid (show ∀ W : World, Ext w1 W → Calls Try.prog 38 #[.agg #[.int .i64 o, .int .i64 n, .string t, .slice a k.len cap]] W (Out W X V) from fun W e => by have h := (D1.out.ext e).implOpen o; rw [hr] at h; exact h)
  have HOS := Lib.hid (show ∀ W : World, Ext w1 W → Calls Try.prog 39 #[.agg #[.int .i64 o, .int .i64 n, .string t, .slice a k.len cap]] W (Out W X V) from fun W e => by have h := (D1.out.ext e).specOpen o; rw [hr] at h; exact h)
  have HCK := Lib.hid (fun (W : World) (e : Ext w1 W) (x : Int) => (D1.out.ext e).implCountOps o x)
  have HR := Lib.hid hr
  have hsz' : 1 + k.cnt ≤ 2000 := by have := F.cnt_le_size k; omega
  clear hr hc hsz
  go_wp2_with fail
  refine (HOI.out _ ((Ext.refl _).alloc _)).mono ?_
  rintro e2 w2 ⟨pa, pc, rfl, hl2, hb2⟩
  have X2 := Lib.hid (box4 (box_new w1 _ _ _ _ _) (by simp) hb2)
  have E2 := Lib.hid (((Ext.refl w1).alloc _).trans hb2)
  have L2 := Lib.hid (show w1.heap.size < w2.heap.size from by have := hb2.size; simp at this; omega)
  have K2 := Lib.hid hl2
  clear hb2 hl2
  obtain ⟨x0, x1, x2, x3⟩ := X2.out
  have l2 := L2.out
  go_wp2_with fail
  refine (HOS.out _ E2.out).mono ?_
  rintro e3 w3 ⟨qa, qc, rfl, hl3, hb3⟩
  have X3 := Lib.hid (box4 X2.out L2.out hb3)
  have E3 := Lib.hid (E2.out.trans hb3)
  have L3 := Lib.hid (Nat.lt_of_lt_of_le L2.out hb3.size)
  have K3 := Lib.hid (And.intro (K2.out.ext hb3) hl3)
  clear hb3 hl3 x0 x1 x2 x3 l2 X2 E2 L2 K2
  obtain ⟨x0, x1, x2, x3⟩ := X3.out
  have l3 := L3.out
  cases V with
  | false =>
    go_wp2_with fail
    refine (LayIs.same K3.out.1 K3.out.2).mono ?_
    rintro e5 w5 ⟨rfl, hb5⟩
    have E5 := Lib.hid (E3.out.trans hb5)
    have K5 := Lib.hid (And.intro (K3.out.1.ext hb5) (K3.out.2.ext hb5))
    clear hb5 x0 x1 x2 x3 l3
    go_wp2_with fail
    refine (LayIs.same K5.out.1 K5.out.2).mono ?_
    rintro e6 w6 ⟨rfl, hb6⟩
    have E6 := Lib.hid (E5.out.trans hb6)
    clear hb6
    go_wp2_with fail
    go_ret
    exact ⟨by first | rfl | simp, E1.out.trans E6.out⟩
  | true =>
    have hval := open_yes HR.out
    have hlen := open_len 40 o n t k (valid_open hval.1).1
    rw [← hval.2] at hlen
    have ha := opsD_le' 3 o k
    have hb := opsD_le' 4 o k
    have hcc := opsD_le' 5 o k
    obtain ⟨A, hA⟩ : ∃ A : Nat, opsD 3 o k = A := ⟨_, rfl⟩
    obtain ⟨B, hB⟩ : ∃ B : Nat, opsD 4 o k = B := ⟨_, rfl⟩
    obtain ⟨C, hC⟩ : ∃ C : Nat, opsD 5 o k = C := ⟨_, rfl⟩
    rw [hA] at ha
    rw [hB] at hb
    rw [hC] at hcc
    rw [hA, hB, hC] at hlen
    have HC3 := Lib.hid (show ∀ W, Ext w1 W → Calls Try.prog 26 #[.agg #[.int .i64 o, .int .i64 n, .string t, .slice a k.len cap], .int .i64 3] W fun e w' => e = .returned (.int .i64 (A : Int)) ∧ Ext W w' from fun W e => by rw [← hA]; exact HCK.out W e 3)
    have HC4 := Lib.hid (show ∀ W, Ext w1 W → Calls Try.prog 26 #[.agg #[.int .i64 o, .int .i64 n, .string t, .slice a k.len cap], .int .i64 4] W fun e w' => e = .returned (.int .i64 (B : Int)) ∧ Ext W w' from fun W e => by rw [← hB]; exact HCK.out W e 4)
    have HC5 := Lib.hid (show ∀ W, Ext w1 W → Calls Try.prog 26 #[.agg #[.int .i64 o, .int .i64 n, .string t, .slice a k.len cap], .int .i64 5] W fun e w' => e = .returned (.int .i64 (C : Int)) ∧ Ext W w' from fun W e => by rw [← hC]; exact HCK.out W e 5)
    have hlvX : lv X = true := by rw [hval.2]; exact valid_lv hval.1
    have HLV := Lib.hid hlvX
    have HVAL := Lib.hid hval
    have hne : ((X.length : Int) != (A : Int) + (B : Int) + (C : Int) + 1) = false := by
      rw [hlen]; simp
    clear hA hB hC hlen hlvX hval
    go_wp2_with fail
    refine (LayIs.same K3.out.1 K3.out.2).mono ?_
    rintro e5 w5 ⟨rfl, hb5⟩
    have E5 := Lib.hid (E3.out.trans hb5)
    have K5 := Lib.hid (K3.out.1.ext hb5)
    have X5 := Lib.hid (box4 X3.out L3.out hb5)
    have L5 := Lib.hid (Nat.lt_of_lt_of_le L3.out hb5.size)
    clear hb5 x0 x1 x2 x3 l3
    obtain ⟨x0, x1, x2, x3⟩ := X5.out
    have l5 := L5.out
    go_wp2_with fail
    go_region_held3 (fun w' => w'.cell? ⟨w1.heap.size, 0, none⟩ = some (.int .i64 o) ∧ w'.cell? ⟨w1.heap.size, 1, none⟩ = some (.int .i64 n) ∧ w'.cell? ⟨w1.heap.size, 2, none⟩ = some (.string t) ∧ w'.cell? ⟨w1.heap.size, 3, none⟩ = some (.slice a k.len cap))
      (first | go_keep | exact box4 X5.out L5.out qw5_0 | exact box4 X5.out L5.out qw5_1 | exact box4 X5.out L5.out qw5_2)
      (first
        | (go_at_call 26; refine (HC3.out _ (by first | exact (E5.out).drew | exact E5.out)).mono ?_; rintro e1 vw5_0 ⟨rfl, hb_0⟩; have qw5_0 : Ext w5 vw5_0 := Ext.trans (by first | exact (Ext.refl w5).drew | exact Ext.refl w5) hb_0)
        | (go_at_call 26; refine (HC4.out _ (by first | exact (E5.out).trans qw5_0 | exact E5.out)).mono ?_; rintro e1 vw5_1 ⟨rfl, hb_1⟩; have qw5_1 : Ext w5 vw5_1 := Ext.trans (by first | exact qw5_0 | exact Ext.refl w5) hb_1)
        | (go_at_call 26; refine (HC5.out _ (by first | exact (E5.out).trans qw5_1 | exact E5.out)).mono ?_; rintro e1 vw5_2 ⟨rfl, hb_2⟩; have qw5_2 : Ext w5 vw5_2 := Ext.trans (by first | exact qw5_1 | exact Ext.refl w5) hb_2))
    have E6 := Lib.hid (E5.out.trans qw5_2)
    have K6 := Lib.hid (K5.out.ext qw5_2)
    have X6 := Lib.hid (box4 X5.out L5.out qw5_2)
    have L6 := Lib.hid (Nat.lt_of_lt_of_le L5.out qw5_2.size)
    clear x0 x1 x2 x3 l5
    have HLVC := Lib.hid (K6.out.valid)
    go_wp2_with fail
    refine HLVC.out.mono ?_
    rintro e7 w7 ⟨rfl, hb7⟩
    have E7 := Lib.hid (E6.out.trans hb7)
    have K7 := Lib.hid (K6.out.ext hb7)
    have X7 := Lib.hid (box4 X6.out L6.out hb7)
    have L7 := Lib.hid (Nat.lt_of_lt_of_le L6.out hb7.size)
    have hlvX := HLV.out
    clear hb7
    obtain ⟨x0, x1, x2, x3⟩ := X7.out
    cases hoo : (o == 7) with
    | false =>
      go_wp2_with fail
      go_ret
      exact ⟨by first | rfl | simp, E1.out.trans E7.out⟩
    | true =>
      have ho7 : o = 7 := by simpa using hoo
      have hval := HVAL.out
      obtain ⟨o1, n1, t1, k1, o2, n2, t2, k2, rfl⟩ := two_kids (valid_two hval.1 ho7)
      subst ho7
      obtain ⟨q1, q2, q3⟩ := cat_open hval.1
      rw [← hval.2] at q3
      obtain ⟨b1, f0, a1, c1, f1, rfl, hbl, hD1, z0, z1, z2, z3⟩ := D1.out.kid' (p := .nil) rfl
      obtain ⟨b2, f3, a2, c2, f2, hab, _, hD2, y0, y1, y2, y3⟩ := D1.out.kid' (p := .cons o1 n1 t1 k1 .nil) rfl
      cases hab
      simp only [F.len, Nat.zero_mul, Nat.add_zero] at z0 z1 z2 z3
      simp only [F.len, Nat.zero_add, Nat.one_mul] at y0 y1 y2 y3
      have HY := Lib.hid (And.intro y0 (And.intro y1 (And.intro y2 (And.intro y3 hbl))))
      rw [← E7.out.cell hbl] at z0 z1 z2 z3
      rw [← E7.out.cell hbl] at y0 y1 y2 y3
      rw [show (F.cons o1 n1 t1 k1 (.cons o2 n2 t2 k2 .nil)).len = 2 from rfl] at x3
      obtain ⟨X1, hX1⟩ : ∃ X1, openD o1 n1 t1 k1 = X1 := ⟨_, rfl⟩
      obtain ⟨Y1, hY1⟩ : ∃ Y1, openD o2 n2 t2 k2 = Y1 := ⟨_, rfl⟩
      rw [hX1, hY1] at q3
      rw [hX1] at q1
      rw [hY1] at q2
      have HK1 := Lib.hid (show ∀ W, Ext w1 W → Calls Try.prog 38 #[.agg #[.int .i64 o1, .int .i64 n1, .string t1, .slice a1 k1.len c1]] W (Out W X1 true) from fun W e => by have h := (hD1.ext e).implOpen o1; rw [q1] at h; exact h)
      have HK2 := Lib.hid (show ∀ W, Ext w1 W → Calls Try.prog 38 #[.agg #[.int .i64 o2, .int .i64 n2, .string t2, .slice a2 k2.len c2]] W (Out W Y1 true) from fun W e => by have h := (hD2.ext e).implOpen o2; rw [q2] at h; exact h)
      have HCAT := Lib.hid (show ∀ (W : World) (a c a' c'), LayIs W X1 a c → LayIs W Y1 a' c' → Calls Try.prog 42 #[.slice a X1.length c, .slice a' Y1.length c'] W (Out W X true) from fun W a c a' c' h h' => by have g := h.cat h'; rw [q3] at g; exact g)
      clear q1 q2 q3 hX1 hY1 hval hD1 hD2
      go_wp2_with fail
      refine (HK1.out _ E7.out).mono ?_
      rintro e8 w8 ⟨r1, s1, rfl, hl8, hb8⟩
      have E8 := Lib.hid (E7.out.trans hb8)
      have K8 := Lib.hid (And.intro (K7.out.ext hb8) hl8)
      have X8 := Lib.hid (box4 X7.out L7.out hb8)
      clear hb8 hl8 x0 x1 x2 x3 y0 y1 y2 y3 z0 z1 z2 z3
      obtain ⟨x0, x1, x2, x3⟩ := X8.out
      rw [show (F.cons o1 n1 t1 k1 (.cons o2 n2 t2 k2 .nil)).len = 2 from rfl] at x3
      obtain ⟨y0, y1, y2, y3, hbl⟩ := HY.out
      rw [← E8.out.cell hbl] at y0 y1 y2 y3
      go_wp2_with fail
      refine (HK2.out _ E8.out).mono ?_
      rintro e9 w9 ⟨r2, s2, rfl, hl9, hb9⟩
      have E9 := Lib.hid (E8.out.trans hb9)
      have K9 := Lib.hid (And.intro (K8.out.1.ext hb9) (And.intro (K8.out.2.ext hb9) hl9))
      clear hb9 hl9 x0 x1 x2 x3 y0 y1 y2 y3
      go_wp2_with fail
      refine (HCAT.out _ _ _ _ _ K9.out.2.1 K9.out.2.2).mono ?_
      rintro e10 w10 ⟨r3, s3, rfl, hl10, hb10⟩
      have E10 := Lib.hid (E9.out.trans hb10)
      have K10 := Lib.hid (And.intro (K9.out.1.ext hb10) hl10)
      clear hb10 hl10
      go_wp2_with fail
      refine (LayIs.same K10.out.2 K10.out.1).mono ?_
      rintro e11 w11 ⟨rfl, hb11⟩
      have E11 := Lib.hid (E10.out.trans hb11)
      clear hb11
      go_wp2_with fail
      go_ret
      exact ⟨by first | rfl | simp, E1.out.trans E11.out⟩

set_option maxHeartbeats 400000 in
theorem walk_big (w : World) (a0 : Option Addr) (len0 cap0 : Nat) (hl0 : 1048576 < len0) :
    Calls Try.prog 10 #[.slice a0 len0 cap0] w fun e w' => e = .returned (.bool true) ∧ Ext w w' := by
  have h1 : (1048576 : Int) < (len0 : Int) := by omega
  go_enter Try.func10, Try.ntmps10
  go_wp2_with fail
  go_ret
  exact ⟨rfl, Ext.refl w⟩

theorem walk (w : World) (a0 : Option Addr) (len0 cap0 : Nat) (hb0 : Bytes w a0 len0) (hlc0 : len0 ≤ cap0) (hcm0 : cap0 ≤ maxLen) :
    Calls Try.prog 10 #[.slice a0 len0 cap0] w fun e w' => e = .returned (.bool true) ∧ Below w.heap.size w w' := by
  by_cases h : 1048576 < len0
  · exact walk_big w a0 len0 cap0 h
  · exact walk_good w a0 len0 cap0 hb0 hlc0 hcm0 (by omega)

set_option maxRecDepth 100000 in
theorem lifted (os : Os) (started : os.Started) (H : Type) (enc : TypeId × Value → H) :
    ReturnsInHanded {} Try.checked os 10 .any (Rows.fnOpenLayoutSpec.pre6 enc Try.prog Try.f10 Rows.fnOpenLayoutRow.domain false) (Rows.fnOpenLayoutSpec.post enc Try.prog Try.f10 false true false false) := by
  refine returnsInHanded_of_change (C := Try.checked) Facts.own started (by kernel_rfl) Try.func10
    (ChangeSpec.witness6 (enc := enc) (C := Try.checked) false ⟨#[], #[.slice none 0 0], []⟩ 8 (by kernel_rfl) (by kernel_rfl) (by kernel_rfl) (by kernel_rfl)) ?_
  intro W base args ds gs before hval0 hW hcnd0 _
  clear hcnd0
  have hval : ∀ (j : Nat) t v, Try.f10.params[j]? = some t → args[j]? = some v → Value.okWide Try.prog W .any base t v := hval0
  have hW' := hW
  obtain ⟨p, q, hA0, hV, rfl, hfz, hnd⟩ := hW
  have hA : DataW.TrodAll enc Try.prog W 0 (fun _ => true) true Try.f10.params.toList args.toList ds p := hA0
  rw [Try.params10] at hA hval
  obtain ⟨v0, d0, rfl, rfl, h0⟩ := trodAll_one hA
  obtain ⟨rfl, rfl⟩ := trodVars_none hV
  obtain ⟨a0, len0, cap0, rfl⟩ := okWide_slice Try.underlying22 (hval 0 22 v0 rfl rfl)
  clear hA0 hval0
  simp only [List.append_nil] at hW'
  have hlt : ∀ x ∈ p, x.block < W.heap.size := fun x hx => by simpa using hW'.lt x hx
  obtain ⟨hb0, hlc0, hcm0⟩ := opened h0
  refine (walk W a0 len0 cap0 hb0 hlc0 hcm0).mono fun e W' ⟨he, hb⟩ => ?_
  subst he
  refine ⟨_, rfl, [_], [], p, [], p, [], hW', trodAll_mk1 (shut_bool Try.underlying4 _), ?_, rfl, hb.frame _, fun h => by cases h⟩
  exact trodAll_mk1 (Below.trod Facts.laidOut (by kernel_rfl) (of_decide_eq_true (by kernel_rfl)) h0 hb hlt)

theorem named : Try.prog.funcNamed Rows.fnOpenLayoutRow.func = some 10 := by kernel_rfl
theorem closed : joinedFacts Try.prog 10 Try.f10 Rows.fnOpenLayoutSpec Rows.fnOpenLayoutRow = true :=
  Facts.closed_of rfl rfl rfl rfl (h28b := rfl) (by kernel_rfl) (by kernel_rfl) (by kernel_rfl) (by kernel_rfl) (by kernel_rfl) (by kernel_rfl) (by kernel_rfl) (by kernel_rfl) (by kernel_rfl) (by kernel_rfl) (by kernel_rfl) (by kernel_rfl) (by kernel_rfl) (by kernel_rfl) (by kernel_rfl) (by kernel_rfl) (by kernel_rfl) (by kernel_rfl) (by kernel_rfl) (by kernel_rfl) (by kernel_rfl) (by kernel_rfl) (by kernel_rfl) (by kernel_rfl)
theorem instanced : Try.f10.isInstance Try.prog Rows.fnOpenLayoutRow.origin Rows.fnOpenLayoutRow.targs := of_decide_eq_true (by kernel_rfl)
theorem wrapped : Try.f10.isWrapper Try.prog Rows.fnOpenLayoutRow.wrapper Rows.fnOpenLayoutRow.mainSum := by
  unfold Func.isWrapper
  rw [if_neg (of_decide_eq_false (by kernel_rfl))]
  exact ⟨rfl, rfl⟩

theorem holds : Rows.FnOpenLayoutSaid :=
  OpenClaim.holds_of_wide 10 Try.f10 rfl rfl rfl rfl rfl rfl rfl ⟨rfl, rfl, rfl, rfl, rfl⟩ rfl rfl rfl rfl rfl named Try.func10 closed instanced wrapped
    (fun os started H enc _ => lifted os started H enc)

end Go.Proofs.Ytjpgnhpfmdjamaa.lawOpenLayout

