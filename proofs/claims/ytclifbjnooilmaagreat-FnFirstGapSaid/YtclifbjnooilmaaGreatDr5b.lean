import Derived.Test.YtclifbjnooilmaaGreatDr5
/-
 The model's draw of a document for FirstGap.
-/
set_option linter.unusedVariables false
set_option linter.unusedSimpArgs false
set_option maxRecDepth 100000
set_option maxHeartbeats 6400000
namespace Go.Proofs.YtclifbjnooilmaaGreat.Dr5
open Go.RowKit P1 Draw Draw2 Draw6 Copy DrA DrB DrC CatD ParseD DrD Mut Mut2 DrI DrN DrR
def gapA : ByteArray := ⟨#[40, 91, 40, 34, 97, 97, 97, 97, 34, 40, 95, 34, 98, 98, 34, 41, 41, 93, 91, 40, 95, 40, 34, 99, 99, 99, 34, 40, 95, 34, 100, 34, 41, 41, 41, 93, 41]⟩
def gapB : ByteArray := ⟨#[40, 91, 40, 34, 97, 34, 40, 95, 34, 98, 98, 98, 98, 34, 41, 41, 93, 40, 34, 99, 99, 99, 99, 99, 99, 34, 40, 95, 34, 100, 34, 41, 41, 41]⟩
def gapC : ByteArray := ⟨#[40, 91, 40, 34, 97, 97, 34, 40, 46, 34, 98, 34, 41, 41, 93, 40, 91, 40, 34, 99, 34, 40, 95, 34, 100, 100, 100, 100, 100, 100, 100, 100, 34, 41, 41, 93, 34, 101, 34, 41, 41]⟩
theorem gapA_ok : (parR false gapA.data.toList).1 = true := by decide
theorem gapB_ok : (parR false gapB.data.toList).1 = true := by decide
theorem gapC_ok : (parR false gapC.data.toList).1 = true := by decide
def PaOut (w : World) (e : Ending) (w' : World) : Prop := ∃ (o n : Int) (t : ByteArray) (k : F) (a : Option Addr) (cap : Nat) (fs : List Nat), e = .returned (.tuple #[.agg #[.int .i64 o, .int .i64 n, .string t, .slice a k.len cap], .bool true]) ∧ k.len ≤ cap ∧ t.size + k.size ≤ 1000 ∧ validD o n t k = true ∧ SubAt w' a k fs ∧ Fresh w.heap.size w' fs ∧ Below w.heap.size w w'
theorem parseOk (s : ByteArray) (hs : s.size ≤ 64) (hl : s.data.toList.length ≤ 64) (h : (parR false s.data.toList).1 = true) (w : World) : Calls Tryz.prog 56 #[.string s] w (PaOut w) := by
 obtain ⟨⟨ok, o, n, t, k⟩, hpar⟩ : ∃ r, parR false s.data.toList = r := ⟨_, rfl⟩
 rw [hpar] at h
 simp only at h
 subst h
 have hval := parR_true hpar
 have hpc := parseAt s hs w
 rw [hpar] at hpc
 refine hpc.mono ?_
 rintro e3 w3 ⟨a, cap, fs, rfl, hc, hsub, hfr, hb3⟩
 simp only at hc hsub
 exact ⟨o, n, t, k, a, cap, fs, rfl, hc, by have h2 := hval.2; omega, hval.1, hsub, hfr, hb3⟩
theorem SmallDraw.doc {w : World} {e : Ending} {w' : World} (h : SmallDraw w e w') : DocDraw w e w' := by
 obtain ⟨o, n, t, k, a, cap, fs, h1, h2, h3, h4, h5, h6⟩ := h
 exact ⟨o, n, t, k, a, cap, fs, h1, h2, by omega, h4, h5, h6⟩
theorem drawFirstGap (w : World) (a : Option Addr) (len cap : Nat) (hb : Bytes w a len) (hlc : len ≤ cap) (hcm : cap ≤ maxLen) :
  Calls Tryz.prog 24 #[.slice a len cap] w (DocDraw w) := by
 have HO := Lib.hid (fun ob => l15Open (w.alloc ob) a len cap (LawC.bytes_below hb ((Below.refl _ _).alloc (Nat.le_refl _) ob)) hlc hcm)
 have HCA := Lib.hid (fun (W : World) (h : Below w.heap.size w W) => l5Case W a len cap (LawC.bytes_below hb h) hlc hcm)
 have PA := Lib.hid (fun (W : World) => show Calls Tryz.prog 56 #[.string ⟨#[40, 91, 40, 34, 97, 97, 97, 97, 34, 40, 95, 34, 98, 98, 34, 41, 41, 93, 91, 40, 95, 40, 34, 99, 99, 99, 34, 40, 95, 34, 100, 34, 41, 41, 41, 93, 41]⟩] W (PaOut W) from parseOk gapA (by decide) (by decide) gapA_ok W)
 have PB := Lib.hid (fun (W : World) => show Calls Tryz.prog 56 #[.string ⟨#[40, 91, 40, 34, 97, 34, 40, 95, 34, 98, 98, 98, 98, 34, 41, 41, 93, 40, 34, 99, 99, 99, 99, 99, 99, 34, 40, 95, 34, 100, 34, 41, 41, 41]⟩] W (PaOut W) from parseOk gapB (by decide) (by decide) gapB_ok W)
 have PC := Lib.hid (fun (W : World) => show Calls Tryz.prog 56 #[.string ⟨#[40, 91, 40, 34, 97, 97, 34, 40, 46, 34, 98, 34, 41, 41, 93, 40, 91, 40, 34, 99, 34, 40, 95, 34, 100, 100, 100, 100, 100, 100, 100, 100, 34, 41, 41, 93, 34, 101, 34, 41, 41]⟩] W (PaOut W) from parseOk gapC (by decide) (by decide) gapC_ok W)
 clear hb hlc hcm
 go_enter Tryz.func24, Tryz.ntmps24
 go_wp2_with fail
 refine (HO.out _).mono ?_
 rintro e1 w1 ⟨rfl, hrd1, hlt1, hb1⟩
 simp only [World.size_alloc] at hrd1 hlt1
 have HI0 := Lib.hid (InvT.start hrd1 hlt1 hb1)
 have HP := Lib.hid (pick w1 (w.heap.size + 1) _ 0 4 HI0.out.rd (by omega))
 clear hrd1 hlt1 hb1
 go_wp2_with fail
 refine HP.out.mono ?_
 rintro e2 w2 ⟨r, rfl, hr0, hr4, hrd2, hbut2⟩
 have HI2 := Lib.hid (HI0.out.step hbut2 hrd2)
 clear hrd2 hbut2
 by_cases hr : r = 0
 ·subst hr
  obtain ⟨V, hV⟩ : ∃ V, w2.alloc (.cells #[.string ⟨#[40, 91, 40, 34, 97, 97, 97, 97, 34, 40, 95, 34, 98, 98, 34, 41, 41, 93, 91, 40, 95, 40, 34, 99, 99, 99, 34, 40, 95, 34, 100, 34, 41, 41, 41, 93, 41]⟩, .string ⟨#[40, 91, 40, 34, 97, 34, 40, 95, 34, 98, 98, 98, 98, 34, 41, 41, 93, 40, 34, 99, 99, 99, 99, 99, 99, 34, 40, 95, 34, 100, 34, 41, 41, 41]⟩, .string ⟨#[40, 91, 40, 34, 97, 97, 34, 40, 46, 34, 98, 34, 41, 41, 93, 40, 91, 40, 34, 99, 34, 40, 95, 34, 100, 100, 100, 100, 100, 100, 100, 100, 34, 41, 41, 93, 34, 101, 34, 41, 41]⟩] 9) = V := ⟨_, rfl⟩
  have hIV : InvT w V _ _ := HI2.out.below (by rw [← hV]; exact (Below.refl _ _).alloc (Nat.le_refl _) _)
  have c0 : V.cell? ⟨w2.heap.size, 0, none⟩ = some (.string ⟨#[40, 91, 40, 34, 97, 97, 97, 97, 34, 40, 95, 34, 98, 98, 34, 41, 41, 93, 91, 40, 95, 40, 34, 99, 99, 99, 34, 40, 95, 34, 100, 34, 41, 41, 41, 93, 41]⟩) := by rw [← hV, World.cell?_alloc_new]; rfl
  have c1 : V.cell? ⟨w2.heap.size, 1, none⟩ = some (.string ⟨#[40, 91, 40, 34, 97, 34, 40, 95, 34, 98, 98, 98, 98, 34, 41, 41, 93, 40, 34, 99, 99, 99, 99, 99, 99, 34, 40, 95, 34, 100, 34, 41, 41, 41]⟩) := by rw [← hV, World.cell?_alloc_new]; rfl
  have c2 : V.cell? ⟨w2.heap.size, 2, none⟩ = some (.string ⟨#[40, 91, 40, 34, 97, 97, 34, 40, 46, 34, 98, 34, 41, 41, 93, 40, 91, 40, 34, 99, 34, 40, 95, 34, 100, 100, 100, 100, 100, 100, 100, 100, 34, 41, 41, 93, 34, 101, 34, 41, 41]⟩) := by rw [← hV, World.cell?_alloc_new]; rfl
  have lV : w2.heap.size < V.heap.size := by rw [← hV]; simp
  have hne : w2.heap.size ≠ w.heap.size + 1 := by have := HI2.out.lt; omega
  have HIV := Lib.hid hIV
  have HC := Lib.hid (And.intro c0 (And.intro c1 (And.intro c2 (And.intro lV hne))))
  have HP2 := Lib.hid (pick V (w.heap.size + 1) _ _ 3 HIV.out.rd (by omega))
  clear hIV c0 c1 c2 lV hne
  go_wp2_with fail
  try rw [hV]
  clear hV
  refine HP2.out.mono ?_
  rintro e3 w3 ⟨s, rfl, hs0, hs3, hrd3, hbut3⟩
  have HI3 := Lib.hid (HIV.out.step hbut3 hrd3)
  obtain ⟨c0, c1, c2, lV, hne⟩ := HC.out
  have d0 := (hbut3.cell (o := 0) lV hne).trans c0
  have d1 := (hbut3.cell (o := 1) lV hne).trans c1
  have d2 := (hbut3.cell (o := 2) lV hne).trans c2
  have dl : w2.heap.size < w3.heap.size := Nat.lt_of_lt_of_le lV hbut3.size
  clear hrd3 hbut3 c0 c1 c2 lV hne
  have hs : s = 0 ∨ s = 1 ∨ s = 2 := by omega
  rcases hs with rfl | rfl | rfl
  ·go_wp2_with fail
   refine (PA.out _).mono ?_
   rintro e4 w4 ⟨o, n, t, k, a4, c4, f4, rfl, hc, hsz, hv, hsub, hfr, hb4⟩
   have hI4 := HI3.out.below hb4
   obtain ⟨⟨z0, z1, z2, z3⟩, ⟨y0, y1, y2, y3⟩, hz⟩ := hI4.z
   have H4 := Lib.hid (And.intro hI4 (And.intro hc (And.intro hsz (And.intro hv (And.intro hsub (hfr.mono (show w.heap.size + 1 ≤ w3.heap.size by have := HI3.out.lt; omega)))))))
   clear hI4 hc hsz hv hsub hfr hb4 d0 d1 d2 dl
   go_wp2_with fail
   refine bodyPost_ret (v := .agg #[.int .i64 o, .int .i64 n, .string t, .slice a4 k.len c4]) (by simp [results, Tryz.results24, go_sem, z0, z1, z2, z3, y0, y1, y2, y3, hz]) rfl ?_
   obtain ⟨hI4, hc, hsz, hv, hsub, hfr⟩ := H4.out
   refine (SmallDraw.alloc (end_small5 (w1 := w4) hI4 hc hsz hv hsub hfr ?_) _).doc
   repeat (first | exact Touch.refl _ _ _ | refine Touch.setCell ?_ (by simp) (by simp) _)
  ·go_wp2_with fail
   refine (PB.out _).mono ?_
   rintro e4 w4 ⟨o, n, t, k, a4, c4, f4, rfl, hc, hsz, hv, hsub, hfr, hb4⟩
   have hI4 := HI3.out.below hb4
   obtain ⟨⟨z0, z1, z2, z3⟩, ⟨y0, y1, y2, y3⟩, hz⟩ := hI4.z
   have H4 := Lib.hid (And.intro hI4 (And.intro hc (And.intro hsz (And.intro hv (And.intro hsub (hfr.mono (show w.heap.size + 1 ≤ w3.heap.size by have := HI3.out.lt; omega)))))))
   clear hI4 hc hsz hv hsub hfr hb4 d0 d1 d2 dl
   go_wp2_with fail
   refine bodyPost_ret (v := .agg #[.int .i64 o, .int .i64 n, .string t, .slice a4 k.len c4]) (by simp [results, Tryz.results24, go_sem, z0, z1, z2, z3, y0, y1, y2, y3, hz]) rfl ?_
   obtain ⟨hI4, hc, hsz, hv, hsub, hfr⟩ := H4.out
   refine (SmallDraw.alloc (end_small5 (w1 := w4) hI4 hc hsz hv hsub hfr ?_) _).doc
   repeat (first | exact Touch.refl _ _ _ | refine Touch.setCell ?_ (by simp) (by simp) _)
  ·go_wp2_with fail
   refine (PC.out _).mono ?_
   rintro e4 w4 ⟨o, n, t, k, a4, c4, f4, rfl, hc, hsz, hv, hsub, hfr, hb4⟩
   have hI4 := HI3.out.below hb4
   obtain ⟨⟨z0, z1, z2, z3⟩, ⟨y0, y1, y2, y3⟩, hz⟩ := hI4.z
   have H4 := Lib.hid (And.intro hI4 (And.intro hc (And.intro hsz (And.intro hv (And.intro hsub (hfr.mono (show w.heap.size + 1 ≤ w3.heap.size by have := HI3.out.lt; omega)))))))
   clear hI4 hc hsz hv hsub hfr hb4 d0 d1 d2 dl
   go_wp2_with fail
   refine bodyPost_ret (v := .agg #[.int .i64 o, .int .i64 n, .string t, .slice a4 k.len c4]) (by simp [results, Tryz.results24, go_sem, z0, z1, z2, z3, y0, y1, y2, y3, hz]) rfl ?_
   obtain ⟨hI4, hc, hsz, hv, hsub, hfr⟩ := H4.out
   refine (SmallDraw.alloc (end_small5 (w1 := w4) hI4 hc hsz hv hsub hfr ?_) _).doc
   repeat (first | exact Touch.refl _ _ _ | refine Touch.setCell ?_ (by simp) (by simp) _)
 ·have hrb : (r == 0) = false := beq_eq_false_iff_ne.2 hr
  go_wp2_with fail
  refine (HCA.out _ HI2.out.bl).mono ?_
  rintro e4 w4 ⟨o, n, t, k, a4, c4, f4, op, rfl, hop, hc, hsz, hsub, hfr, hb4⟩
  have hI4 := HI2.out.below hb4
  obtain ⟨⟨z0, z1, z2, z3⟩, ⟨y0, y1, y2, y3⟩, hz⟩ := hI4.z
  have H4 := Lib.hid (And.intro hI4 (And.intro hc (And.intro hsz (And.intro hsub (hfr.mono (show w.heap.size + 1 ≤ w2.heap.size by have := HI2.out.lt; omega))))))
  clear hI4 hc hsz hsub hfr hb4
  go_wp2_with fail
  refine bodyPost_ret (v := .agg #[.int .i64 o, .int .i64 n, .string t, .slice a4 k.len c4]) (by simp [results, Tryz.results24, go_sem, z0, z1, z2, z3, y0, y1, y2, y3, hz]) rfl ?_
  obtain ⟨hI4, hc, hsz, hsub, hfr⟩ := H4.out
  have htt : Touch w.heap.size (w.heap.size + 1) w4 ((((w4.setCell ⟨w.heap.size, 0, none⟩ (.int .i64 o)).setCell ⟨w.heap.size, 1, none⟩ (.int .i64 n)).setCell ⟨w.heap.size, 2, none⟩ (.string t)).setCell ⟨w.heap.size, 3, none⟩ (.slice a4 k.len c4)) := by
   refine Touch.setCell (Touch.setCell (Touch.setCell (Touch.setCell (Touch.refl _ _ _) ?_ ?_ _) ?_ ?_ _) ?_ ?_ _) ?_ ?_ _ <;> simp
  have hfo : ∀ c ∈ f4, c < w.heap.size ∨ w.heap.size + 1 ≤ c := fun c hc => Or.inr (hfr.2 c hc).1
  have hfr5 : Fresh w.heap.size _ f4 := (htt.fresh hfr hfo).mono (by omega)
  have hsub5 := htt.sub hsub hfo
  have hB5 := htt.below hI4.bl (Nat.le_refl _)
  refine ⟨o, n, t, k, a4, c4, f4, rfl, hc, hsz, hsub5.below hfr5.lt ((Below.refl _ _).alloc (Nat.le_refl _) _), hfr5.below hfr5.lt ((Below.refl _ _).alloc (Nat.le_refl _) _), hB5.alloc hB5.size _⟩
end Go.Proofs.YtclifbjnooilmaaGreat.Dr5
