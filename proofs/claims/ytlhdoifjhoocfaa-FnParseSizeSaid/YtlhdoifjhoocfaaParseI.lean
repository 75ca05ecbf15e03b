import Derived.Test.YtlhdoifjhoocfaaRead3I
import Derived.Test.YtlhdoifjhoocfaaDrY
import Derived.Test.YtlhdoifjhoocfaaSpV
import Derived.Test.YtlhdoifjhoocfaaPl
/-
  What ParseDoc of the program and of the model come to: both the valid document of the text, in new memory, or nothing.
-/
set_option linter.unusedVariables false
set_option linter.unusedSimpArgs false
namespace Go.Proofs.Ytlhdoifjhoocfaa.ParseD
open Go.RowKit P1 Copy CatD ReadDocs Read2 SpR SpR2

set_option maxRecDepth 100000 in
set_option maxHeartbeats 3200000 in
theorem implParseDoc (w : World) (l : List UInt8) (hl : l.length ≤ 1048576) (hg : G0 w) :
    Calls Try.prog 5 #[.string ⟨l.toArray⟩] w (DocRes w (parR true l)) := by
  have hw0 := hg.lt
  have hstart : ∀ ob, Has ((w.alloc ob).alloc (.cells #[.string ⟨l.toArray⟩] 39)) (w.heap.size + 1) l ∧ G0 ((w.alloc ob).alloc (.cells #[.string ⟨l.toArray⟩] 39)) ∧ Below w.heap.size w ((w.alloc ob).alloc (.cells #[.string ⟨l.toArray⟩] 39)) := fun ob => by
    have e : (w.alloc ob).heap.size = w.heap.size + 1 := by simp
    have hb : Below w.heap.size w ((w.alloc ob).alloc (.cells #[.string ⟨l.toArray⟩] 39)) := ((Below.refl _ _).alloc (Nat.le_refl _) _).alloc (by simp) _
    refine ⟨⟨?_, ?_, by simp⟩, hg.but (But.of_below (x := w.heap.size) hb) hw0 (by omega), hb⟩
    · rw [← e, World.cell?_alloc_new]; rfl
    · rw [← e, World.frozen?_alloc_new]
  have hD := fun ob => Read3.docS 40 ((w.alloc ob).alloc (.cells #[.string ⟨l.toArray⟩] 39)) (w.heap.size + 1) l 1 (by omega) (by omega) (hstart ob).1 hl (hstart ob).2.1 (by omega)
  have HD := Lib.hid hD
  have HB := Lib.hid (fun ob => (hstart ob).2.2)
  clear hD hstart
  go_enter Try.func5, Try.ntmps5
  go_wp2_with fail
  refine (HD.out _).mono fun e1 w1 hq => ?_
  cases hr : rdD true 40 l with
  | none =>
    obtain ⟨rfl, hb1⟩ := RdOut.of_none (by rw [hr] at hq; exact hq)
    have hcell : ∀ o, w1.cell? ⟨w.heap.size, o, none⟩ = _ := fun o => hb1.cell (c := w.heap.size) (o := o) (by simp; omega) (by omega)
    have hfz : ∀ o, w1.frozen? ⟨w.heap.size, o, none⟩ = _ := fun o => hb1.frozen (c := w.heap.size) (o := o) (by simp; omega) (by omega)
    have hz : w.heap.size < w1.heap.size := by have := hb1.size; simp at this; omega
    have H1 := Lib.hid (And.intro hr (hb1.below (C := w.heap.size) (by simp; omega) (by omega)))
    clear hq hr hb1
    go_wp2_with fail
    refine bodyPost_ret (v := .tuple #[.agg #[.int .i64 0, .int .i64 0, .string ⟨#[]⟩, .slice none 0 0], .bool false]) (by simp [results, Try.results5, go_sem, hcell, hz]) rfl ?_
    refine par_noA (w3 := w1) (parR_none H1.out.1) ((HB.out _).trans H1.out.2) ?_
    repeat (first | exact Touch.refl _ _ _ | refine Touch.setCell ?_ (by simp) (by simp) _)
  | some q =>
    obtain ⟨⟨o, n, t, k⟩, l'⟩ := q
    obtain ⟨a, cap, fs, rfl, hc, hs, hf, hh, hb1⟩ := RdOut.of_some (by rw [hr] at hq; exact hq)
    have hsz := rdD_size true 40 l o n t k l' hr
    have hkl := F.len_le_size k
    have hcell : ∀ o, w1.cell? ⟨w.heap.size, o, none⟩ = _ := fun o => hb1.cell (c := w.heap.size) (o := o) (by simp; omega) (by omega)
    have hfz : ∀ o, w1.frozen? ⟨w.heap.size, o, none⟩ = _ := fun o => hb1.frozen (c := w.heap.size) (o := o) (by simp; omega) (by omega)
    have hz : w.heap.size < w1.heap.size := by have := hb1.size; simp at this; omega
    obtain ⟨x0, x1, x2⟩ := hh
    have hf' : Fresh (w.heap.size + 1) w1 fs := hf.mono (by simp)
    have hE := (HB.out (.cells #[.int .i64 0, .int .i64 0, .string ⟨#[]⟩, .slice none 0 0] 26)).trans (hb1.below (C := w.heap.size) (by simp; omega) (by omega))
    have hV := fun ob => PartV.docValid (w1.alloc ob) o n t k a cap fs (hs.below hf.lt ((Below.refl _ _).alloc (Nat.le_refl _) _)) (fun c hc => by have := hf.lt c hc; simp; omega) hc (by unfold maxLen; omega) (fits_of_size (m := 1048576) (by unfold maxLen; omega) k (by omega)) (by unfold maxLen; omega)
    have H1 := Lib.hid (And.intro hr (And.intro hE (And.intro hc (And.intro hs hf'))))
    cases l' with
    | cons c r =>
      clear hq hr hb1 hE hc hs hf hf' hV hsz hkl
      go_wp2_with fail
      refine bodyPost_ret (v := .tuple #[.agg #[.int .i64 0, .int .i64 0, .string ⟨#[]⟩, .slice none 0 0], .bool false]) (by simp [results, Try.results5, go_sem, hcell, hz]) rfl ?_
      refine par_noA (w3 := w1) (parR_more H1.out.1) H1.out.2.1 ?_
      repeat (first | exact Touch.refl _ _ _ | refine Touch.setCell ?_ (by simp) (by simp) _)
    | nil =>
      cases hv : validD o n t k with
      | false =>
        rw [hv] at hV
        have HV := Lib.hid hV
        have HVV := Lib.hid hv
        clear hq hr hb1 hE hc hs hf hf' hV hv hsz hkl
        go_wp2_with fail
        refine (HV.out _).mono ?_
        rintro e2 w2 ⟨rfl, hb2⟩
        have hcell2 : ∀ o, w2.cell? ⟨w.heap.size, o, none⟩ = _ := fun o => (hb2.cell (p := ⟨w.heap.size, o, none⟩) (by simp; omega)).trans ((World.cell?_alloc_lt w1 _ ⟨w.heap.size, o, none⟩ hz).trans (hcell o))
        have hfz2 : ∀ o, w2.frozen? ⟨w.heap.size, o, none⟩ = _ := fun o => (hb2.frozen (p := ⟨w.heap.size, o, none⟩) (by simp; omega)).trans ((World.frozen?_alloc_old w1 _ ⟨w.heap.size, o, none⟩ (by show w.heap.size ≠ _; omega)).trans (hfz o))
        have hz2 : w.heap.size < w2.heap.size := by have := hb2.size; simp at this; omega
        have H2 := Lib.hid hb2
        clear hb2 hcell hfz x0 x1 x2
        go_wp2_with fail
        refine bodyPost_ret (v := .tuple #[.agg #[.int .i64 0, .int .i64 0, .string ⟨#[]⟩, .slice none 0 0], .bool false]) (by simp [results, Try.results5, go_sem, hcell2, hz2]) rfl ?_
        refine par_no (w3 := w2) (parR_bad H1.out.1 HVV.out) ((H1.out.2.1.alloc (by omega) _).trans (H2.out.mono (by simp; omega))) ?_
        repeat (first | exact Touch.refl _ _ _ | refine Touch.setCell ?_ (by simp) (by simp) _)
      | true =>
        rw [hv] at hV
        have HV := Lib.hid hV
        have HVV := Lib.hid hv
        clear hq hr hb1 hE hc hs hf hf' hV hv hsz hkl
        go_wp2_with fail
        refine (HV.out _).mono ?_
        rintro e2 w2 ⟨rfl, hb2⟩
        have hcell2 : ∀ o, w2.cell? ⟨w.heap.size, o, none⟩ = _ := fun o => (hb2.cell (p := ⟨w.heap.size, o, none⟩) (by simp; omega)).trans ((World.cell?_alloc_lt w1 _ ⟨w.heap.size, o, none⟩ hz).trans (hcell o))
        have hfz2 : ∀ o, w2.frozen? ⟨w.heap.size, o, none⟩ = _ := fun o => (hb2.frozen (p := ⟨w.heap.size, o, none⟩) (by simp; omega)).trans ((World.frozen?_alloc_old w1 _ ⟨w.heap.size, o, none⟩ (by show w.heap.size ≠ _; omega)).trans (hfz o))
        have hbox : ∀ o, w2.cell? ⟨w1.heap.size, o, none⟩ = _ := fun o => hb2.cell (p := ⟨w1.heap.size, o, none⟩) (by simp)
        have hz2 : w.heap.size < w2.heap.size := by have := hb2.size; simp at this; omega
        have H2 := Lib.hid hb2
        clear hb2 hcell hfz x0 x1 x2
        go_wp2_with fail
        refine bodyPost_ret (v := .tuple #[.agg #[.int .i64 o, .int .i64 n, .string t, .slice a k.len cap], .bool true]) (by simp [results, Try.results5, go_sem, hcell2, hz2]) rfl ?_
        obtain ⟨hr, hE, hc, hs, hf'⟩ := H1.out
        have BA : Below w1.heap.size w1 w2 := ((Below.refl _ _).alloc (Nat.le_refl _) _).trans (H2.out.mono (by simp))
        refine par_yes (w3 := w2) (parR_good hr HVV.out) (hE.trans (BA.mono (by omega))) hc (hs.below hf'.lt BA) (hf'.below hf'.lt BA) ?_
        repeat (first | exact Touch.refl _ _ _ | refine Touch.setCell ?_ (by simp) (by simp) _)

end Go.Proofs.Ytlhdoifjhoocfaa.ParseD

