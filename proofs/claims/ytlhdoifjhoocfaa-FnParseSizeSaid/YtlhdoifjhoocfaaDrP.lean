import Derived.Test.YtlhdoifjhoocfaaTxt
import Derived.Test.YtlhdoifjhoocfaaDraw7
/-
  What the model's DrawParseDoc comes to: some text of a bounded size.
-/
set_option linter.unusedVariables false
set_option linter.unusedSimpArgs false
namespace Go.Proofs.Ytlhdoifjhoocfaa.DrP
open Go.RowKit P1 Draw Draw2 Draw6 Draw7 DrD Txt

def bits : List ByteArray := [⟨#[]⟩, ⟨#[40]⟩, ⟨#[41]⟩, ⟨#[91]⟩, ⟨#[95]⟩, ⟨#[46]⟩, ⟨#[34]⟩, ⟨#[126]⟩, ⟨#[50, 60]⟩, ⟨#[97]⟩]

set_option maxRecDepth 100000 in
set_option maxHeartbeats 1600000 in
theorem drawParseDoc (w : World) (a : Option Addr) (l c : Nat) (hb : Bytes w a l) (hlc : l ≤ c) (hc : c ≤ maxLen) :
    Calls Try.prog 4 #[.slice a l c] w fun e w' => ∃ r : ByteArray, e = .returned (.string r) ∧ r.size ≤ 4000 ∧ Below w.heap.size w w' := by
  have HO := Lib.hid (l15Open w a l c hb hlc hc)
  clear hb
  go_enter Try.func4, Try.ntmps4
  go_wp2_with fail
  refine HO.out.mono ?_
  rintro e1 w1 ⟨rfl, hrd1, hsz1, hb1⟩
  have H1 := Lib.hid (And.intro hrd1 hb1)
  clear hrd1 hb1
  go_wp2_with fail
  refine (l1Draw w1 w.heap.size w.heap.size 0 H1.out.1 (by omega) hsz1).mono ?_
  rintro e2 w2 ⟨o2, n2, t2, k2, a2, c2, f2, q2, rfl, hc2, hs2, hv2, hsub2, hfr2, hrd2, hq2, hbut2⟩
  have hz2 : w.heap.size < w2.heap.size := by have := hbut2.size; omega
  have hok : okD 40 o2 n2 t2 k2 = true := by
    have h := hv2
    unfold validD at h
    rw [Bool.and_eq_true] at h
    exact h.1
  have HT := Lib.hid (txt_all 40 o2 n2 t2 k2 hok w2 a2 c2 f2 hsub2 hfr2.lt hc2 (by omega))
  have H2 := Lib.hid (And.intro hrd2 (And.intro (hbut2.below (C := w.heap.size) (by omega) (Nat.le_refl _)) hs2))
  clear hc2 hs2 hv2 hsub2 hfr2 hrd2 hbut2 hok
  go_wp2_with fail
  refine HT.out.mono ?_
  rintro e3 w3 ⟨r2, rfl, hr2, hb3⟩
  have hr3 : r2.size ≤ 3003 := by have := H2.out.2.2; omega
  have hz3 : w.heap.size < w3.heap.size := by have := hb3.size; omega
  have H3 := Lib.hid (And.intro (rdBelow H2.out.1 hz2 hb3) (H2.out.2.1.trans (hb3.mono (by omega))))
  clear hr2 hb3
  go_wp2_with fail
  refine (l1Bend _ w.heap.size w.heap.size q2 w3.heap.size 0 10 r2 bits (rdBelow H3.out.1 hz3 ((Below.refl _ _).alloc (Nat.le_refl _) _)) (by omega) (fun i hi => ?_) (by decide) (by decide) (by decide) (by simp) (by omega) (by simp; omega) (by omega) (by decide)).mono ?_
  · rw [World.cell?_alloc_new]
    have hi' : i < 10 := hi
    match i, hi' with
    | 0, _ => rfl
    | 1, _ => rfl
    | 2, _ => rfl
    | 3, _ => rfl
    | 4, _ => rfl
    | 5, _ => rfl
    | 6, _ => rfl
    | 7, _ => rfl
    | 8, _ => rfl
    | 9, _ => rfl
  · rintro e4 w4 ⟨r3, q3, rfl, hr4, hrd4, hq4, hbut4⟩
    have H4 := Lib.hid (And.intro (show r3.size ≤ 4000 by omega) ((H1.out.2.trans H3.out.2).trans (((Below.refl w3.heap.size w3).alloc (Nat.le_refl _) _).mono (by omega) |>.trans (hbut4.below (C := w.heap.size) (by simp; omega) (Nat.le_refl _)))))
    clear hr4 hrd4 hbut4
    go_wp2_with fail
    go_ret
    exact ⟨r3, rfl, H4.out.1, H4.out.2⟩

end Go.Proofs.Ytlhdoifjhoocfaa.DrP

