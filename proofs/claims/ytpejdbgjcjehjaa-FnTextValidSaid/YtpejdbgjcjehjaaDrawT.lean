/-
  What the model's DrawTextValid comes to: some short text.
-/
import Derived.Test.YtpejdbgjcjehjaaDraw6
import Derived.Test.YtpejdbgjcjehjaaDraw7
namespace Go.Proofs.Ytpejdbgjcjehjaa.DrawT
open Go.RowKit Draw Draw2 Draw6 Draw7
set_option linter.unusedVariables false
set_option linter.unusedSimpArgs false

def bits : List ByteArray := [⟨#[]⟩, ⟨#[65]⟩, ⟨#[97, 98, 99, 100, 101, 102, 103, 104, 105, 106, 107, 108]⟩, ⟨#[32]⟩, ⟨#[55]⟩, ⟨#[195, 169]⟩]

set_option maxRecDepth 100000 in
set_option maxHeartbeats 800000 in
theorem drawTextValid (w : World) (a : Option Addr) (l c : Nat) (hb : Bytes w a l) (hlc : l ≤ c) (hc : c ≤ maxLen) :
    Calls Try.prog 32 #[.slice a l c] w fun e w' => ∃ r : ByteArray, e = .returned (.string r) ∧ r.size ≤ 100 ∧ Below w.heap.size w w' := by
  have HO := Lib.hid (l15Open w a l c hb hlc hc)
  clear hb
  go_enter Try.func32, Try.ntmps32
  go_wp2_with fail
  refine HO.out.mono ?_
  rintro e1 w1 ⟨rfl, hrd1, hsz1, hb1⟩
  have H1 := Lib.hid (And.intro hrd1 hb1)
  clear hrd1 hb1
  go_wp2_with fail
  refine (l1Word2 w1 w.heap.size w.heap.size 0 H1.out.1 (by omega) hsz1).mono ?_
  rintro e2 w2 ⟨r2, rfl, hr2, hrd2, hbut2⟩
  have hz2 : w.heap.size < w2.heap.size := by have := hbut2.size; omega
  have H2 := Lib.hid (And.intro hrd2 (hbut2.below (C := w.heap.size) (by omega) (Nat.le_refl _)))
  clear hrd2 hbut2
  go_wp2_with fail
  refine (l1Bend _ w.heap.size w.heap.size (0 + 1) w2.heap.size 0 6 r2 bits (rdBelow H2.out.1 hz2 ((Below.refl _ _).alloc (Nat.le_refl _) _)) (by omega) (fun i hi => ?_) (by decide) (by decide) (by decide) (by simp) (by omega) (by simp; omega) (by omega) (by decide)).mono ?_
  · rw [World.cell?_alloc_new]
    have hi' : i < 6 := hi
    match i, hi' with
    | 0, _ => rfl
    | 1, _ => rfl
    | 2, _ => rfl
    | 3, _ => rfl
    | 4, _ => rfl
    | 5, _ => rfl
  · rintro e3 w3 ⟨r3, q3, rfl, hr3, hrd3, hq3, hbut3⟩
    have H3 := Lib.hid (And.intro (show r3.size ≤ 100 by omega) ((H1.out.2.trans H2.out.2).trans (((Below.refl w2.heap.size w2).alloc (Nat.le_refl _) _).mono (by omega) |>.trans (hbut3.below (C := w.heap.size) (by simp; omega) (Nat.le_refl _)))))
    clear hr3 hrd3 hbut3
    go_wp2_with fail
    go_ret
    exact ⟨r3, rfl, H3.out.1, H3.out.2⟩

end Go.Proofs.Ytpejdbgjcjehjaa.DrawT
