import Derived.Test.YtjcaiecapapceaaGreatDcK
import Derived.Test.YtjcaiecapapceaaGreatRnX2
/-
 What FlatWidth, LeadWidth and OpenLayout come to while a law goes on, and how they go together.
-/
set_option linter.unusedVariables false
set_option linter.unusedSimpArgs false
namespace Go.Proofs.YtjcaiecapapceaaGreat.DocW
open Go.RowKit P1 CntC Wid LayN OpenR
section
variable {w w' : World} {o n : Int} {t : ByteArray} {k : F} {a : Option Addr} {cap : Nat} {fs : List Nat}
end
end Go.Proofs.YtjcaiecapapceaaGreat.DocW
namespace Go.Proofs.YtjcaiecapapceaaGreat.DocR
open Go.RowKit P1 CntC Wid
section
variable {w w' : World} {o n : Int} {t : ByteArray} {k : F} {a : Option Addr} {cap : Nat} {fs : List Nat}
end
end Go.Proofs.YtjcaiecapapceaaGreat.DocR
namespace Go.Proofs.YtjcaiecapapceaaGreat.DocR
open Go.RowKit P1 CntC Wid LayN OpenR ChP Rn
theorem rn_valid {W o n : Int} {t : ByteArray} {k : F} (h : rightD W o n t k = true) : validD o n t k = true ∧ 0 ≤ W ∧ W ≤ 200 := by simpa [rightD] using h
theorem rn_true {W o n : Int} {t : ByteArray} {k : F} {X : Lay} (h : rnR W o n t k = (X, true)) : rightD W o n t k = true ∧ (stD W o n t k).fin = X := by
 cases hr : rightD W o n t k with
 | false => rw [RnR.rnR_no hr] at h; injection h with _ h; cases h
 | true => rw [RnR.rnR_yes hr] at h; injection h with h _; exact ⟨rfl, h⟩
theorem rn_ok (W o n : Int) (t : ByteArray) (k : F) : (rnR W o n t k).1 = [] ∨ lv (rnR W o n t k).1 = true := by
 cases hr : rightD W o n t k with
 | false => rw [RnR.rnR_no hr]; exact .inl rfl
 | true => rw [RnR.rnR_yes hr]; exact .inr (rn_lv W (rn_valid hr).1)
section
variable {w w' : World} {o n : Int} {t : ByteArray} {k : F} {a : Option Addr} {cap : Nat} {fs : List Nat}
theorem implRender (h : DocK.Doc0 w n t k a cap fs) (o W : Int) : Calls Tryz.prog 12 #[.agg #[.int .i64 o, .int .i64 n, .string t, .slice a k.len cap], .int .i64 W] w (DocO.Out w (rnR W o n t k).1 (rnR W o n t k).2) :=
 (RnR.implRenderDoc w W o n t k a cap fs h.sub h.ok h.cap_le (by have := h.size; omega) h.fits h.tfit).mono fun _ _ g => DocO.Out.of g (rn_ok W o n t k)
theorem specRender (h : DocK.Doc0 w n t k a cap fs) (o W : Int) : Calls Tryz.prog 13 #[.agg #[.int .i64 o, .int .i64 n, .string t, .slice a k.len cap], .int .i64 W] w (DocO.Out w (rnR W o n t k).1 (rnR W o n t k).2) :=
 (RnR.specRenderDoc w W o n t k a cap fs h.sub h.lt h.cap_le (by have := h.size; omega) h.fits h.tfit).mono fun _ _ g => DocO.Out.of g (rn_ok W o n t k)
end
end Go.Proofs.YtjcaiecapapceaaGreat.DocR
