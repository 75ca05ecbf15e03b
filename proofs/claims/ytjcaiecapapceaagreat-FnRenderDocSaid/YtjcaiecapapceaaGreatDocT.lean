import Derived.Test.YtjcaiecapapceaaGreatDoX
import Derived.Test.YtjcaiecapapceaaGreatRnT
/-
 LayoutValid and LayoutText at a layout that stays.
-/
set_option linter.unusedVariables false
set_option linter.unusedSimpArgs false
namespace Go.Proofs.YtjcaiecapapceaaGreat.DocR
open Go.RowKit P1 CntC LayN OpenR ChP Rn
theorem layValid {w : World} {X : List (Int × ByteArray)} {a : Option Addr} {c : Nat} (h : DocO.LayIs w X a c) : Calls Tryz.prog 17 #[.slice a X.length c] w fun e w' => e = .returned (.bool (lv X)) ∧ Ext w w' := by
 obtain ⟨f, hs⟩ := h.sub
 exact LayV.implLayoutValid X w a c f hs h.cap_le h.fits.2 h.fits.1
theorem layText {w : World} {X : List (Int × ByteArray)} {a : Option Addr} {c : Nat} (h : DocO.LayIs w X a c) : Calls Tryz.prog 19 #[.slice a X.length c] w fun e w' => e = .returned (.string (lt8 X)) ∧ Ext w w' := by
 obtain ⟨f, hs⟩ := h.sub
 exact LayT.implLayoutText X w a c f hs h.cap_le h.fits.2 h.fits.1
end Go.Proofs.YtjcaiecapapceaaGreat.DocR
