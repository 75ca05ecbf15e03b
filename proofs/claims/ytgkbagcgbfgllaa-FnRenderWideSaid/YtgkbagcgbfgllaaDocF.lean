import Derived.Test.YtgkbagcgbfgllaaDocR
import Derived.Test.YtgkbagcgbfgllaaRnG
/-
  GroupFlags at a document that stays; slices of values that stay.
-/
set_option linter.unusedVariables false
set_option linter.unusedSimpArgs false
namespace Go.Proofs.Ytgkbagcgbfgllaa.DocR
open Go.RowKit P1 CntC Wid LayN OpenR ChP Rn

theorem ext_drewN' {w w' : World} (h : Ext w w') : ∀ n, Ext w (w'.drewN n)
  | 0 => h
  | n + 1 => (ext_drewN' h n).drew
/-- a slice of values of one cell each that stays -/
structure VIs (w : World) (X : List Value) (a : Option Addr) (c : Nat) : Prop where
  sub : ∃ fs, Vs.VSub w a X fs
  cap_le : X.length ≤ c
  few : X.length ≤ 1048576
theorem VIs.ext {w w' : World} {X : List Value} {a : Option Addr} {c : Nat} (h : VIs w X a c) (e : Ext w w') : VIs w' X a c := by
  obtain ⟨fs, hs⟩ := h.sub
  exact ⟨⟨fs, hs.below hs.lt e⟩, h.cap_le, h.few⟩
theorem VIs.get {w : World} {X : List Value} {a : Option Addr} {c : Nat} (h : VIs w X a c) {k : Nat} (hk : k < X.length) : ∃ (b off : Nat), a = some ⟨b, off, none⟩ ∧ b < w.heap.size ∧ w.cell? ⟨b, off + k, none⟩ = some X[k] := by
  obtain ⟨fs, hs⟩ := h.sub
  have hlt := hs.lt
  rcases hs with ⟨h0, _⟩ | ⟨b, off, rfl, _, hfs, hl⟩
  · rw [h0] at hk; simp at hk
  · exact ⟨b, off, rfl, hlt b (by rw [hfs]; simp), hl k hk⟩
/-- flags, and whether there are some -/
def FOut (w : World) (X : List Bool) (V : Bool) (e : Ending) (w' : World) : Prop := ∃ (a : Option Addr) (c : Nat), e = .returned (.tuple #[.slice a X.length c, .bool V]) ∧ VIs w' (X.map Value.bool) a c ∧ Ext w w'
theorem FOut.of {w w' : World} {r : List Bool × Bool} {e : Ending} (h : Vs.BRes w r e w') (g : r.1.length ≤ 1048576) : FOut w r.1 r.2 e w' := by
  obtain ⟨l, ok⟩ := r
  obtain ⟨a, c, fs, rfl, h1, h2, _, h4⟩ := h
  exact ⟨a, c, rfl, ⟨⟨fs, h2⟩, by simpa using h1, by simpa using g⟩, h4⟩

section
variable {w w' : World} {o n : Int} {t : ByteArray} {k : F} {a : Option Addr} {cap : Nat} {fs : List Nat}
end
end Go.Proofs.Ytgkbagcgbfgllaa.DocR

