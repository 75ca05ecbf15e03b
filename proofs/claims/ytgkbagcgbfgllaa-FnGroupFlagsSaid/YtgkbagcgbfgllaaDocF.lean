import Derived.Test.YtgkbagcgbfgllaaDocR
import Derived.Test.YtgkbagcgbfgllaaRnG
/-
  GroupFlags at a document that stays; slices of values that stay.
-/
set_option linter.unusedVariables false
set_option linter.unusedSimpArgs false
namespace Go.Proofs.Ytgkbagcgbfgllaa.DocR
open Go.RowKit P1 CntC Wid LayN OpenR ChP Rn

theorem ext_drewN' {w w' : World} (h : Ext w w') : ∀ n, Ext w (w'.drewN n)
  | 0 => h
  | n + 1 => (ext_drewN' h n).drew
/-- a slice of values of one cell each that stays -/
structure VIs (w : World) (X : List Value) (a : Option Addr) (c : Nat) : Prop where
  sub : ∃ fs, Vs.VSub w a X fs
  cap_le : X.length ≤ c
  few : X.length ≤ 1048576
theorem VIs.ext {w w' : World} {X : List Value} {a : Option Addr} {c : Nat} (h : VIs w X a c) (e : Ext w w') : VIs w' X a c := by
  obtain ⟨fs, hs⟩ := h.sub
  exact ⟨⟨fs, hs.below hs.lt e⟩, h.cap_le, h.few⟩
theorem VIs.get {w : World} {X : List Value} {a : Option Addr} {c : Nat} (h : VIs w X a c) {k : Nat} (hk : k < X.length) : ∃ (b off : Nat), a = some ⟨b, off, none⟩ ∧ b < w.heap.size ∧ w.cell? ⟨b, off + k, none⟩ = some X[k] := by
  obtain ⟨fs, hs⟩ := h.sub
  have hlt := hs.lt
  rcases hs with ⟨h0, _⟩ | ⟨b, off, rfl, _, hfs, hl⟩
  · rw [h0] at hk; simp at hk
  · exact ⟨b, off, rfl, hlt b (by rw [hfs]; simp), hl k hk⟩
/-- flags, and whether there are some -/
def FOut (w : World) (X : List Bool) (V : Bool) (e : Ending) (w' : World) : Prop := ∃ (a : Option Addr) (c : Nat), e = .returned (.tuple #[.slice a X.length c, .bool V]) ∧ VIs w' (X.map Value.bool) a c ∧ Ext w w'
theorem FOut.of {w w' : World} {r : List Bool × Bool} {e : Ending} (h : Vs.BRes w r e w') (g : r.1.length ≤ 1048576) : FOut w r.1 r.2 e w' := by
  obtain ⟨l, ok⟩ := r
  obtain ⟨a, c, fs, rfl, h1, h2, _, h4⟩ := h
  exact ⟨a, c, rfl, ⟨⟨fs, h2⟩, by simpa using h1, by simpa using g⟩, h4⟩

section
variable {w w' : World} {o n : Int} {t : ByteArray} {k : F} {a : Option Addr} {cap : Nat} {fs : List Nat}
theorem implFlags (h : DocK.Doc0 w n t k a cap fs) (o W : Int) : Calls Try.prog 20 #[.agg #[.int .i64 o, .int .i64 n, .string t, .slice a k.len cap], .int .i64 W] w (FOut w (flR W o n t k).1 (flR W o n t k).2) :=
  (RnG.implGroupFlags w W o n t k a cap fs h.sub h.ok h.cap_le (by have := h.size; omega) h.fits h.tfit).mono fun _ _ g => FOut.of g (RnG.fl_len W o n t k)
theorem specFlags (h : DocK.Doc0 w n t k a cap fs) (o W : Int) : Calls Try.prog 30 #[.agg #[.int .i64 o, .int .i64 n, .string t, .slice a k.len cap], .int .i64 W] w (FOut w (flR W o n t k).1 (flR W o n t k).2) :=
  (RnG.specGroupFlags w W o n t k a cap fs h.sub h.lt h.cap_le (by have := h.size; omega) h.fits h.tfit).mono fun _ _ g => FOut.of g (RnG.fl_len W o n t k)
end
theorem fl_true {W o n : Int} {t : ByteArray} {k : F} {X : List Bool} (h : flR W o n t k = (X, true)) : rightD W o n t k = true ∧ (stD W o n t k).flags = X := by
  cases hr : rightD W o n t k with
  | false => rw [RnG.flR_no hr] at h; injection h with _ h; cases h
  | true => rw [RnG.flR_yes hr] at h; injection h with h _; exact ⟨rfl, h⟩
/-- the flags of a document that is rendered: how many, and what it is where none is true -/
theorem open_flags {W o n : Int} {t : ByteArray} {k : F} {X : Lay} (h : rnR W o n t k = (X, true)) : (flR W o n t k).2 = true ∧ (flR W o n t k).1.length ≤ opsD 8 o k ∧ ((flR W o n t k).1.any id = false → X = openD o n t k) := by
  obtain ⟨hr, hX⟩ := rn_true h
  have ho := rn_opened W (rn_valid hr).1
  rw [RnG.flR_yes hr]
  refine ⟨rfl, ho.1, fun ha => ?_⟩
  rw [← hX]
  refine ho.2 fun b hb => ?_
  rw [List.any_eq_false] at ha
  simpa using ha b hb
/-- the flags of a group around a document -/
theorem grp_flags {W o n : Int} {t : ByteArray} {k : F} {Y : List Bool} (h : flR W 8 0 ⟨#[]⟩ (.cons o n t k .nil) = (Y, true)) :
    ∃ r, Y = (canD o n t k && decide (((Flat.flD o t k).size : Int) ≤ W)) :: r ∧ ((canD o n t k && decide (((Flat.flD o t k).size : Int) ≤ W)) = true → r = []) := by
  obtain ⟨hr, hY⟩ := fl_true h
  obtain ⟨hv, h0, h1⟩ := rn_valid hr
  have hvk : validD o n t k = true := DocK.valid_kid (p := .nil) (r := .nil) hv
  have hcan : canD o n t k = noF (.cons o n t k .nil) := by
    unfold canD
    rw [hvk, Bool.true_and, noF_cnt]
    congr 1
    try simp [opsD, cntF]
  have hg := rn_group W o n t k
  rw [hcan]
  by_cases hc : noF (.cons o n t k .nil) = true ∧ ((Flat.flD o t k).size : Int) ≤ W
  · rw [if_pos hc] at hg
    refine ⟨[], ?_, fun _ => rfl⟩
    rw [← hY, hg, hc.1]
    simp [hc.2]
  · rw [if_neg hc] at hg
    have hf : (noF (.cons o n t k .nil) && decide (((Flat.flD o t k).size : Int) ≤ W)) = false := by
      cases hn : noF (.cons o n t k .nil) with
      | false => rfl
      | true => simp only [Bool.true_and, decide_eq_false_iff_not]; intro h2; exact hc ⟨hn, h2⟩
    refine ⟨(stD W o n t k).flags, ?_, fun h => by rw [hf] at h; cases h⟩
    rw [← hY, hg, hf]; rfl

end Go.Proofs.Ytgkbagcgbfgllaa.DocR

