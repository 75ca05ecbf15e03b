import Derived.Test.YtafhefmjnjibdaaDocC
import Derived.Test.YtafhefmjnjibdaaBsP
/-
  Lists of layouts that stay while a law goes on: what the functions over all layouts come to at a document that stays.
-/
set_option linter.unusedVariables false
set_option linter.unusedSimpArgs false
namespace Go.Proofs.Ytafhefmjnjibdaa.DocL
open Go.RowKit P1 CntC LayN OpenR ChP ChO It
open Ls hiding Lay

theorem LayIs.sameB {w : World} {X X' : List (Int × ByteArray)} {a a' : Option Addr} {c c' : Nat} (h : DocO.LayIs w X a c) (h' : DocO.LayIs w X' a' c') : Calls Try.prog 37 #[.slice a X.length c, .slice a' X'.length c'] w fun e w' => e = .returned (.bool (decide (X = X'))) ∧ Ext w w' := by
  obtain ⟨f, hs⟩ := h.sub
  obtain ⟨f', hs'⟩ := h'.sub
  exact LaySm.implLayoutSame X X' w a c f hs a' c' f' hs' h.cap_le h'.cap_le h.fits.2 h'.fits.2

/-- a list of layouts in memory, all valid -/
structure LLIs (w : World) (X : List Ls.Lay) (a : Option Addr) (c : Nat) : Prop where
  sub : ∃ fs, LLSub w a X fs
  cap_le : X.length ≤ c
  good : ∀ x ∈ X, lv x = true
  few : X.length ≤ 300
theorem LLIs.ext {w w' : World} {X : List Ls.Lay} {a : Option Addr} {c : Nat} (h : LLIs w X a c) (e : Ext w w') : LLIs w' X a c := by
  obtain ⟨fs, hs⟩ := h.sub
  exact ⟨⟨fs, hs.below hs.lt e⟩, h.cap_le, h.good, h.few⟩
/-- the layout at a place -/
theorem LLIs.get {w : World} {X : List Ls.Lay} {a : Option Addr} {c : Nat} (h : LLIs w X a c) {k : Nat} (hk : k < X.length) : ∃ (b off : Nat) (a1 : Option Addr) (c1 : Nat), a = some ⟨b, off, none⟩ ∧ b < w.heap.size ∧ w.cell? ⟨b, off + k, none⟩ = some (.slice a1 X[k].length c1) ∧ DocO.LayIs w X[k] a1 c1 := by
  obtain ⟨fs, hs⟩ := h.sub
  obtain ⟨b, off, a1, c1, f1, ha, hb, hcell, hcl, hsub, _⟩ := hs.get hk
  exact ⟨b, off, a1, c1, ha, hb, hcell, ⟨f1, hsub⟩, hcl, .inr (h.good _ (List.getElem_mem hk))⟩

/-- a list of layouts, and whether there is one -/
def LOut (w : World) (X : List Ls.Lay) (V : Bool) (e : Ending) (w' : World) : Prop := ∃ (a : Option Addr) (c : Nat), e = .returned (.tuple #[.slice a X.length c, .bool V]) ∧ LLIs w' X a c ∧ Ext w w'
theorem LOut.of {w w' : World} {X : List Ls.Lay} {V : Bool} {e : Ending} (h : LLOut w X V e w') (g : ∀ x ∈ X, lv x = true) (f : X.length ≤ 300) : LOut w X V e w' := by
  obtain ⟨a, c, fs, rfl, h1, h2, _, h4⟩ := h
  exact ⟨a, c, rfl, ⟨⟨fs, h2⟩, h1, g, f⟩, h4⟩
theorem best_ok (lines : Bool) (o n : Int) (t : ByteArray) (k : F) : (bestR lines o n t k).1 = [] ∨ lv (bestR lines o n t k).1 = true := by
  cases h : toldD o n t k with
  | false => rw [best_no h]; exact .inl rfl
  | true => exact .inr (best_good h)
theorem dist_few (o n : Int) (t : ByteArray) (k : F) : (dist (laysD o n t k)).length ≤ 300 := by
  have := dist_len (laysD o n t k); have := lays_len o n t k; omega

section
variable {w w' : World} {o n : Int} {t : ByteArray} {k : F} {a : Option Addr} {cap : Nat} {fs : List Nat}
theorem implLays (h : DocK.Doc0 w n t k a cap fs) (o : Int) : Calls Try.prog 28 #[.agg #[.int .i64 o, .int .i64 n, .string t, .slice a k.len cap]] w (LOut w (laysD o n t k) (toldD o n t k)) :=
  (implLayoutsOf w o n t k a cap fs h.sub h.ok h.cap_le (by have := h.size; omega) h.fits h.tfit).mono fun e w' g => LOut.of g lays_good (lays_len o n t k)
theorem implDist (h : DocK.Doc0 w n t k a cap fs) (o : Int) : Calls Try.prog 44 #[.agg #[.int .i64 o, .int .i64 n, .string t, .slice a k.len cap]] w (LOut w (dist (laysD o n t k)) (toldD o n t k)) :=
  (implDistinctLayouts w o n t k a cap fs h.sub h.ok h.cap_le (by have := h.size; omega) h.fits h.tfit).mono fun e w' g => LOut.of g (dist_good lays_good) (dist_few o n t k)
end

set_option maxRecDepth 100000 in
set_option maxHeartbeats 1600000 in
/-- daLayouts at two copies of one list -/
theorem daSame {w : World} {X : List Ls.Lay} {a a' : Option Addr} {cap cap' : Nat} (h : LLIs w X a cap) (h' : LLIs w X a' cap') :
    Calls Try.prog 29 #[.slice a X.length cap, .slice a' X.length cap'] w fun e w' => e = .returned (.bool true) ∧ Ext w w' := by
  have HR := Lib.hid h
  have HR' := Lib.hid h'
  have hc := h.cap_le
  have hc' := h'.cap_le
  have hf := h.few
  obtain ⟨m, hm⟩ : ∃ m, X.length = m := ⟨_, rfl⟩
  rw [hm] at hc hc' hf ⊢
  have HM := Lib.hid hm
  have hmm : ((m : Int) != (m : Int)) = false := by simp
  clear hm h h'
  go_enter Try.func29, Try.ntmps29
  go_wp2_with fail
  go_loopw [5] (fun i wr => ∃ k : Nat, k ≤ m ∧ i = .int .i64 k ∧ Ext w wr) (fun i _ => m - (intOf i).toNat)
  case atStart => exact ⟨0, by omega, rfl, Ext.refl _⟩
  case round =>
    obtain ⟨k, hk, rfl, hbw⟩ := hrel
    by_cases hkm : k < m
    · have hkl : k < X.length := by rw [HM.out]; exact hkm
      obtain ⟨b, off, a1, c1, rfl, hb, hcell, hlay⟩ := (HR.out.ext hbw).get hkl
      obtain ⟨b', off', a1', c1', rfl, hb', hcell', hlay'⟩ := (HR'.out.ext hbw).get hkl
      obtain ⟨l, hlv⟩ : ∃ l, X[k] = l := ⟨_, rfl⟩
      rw [hlv] at hcell hlay hcell' hlay'
      have i0 : (0 : Int) ≤ (k : Int) := Int.natCast_nonneg _
      have i1 : (k : Int) < (m : Int) := by omega
      have HD := Lib.hid (fun (W : World) (e : Ext wr W) => DocO.LayIs.same (hlay.ext e) (hlay'.ext e))
      clear hlv hlay hlay'
      go_wp2_with fail
      go_still_tail 8, (by kernel_rfl)
      go_wp2_with (go_at_call 37; refine (HD.out _ (by first | exact Ext.refl _ | exact (Ext.refl _).drew)).mono ?_; rintro e w' ⟨rfl, hb1⟩)
      go_roundw
      case rel => exact ⟨k + 1, by omega, by go_num, hbw.trans ((Ext.refl _).drew.trans hb1)⟩
      case measure => simp [intOf]; omega
    · go_wp2_with fail
      go_ret
      exact ⟨rfl, hbw⟩

end Go.Proofs.Ytafhefmjnjibdaa.DocL

