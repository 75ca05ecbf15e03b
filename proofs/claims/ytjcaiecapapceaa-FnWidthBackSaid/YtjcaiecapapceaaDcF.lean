import Derived.Test.YtjcaiecapapceaaDoX
import Derived.Test.YtjcaiecapapceaaRnV7
/-
 GroupFlags at a document that stays; slices of values that stay.
-/
set_option linter.unusedVariables false
set_option linter.unusedSimpArgs false
set_option maxRecDepth 100000
set_option maxHeartbeats 1600000
namespace Go.Proofs.Ytjcaiecapapceaa.DocR
open Go.RowKit P1 CntC Wid LayN OpenR ChP Rn
structure VIs (w : World) (X : List Value) (a : Option Addr) (c : Nat) : Prop where
 sub : ∃ fs, Vs.VSub w a X fs
 cap_le : X.length ≤ c
 few : X.length ≤ 1048576
theorem VIs.ext {w w' : World} {X : List Value} {a : Option Addr} {c : Nat} (h : VIs w X a c) (e : Ext w w') : VIs w' X a c := by
 obtain ⟨fs, hs⟩ := h.sub
 exact ⟨⟨fs, hs.below hs.lt e⟩, h.cap_le, h.few⟩
section
variable {w w' : World} {o n : Int} {t : ByteArray} {k : F} {a : Option Addr} {cap : Nat} {fs : List Nat}
end
end Go.Proofs.Ytjcaiecapapceaa.DocR
namespace Go.Proofs.Ytjcaiecapapceaa.DocR
open Go.RowKit P1 CntC Wid LayN OpenR ChP Rn VsI
def IOut (w : World) (X : List Int) (V : Bool) (e : Ending) (w' : World) : Prop := ∃ (a : Option Addr) (c : Nat), e = .returned (.tuple #[.slice a X.length c, .bool V]) ∧ VIs w' (X.map (fun x => Value.int .i64 x)) a c ∧ Ext w w'
theorem IOut.of {w w' : World} {r : List Int × Bool} {e : Ending} (h : IRes w r e w') (g : r.1.length ≤ 1048576) : IOut w r.1 r.2 e w' := by
 obtain ⟨l, ok⟩ := r
 obtain ⟨a, c, fs, rfl, h1, h2, _, h4⟩ := h
 exact ⟨a, c, rfl, ⟨⟨fs, h2⟩, by simpa using h1, by simpa using g⟩, h4⟩
section
variable {w w' : World} {o n : Int} {t : ByteArray} {k : F} {a : Option Addr} {cap : Nat} {fs : List Nat}
theorem implWidths (h : DocK.Doc0 w n t k a cap fs) (o : Int) : Calls Try.prog 30 #[.agg #[.int .i64 o, .int .i64 n, .string t, .slice a k.len cap]] w (IOut w (RnV.wdR o n t k).1 (RnV.wdR o n t k).2) :=
 (RnV.implWidthsOf w o n t k a cap fs h.sub h.ok h.cap_le (by have := h.size; omega) h.fits h.tfit).mono fun _ _ g => IOut.of g (RnV.wd_len o n t k)
end
end Go.Proofs.Ytjcaiecapapceaa.DocR
namespace Go.Proofs.Ytjcaiecapapceaa.DocR
open Go.RowKit P1 CntC Wid LayN OpenR ChP Rn VsI
theorem daInS (bs : List Int) (v : Int) (w : World) (a : Option Addr) (cap : Nat) (fs : List Nat) (hs : ISub w a bs fs) (hc : bs.length ≤ cap) (hl : bs.length ≤ 1048576) :
  Calls Try.prog 31 #[.slice a bs.length cap, .int .i64 v] w fun e w' => e = .returned (.bool (decide (v ∈ bs))) ∧ Below w.heap.size w w' := by
 have HR := Lib.hid (show ∀ k, (h : k < bs.length) → ∃ b off, a = some ⟨b, off, none⟩ ∧ w.cell? ⟨b, off + k, none⟩ = some (.int .i64 bs[k]) from fun k h => by
  rcases hs with ⟨h0, _⟩ | ⟨b, off, rfl, _, _, hr⟩
  ·rw [List.map_eq_nil_iff] at h0; subst h0; exact absurd h (by simp)
  ·have h1 := hr k (by simpa using h)
   simp only [List.getElem_map] at h1
   exact ⟨b, off, rfl, h1⟩)
 obtain ⟨m, hm⟩ : ∃ m, bs.length = m := ⟨_, rfl⟩
 have HM := Lib.hid hm
 rw [hm] at hc hl ⊢
 clear hm hs
 obtain ⟨r, hr⟩ : ∃ r, decide (v ∈ bs) = r := ⟨_, rfl⟩
 have HY := Lib.hid (show ∀ k, (h : k < bs.length) → bs[k] = v → r = true from fun k h e => by rw [← hr]; exact decide_eq_true (e ▸ List.getElem_mem h))
 have HN := Lib.hid (show (∀ k, (h : k < bs.length) → bs[k] ≠ v) → r = false from fun h => by
  rw [← hr]
  refine decide_eq_false fun hv => ?_
  obtain ⟨k, hk, e⟩ := List.getElem_of_mem hv
  exact h k hk e)
 rw [hr]
 clear hr
 go_enter Try.func31, Try.ntmps31
 go_wp2_with fail
 go_loopw [5] (fun i wr => ∃ (k : Nat), k ≤ m ∧ i = .int .i64 k ∧ Hid (∀ j, (hj : j < bs.length) → j < k → bs[j] ≠ v) ∧ ∀ b o, wr.cell? ⟨b, o, none⟩ = w.cell? ⟨b, o, none⟩ ∧ Below w.heap.size w wr) (fun i _ => m - (intOf i).toNat)
 case atStart => exact ⟨0, Nat.zero_le _, rfl, Lib.hid (fun j _ h => absurd h (Nat.not_lt_zero j)), fun _ _ => ⟨rfl, Below.refl _ _⟩⟩
 case round =>
  obtain ⟨k, hk, rfl, HB, hcl⟩ := hrel
  by_cases hkm : k < m
  ·have hkl : k < bs.length := by rw [HM.out]; exact hkm
   obtain ⟨b, off, rfl, h1⟩ := HR.out k hkl
   rw [← (hcl _ _).1] at h1
   have HCL := Lib.hid hcl
   have i0 : (0 : Int) ≤ (k : Int) := Int.natCast_nonneg _
   have i1 : (k : Int) < (m : Int) := by omega
   by_cases hx : bs[k] = v
   ·have HT := Lib.hid (HY.out k hkl hx)
    rw [hx] at h1
    have e1 : (v == v) = true := by simp
    have e2 : (v != v) = false := by simp
    clear hcl hx
    go_wp2_with fail
    go_ret
    exact ⟨by rw [HT.out]; rfl, (HCL.out 0 0).2⟩
   ·have HX := Lib.hid hx
    obtain ⟨x, hxx⟩ : ∃ x, bs[k] = x := ⟨_, rfl⟩
    rw [hxx] at h1 hx
    have e1 : (x == v) = false := by simp [hx]
    have e2 : (x != v) = true := by simp [hx]
    clear hcl hxx
    go_wp2_with fail
    go_roundw
    case rel => exact ⟨k + 1, by omega, by go_num, Lib.hid (fun j hj h => by
     by_cases hjk : j < k
     ·exact HB.out j hj hjk
     ·obtain rfl : j = k := by omega
      exact HX.out), fun b o => ⟨(HCL.out b o).1, (HCL.out b o).2⟩⟩
    case measure => simp [intOf]; omega
  ·have HCL := Lib.hid hcl
   have HF := Lib.hid (HN.out (fun j hj => HB.out j hj (by have := HM.out; omega)))
   clear hcl
   go_wp2_with fail
   go_ret
   exact ⟨by rw [HF.out]; rfl, (HCL.out 0 0).2⟩
theorem daInL {w : World} {X : List Int} {a : Option Addr} {c : Nat} (h : VIs w (X.map (fun x => Value.int .i64 x)) a c) (v : Int) :
  Calls Try.prog 31 #[.slice a X.length c, .int .i64 v] w fun e w' => e = .returned (.bool (decide (v ∈ X))) ∧ Ext w w' := by
 obtain ⟨fs, hs⟩ := h.sub
 exact daInS X v w a c fs hs (by simpa using h.cap_le) (by simpa using h.few)
end Go.Proofs.Ytjcaiecapapceaa.DocR
