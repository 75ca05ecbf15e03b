import Derived.Test.YtjcaiecapapceaaRqX
import Derived.Test.YtjcaiecapapceaaEqW
import Derived.Test.YtjcaiecapapceaaRnV7
/-
 Documents with the same normal form are rendered in the same way, and have the same open layout: plain facts.
-/
set_option linter.unusedVariables false
set_option linter.unusedSimpArgs false
namespace Go.Proofs.Ytjcaiecapapceaa.Eqd
open Go.RowKit P1 Rn OpenR Nf
theorem fwO_symm {o n : Int} {t : ByteArray} {k : F} {o' n' : Int} {t' : ByteArray} {k' : F} : fwO o' n' t' k' o n t k = fwO o n t k o' n' t' k' := by
 unfold fwO
 congr 1
 funext j
 rw [Bool.eq_iff_iff]
 simp only [Bool.not_eq_true', decide_eq_false_iff_not]
 exact ⟨fun h e => h e.symm, fun h e => h e.symm⟩
end Go.Proofs.Ytjcaiecapapceaa.Eqd
namespace Go.Proofs.Ytjcaiecapapceaa.Eqd
open Go.RowKit P1 Rn RnV OpenR
section
variable {o n : Int} {t : ByteArray} {k : F} {o' n' : Int} {t' : ByteArray} {k' : F}
theorem fwO_of {j : Nat} (h : fwO o n t k o' n' t' k' = some j) : j ≤ 200 ∧ (∀ i, i < j → lyW o n t k i = lyW o' n' t' k' i) ∧ lyW o n t k j ≠ lyW o' n' t' k' j := by
 unfold fwO at h
 rw [List.find?_range_eq_some] at h
 obtain ⟨h1, h2, h3⟩ := h
 refine ⟨by simp at h2; omega, fun i hi => by simpa using h3 i hi, by simpa using h1⟩
theorem fwR_yes {W : Int} (h : fwR o n t k o' n' t' k' = (W, true)) : ∃ j : Nat, W = (j : Int) ∧ j ≤ 200 ∧ validD o n t k = true ∧ validD o' n' t' k' = true ∧ (∀ i, i < j → lyW o n t k i = lyW o' n' t' k' i) ∧ lyW o n t k j ≠ lyW o' n' t' k' j ∧ sameRn o n t k o' n' t' k' = false := by
 unfold fwR at h
 split at h
 ·rename_i hv
  simp only [Bool.and_eq_true] at hv
  split at h
  ·rename_i j hj
   obtain ⟨h1, h2, h3⟩ := fwO_of hj
   refine ⟨j, (Prod.mk.inj h).1.symm, h1, hv.1, hv.2, h2, h3, ?_⟩
   unfold sameRn; rw [hj]; simp
  ·cases (Prod.mk.inj h).2
 ·cases (Prod.mk.inj h).2
theorem fwR_symm : fwR o' n' t' k' o n t k = fwR o n t k o' n' t' k' := by
 unfold fwR
 rw [fwO_symm, Bool.and_comm (validD o' n' t' k')]
theorem fw_change {j : Nat} (h1 : ∀ i, i < j → lyW o n t k i = lyW o' n' t' k' i) (h2 : lyW o n t k j ≠ lyW o' n' t' k' j) (h0 : j ≠ 0) (hj : j ≤ 200) : j ∈ wdL (lyW o n t k) 200 ∨ j ∈ wdL (lyW o' n' t' k') 200 := by
 have e := h1 (j - 1) (by omega)
 by_cases ha : lyW o n t k j = lyW o n t k (j - 1)
 ·right
  refine wdL_mem.2 ⟨⟨by omega, hj⟩, fun hb => h2 ?_⟩
  rw [ha, e, hb]
 ·left
  exact wdL_mem.2 ⟨⟨by omega, hj⟩, ha⟩
theorem fw_back {W : Int} (h : fwR o n t k o' n' t' k' = (W, true)) (h0 : W ≠ 0) : W ∈ (wdR o n t k).1 ∨ W ∈ (wdR o' n' t' k').1 := by
 obtain ⟨j, rfl, hj, hv, hv', h1, h2, _⟩ := fwR_yes h
 have h3 := fw_change h1 h2 (fun e => h0 (by rw [e]; rfl)) hj
 unfold wdR
 rw [if_pos hv, if_pos hv']
 rcases h3 with h3 | h3
 ·exact Or.inl (List.mem_map.2 ⟨j, h3, rfl⟩)
 ·exact Or.inr (List.mem_map.2 ⟨j, h3, rfl⟩)
end
end Go.Proofs.Ytjcaiecapapceaa.Eqd
