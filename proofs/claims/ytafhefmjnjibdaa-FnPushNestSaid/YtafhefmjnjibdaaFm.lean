import Derived.Test.YtafhefmjnjibdaaLb
import Derived.Test.YtafhefmjnjibdaaRfR
import Derived.Laws.Cover3
/-
  Narrowest and Shortest of the program.
-/
set_option linter.unusedVariables false
set_option linter.unusedSimpArgs false
namespace Go.Proofs.Ytafhefmjnjibdaa.It
open Go.RowKit Go.Shelf P1 LayL LayV LayM LayN LayC Cnt CntC Wid ChP Tr ChT ChC Rf
open Ls hiding Lay
attribute [local go_sem] Oper.semAt_some

theorem nil_eq (w : World) : (binOp BinOp.eql 38 (.slice none 0 0) (.slice none 0 0)).run Try.prog w = .ok (.bool true) w := by
  have h := run_equal_slice_nil (P := Try.prog) w _ _ none 0 0 Try.underlying38
  simp only [binOp, Sem.run_bind, Sem.run_pure, h, Result.andThen_ok]; rfl
theorem nil_ne (ad : Addr) (l c : Nat) (w : World) : (binOp BinOp.eql 38 (.slice (some ad) l c) (.slice none 0 0)).run Try.prog w = .ok (.bool false) w := by
  have h := run_equal_slice_nil (P := Try.prog) w _ _ (some ad) l c Try.underlying38
  simp only [binOp, Sem.run_bind, Sem.run_pure, h, Result.andThen_ok]; rfl

theorem least_upto (f : Lay → Int) (L : Nat → Lay) (j : Nat) : least f (upto L (j + 1)) = if j = 0 then L 0 else if f (L j) < f (least f (upto L j)) then L j else least f (upto L j) := by
  by_cases hj : j = 0
  · subst hj; rfl
  · rw [if_neg hj]
    obtain ⟨i, rfl⟩ : ∃ i, j = i + 1 := ⟨j - 1, by omega⟩
    have e : upto L (i + 1) = L 0 :: (upto L (i + 1)).tail := by
      have h : (upto L (i + 1)).head? = some (L 0) := by simp [upto, List.range_succ_eq_map]
      cases hu : upto L (i + 1) with
      | nil => rw [hu] at h; cases h
      | cons x xs => rw [hu] at h; simp at h; rw [h]; rfl
    rw [upto_succ, e, List.cons_append, least_snoc]
theorem least_zero (f : Lay → Int) (L : Nat → Lay) : least f (upto L 0) = [] := rfl
theorem least_good {f : Lay → Int} {L : Nat → Lay} (h : ∀ i, lv (L i) = true) {j : Nat} (hj : 1 ≤ j) : lv (least f (upto L j)) = true := by
  have hl := upto_len L j
  cases hu : upto L j with
  | nil => rw [hu] at hl; simp at hl; omega
  | cons x xs =>
    have hm := least_mem f xs x
    rw [← hu] at hm ⊢
    simp only [upto, List.mem_map] at hm
    obtain ⟨i, _, e⟩ := hm
    rw [← show L i = least f (upto L j) from e]
    exact h i
theorem sub_addr {w : World} {a : Option Addr} {l : Lay} {f : List Nat} (h : LaySub w a l f) (hl : lv l = true) : ∃ ad, a = some ad := by
  rcases h with ⟨e, _⟩ | ⟨b, off, ha, _⟩
  · have := (lv_len hl).1; rw [e] at this; simp at this
  · exact ⟨_, ha⟩

theorem keepN {W w' w'' : World} {b c : Nat} {u v : Value} {a a' : Option Addr} {l l' : Lay} {f f' : List Nat} (h : ((w'.cell? ⟨b, 0, none⟩ = some u ∧ w'.cell? ⟨c, 0, none⟩ = some v) ∧ b < w'.heap.size ∧ c < w'.heap.size) ∧ (LaySub w' a l f ∧ LaySub w' a' l' f') ∧ Ext W w') (k : Ext w' w'') :
    ((w''.cell? ⟨b, 0, none⟩ = some u ∧ w''.cell? ⟨c, 0, none⟩ = some v) ∧ b < w''.heap.size ∧ c < w''.heap.size) ∧ (LaySub w'' a l f ∧ LaySub w'' a' l' f') ∧ Ext W w'' :=
  ⟨⟨⟨(k.cell h.1.2.1).trans h.1.1.1, (k.cell h.1.2.2).trans h.1.1.2⟩, Nat.lt_of_lt_of_le h.1.2.1 k.size, Nat.lt_of_lt_of_le h.1.2.2 k.size⟩, ⟨h.2.1.1.below h.2.1.1.lt k, h.2.1.2.below h.2.1.2.lt k⟩, h.2.2.trans k⟩

/-- 'least = l' with least in a box: what the walk owes of it -/
theorem store_box {W : World} {B : Nat} {T : TypeId} {v u : Value} {a : Option Addr} {l : Lay} {f : List Nat} (hB : Boxed W B T v) (hs : LaySub W a l f) (hf : ∀ q ∈ f, B < q) :
    Boxed (W.setCell ⟨B, 0, none⟩ u) B T u ∧ LaySub (W.setCell ⟨B, 0, none⟩ u) a l f ∧ KeepsOthers W (W.setCell ⟨B, 0, none⟩ u) ∧ Below B W (W.setCell ⟨B, 0, none⟩ u) :=
  ⟨hB.set u, hs.congr (fun q hq o => World.cell?_setCell_far _ _ _ _ (by have := hf q hq; simp; omega)), KeepsOthers.setCell _ _ _, (Below.refl B W).setCell (p := ⟨B, 0, none⟩) (Nat.le_refl _) u⟩

section
variable (w : World) (o n : Int) (t : ByteArray) (k : F) (a : Option Addr) (cap : Nat) (fs : List Nat)
end

end Go.Proofs.Ytafhefmjnjibdaa.It

