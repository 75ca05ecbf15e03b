import Derived.Test.YtafhefmjnjibdaaDi
import Derived.Test.YtafhefmjnjibdaaLwA
import Derived.Deep.RegionHeld3
import Derived.BigQuiet
/-
  Narrowest and Shortest of the model.
-/
set_option linter.unusedVariables false
set_option linter.unusedSimpArgs false
namespace Go.Proofs.Ytafhefmjnjibdaa.It
open Go.RowKit Go.Shelf P1 LayL LayV LayM LayN LayC Cnt CntC Wid ChP Tr ChT ChC Rf
open Ls hiding Lay

/-- the size that is asked: the number of lines, or the width -/
def szL (lines : Bool) (l : Lay) : Int := if lines then (l.length : Int) else lw l
theorem least_take {f : Lay → Int} {ls : List Lay} {j : Nat} (h1 : 1 ≤ j) (hj : j < ls.length) : least f (ls.take (j + 1)) = if f ls[j] < f (least f (ls.take j)) then ls[j] else least f (ls.take j) := by
  cases ls with
  | nil => simp at hj
  | cons x ls =>
    obtain ⟨i, rfl⟩ : ∃ i, j = i + 1 := ⟨j - 1, by omega⟩
    have hi : i < ls.length := by simpa using hj
    rw [List.take_succ_cons, List.take_succ_cons, List.getElem_cons_succ, List.take_succ_eq_append_getElem hi, least_snoc]
theorem least_one {f : Lay → Int} {ls : List Lay} (h : 0 < ls.length) : least f (ls.take 1) = ls[0] := by
  cases ls with
  | nil => simp at h
  | cons x ls => rfl

theorem lv_fits {l : Lay} (h : lv l = true) : L.Fits l := fun r hr => by
  obtain ⟨k, hk, rfl⟩ := List.getElem_of_mem hr
  have := rv_len (lv_get h hk); unfold maxLen; omega
theorem lens_bd {ls : List Lay} (h : ∀ x ∈ ls, lv x = true) {j : Nat} (hj : j < ls.length) : ls[j].length ≤ 200 := (lv_len (h _ (List.getElem_mem hj))).2
theorem lw_bd {ls : List Lay} (h : ∀ x ∈ ls, lv x = true) {j : Nat} (hj : j < ls.length) : 0 ≤ lw ls[j] ∧ lw ls[j] ≤ 2399 := by
  have h1 := h _ (List.getElem_mem hj)
  rw [lw_yes h1]
  have := wid_bd h1 _ (Nat.le_refl _)
  rwa [List.take_length] at this

theorem keepB {w2 w' w'' : World} {b i j : Nat} {u v : Value} {a a' : Option Addr} {l l' : Lay} {f f' : List Nat} (h : ((w'.cell? ⟨b, i, none⟩ = some u ∧ w'.cell? ⟨b, j, none⟩ = some v) ∧ b < w'.heap.size) ∧ (LaySub w' a l f ∧ LaySub w' a' l' f') ∧ Ext w2 w') (k : Ext w' w'') :
    ((w''.cell? ⟨b, i, none⟩ = some u ∧ w''.cell? ⟨b, j, none⟩ = some v) ∧ b < w''.heap.size) ∧ (LaySub w'' a l f ∧ LaySub w'' a' l' f') ∧ Ext w2 w'' :=
  ⟨⟨⟨(k.cell h.1.2).trans h.1.1.1, (k.cell h.1.2).trans h.1.1.2⟩, Nat.lt_of_lt_of_le h.1.2 k.size⟩, ⟨h.2.1.1.below h.2.1.1.lt k, h.2.1.2.below h.2.1.2.lt k⟩, h.2.2.trans k⟩

section
variable (w : World) (o n : Int) (t : ByteArray) (k : F) (a : Option Addr) (cap : Nat) (fs : List Nat)

/-- the layout that a search hands back, and whether there is one -/
def bestR (lines : Bool) (o n : Int) (t : ByteArray) (k : F) : Lay × Bool := (least (szL lines) (laysD o n t k), toldD o n t k)

end

end Go.Proofs.Ytafhefmjnjibdaa.It

