import Derived.Test.YtafhefmjnjibdaaIn
/-
  LayoutsOf and DistinctLayouts of the model.
-/
set_option linter.unusedVariables false
set_option linter.unusedSimpArgs false
namespace Go.Proofs.Ytafhefmjnjibdaa.It
open Go.RowKit Go.Shelf P1 LayL LayV LayM LayN LayC Cnt CntC Wid ChP Tr ChT ChC Rf
open Ls hiding Lay

/-- one layout more: 'out = append(out, l)', the array of one place laid -/
theorem acc_push {W : World} {lo : Nat} {v : Value} {ls : List Lay} {f : List Nat} {a : Option Addr} {cap : Nat} {l : Lay} {f1 : List Nat} (hA : Acc W 38 lo v ls f) (hs : LaySub W a l f1) (hc : l.length ≤ cap) (hf : Fresh lo W f1) (hd : ∀ q ∈ f1, q ∉ f) (ho : ∀ q, v.ownBlock = some q → q ∉ f1) (hl : ls.length + 1 ≤ 1099511627776) :
    ∃ v' w', (Builtin.append_ #[34, 34] 34 #[v, .slice (some ⟨W.heap.size, 0, none⟩) 1 1]).run Try.prog (W.alloc (.cells #[.slice a l.length cap] 38)) = .ok v' w' ∧ Acc w' 38 lo v' (ls ++ [l]) (f ++ f1) ∧ Below lo W w' ∧ (W.alloc (.cells #[.slice a l.length cap] 38)).grownBy w' v.ownBlock ∧ ∃ b cap', v' = .slice (some ⟨b, 0, none⟩) (ls.length + 1) cap' ∧ (some b = v.ownBlock ∨ b = W.heap.size + 1) := by
  obtain ⟨i0, hi, hz0, hz1, hz2⟩ := info_parts infoE
  have hE : Ext W (W.alloc (.cells #[.slice a l.length cap] 38)) := (Ext.refl W).alloc _
  obtain ⟨vs, _, _, _, _, hlo⟩ := id hA
  obtain ⟨v', w', h1, h2, h3, h4, b, cap', h5, h6⟩ := Acc.append (P := Try.prog) (t := 34) (ty := 34) (c := 1) (p := ⟨W.heap.size, 0, none⟩) Try.underlying34 hi hz0 hz1 hz2 (by rfl) (hA.ext hE) (by rw [World.cell?_alloc_new]; rfl) hc (hs.below hs.lt hE) (hf.below (fun q hq => hs.lt q hq) hE) hd ho hl
  exact ⟨v', w', h1, h2, (hE.mono hlo).trans h3, h4, b, cap', h5, by simpa using h6⟩

/-- .. where it lies in memory that is newer than what has grown so far -/
theorem acc_new {W W' : World} {lo : Nat} {v : Value} {ls : List Lay} {f : List Nat} (hA : Acc W 38 lo v ls f) (hE : Ext W W') {f1 : List Nat} (hf : Fresh W.heap.size W' f1) : (∀ q ∈ f1, q ∉ f) ∧ (∀ q, v.ownBlock = some q → q ∉ f1) ∧ Acc W' 38 lo v ls f ∧ Fresh lo W' f1 := by
  obtain ⟨vs, _, _, _, _, hlo⟩ := id hA
  exact ⟨fun q hq hm => by have h1 := (hf.2 q hq).1; have h2 := hA.lt q hm; omega, fun q hq hm => by have h1 := (hf.2 q hm).1; have h2 := (hA.own_lt q hq).2; omega, hA.ext hE, hf.mono hlo⟩
/-- a slice that has grown so far, by its parts -/
theorem acc_lit {W : World} {lo : Nat} {v : Value} {ls : List Lay} {f : List Nat} (hA : Acc W 38 lo v ls f) : ∃ (a : Option Addr) (cap : Nat), v = .slice a ls.length cap ∧ ls.length ≤ cap ∧ cap ≤ maxLen := by
  obtain ⟨a, cap, fs, h1, h2, h3, _⟩ := hA.slice
  exact ⟨a, cap, h1, h2, h3⟩

section
variable (w : World) (o n : Int) (t : ByteArray) (k : F) (a : Option Addr) (cap : Nat) (fs : List Nat)
theorem dist_take {ls : List Lay} {j : Nat} (hj : j < ls.length) : dist (ls.take (j + 1)) = if inL (dist (ls.take j)) ls[j] then dist (ls.take j) else dist (ls.take j) ++ [ls[j]] := by
  rw [List.take_succ_eq_append_getElem hj, dist_snoc]
theorem lays_good {o n : Int} {t : ByteArray} {k : F} : ∀ x ∈ laysD o n t k, lv x = true := by
  intro x hx
  cases h : toldD o n t k with
  | false => rw [lays_no h] at hx; simp at hx
  | true =>
    rw [lays_yes h] at hx
    simp only [upto, List.mem_map, List.mem_range] at hx
    obtain ⟨i, _, rfl⟩ := hx
    exact pick_lv (DocC.many_yes (told_parts h).2.2.2).1 i
theorem lays_len (o n : Int) (t : ByteArray) (k : F) : (laysD o n t k).length ≤ 300 := by
  cases h : toldD o n t k with
  | false => rw [lays_no h]; simp
  | true => rw [lays_yes h, upto_len]; exact (told_parts h).2.2.1
theorem lays_pos {o n : Int} {t : ByteArray} {k : F} (h : toldD o n t k = true) : 0 < (laysD o n t k).length := by
  rw [lays_yes h, upto_len]; exact ctD_pos o k
theorem good_len {ls : List Lay} (h : ∀ x ∈ ls, lv x = true) : ∀ x ∈ ls, x.length ≤ maxLen := fun x hx => by have := (lv_len (h x hx)).2; unfold maxLen; omega
theorem dist_good {ls : List Lay} (h : ∀ x ∈ ls, lv x = true) : ∀ x ∈ dist ls, lv x = true := fun x hx => h x ((dist_mem ls x).1 hx)
theorem take_good {ls : List Lay} (h : ∀ x ∈ ls, lv x = true) (j : Nat) : ∀ x ∈ ls.take j, lv x = true := fun x hx => h x (List.mem_of_mem_take hx)

end

end Go.Proofs.Ytafhefmjnjibdaa.It

