/-
  Texts and widths of lines as plain data; nothing here speaks of the program.
-/
import Derived.Test.YtjpgnhpfmdjamaaLay
set_option linter.unusedVariables false
set_option linter.unusedSimpArgs false
namespace Go.Proofs.Ytjpgnhpfmdjamaa.P1
open Go.RowKit

/-- spaces -/
def sp (n : Nat) : ByteArray := ⟨(List.replicate n (32 : UInt8)).toArray⟩
theorem sp_size (n : Nat) : (sp n).size = n := by show (List.replicate n (32 : UInt8)).toArray.size = n; simp
theorem sp_zero : sp 0 = ⟨#[]⟩ := rfl
theorem sp_succ (n : Nat) : sp n ++ ⟨#[32]⟩ = sp (n + 1) := by
  apply ByteArray.ext
  rw [ByteArray.data_append]
  apply Array.ext'
  simp [sp, List.replicate_succ']
/-- the text of a line -/
def ln (n : Int) (t : ByteArray) : ByteArray := if t.size = 0 then ⟨#[]⟩ else sp n.toNat ++ t
theorem ln_no {n : Int} {t : ByteArray} (h : t.size = 0) : ln n t = ⟨#[]⟩ := by simp [ln, h]
theorem ln_yes {n : Int} {t : ByteArray} (h : t.size ≠ 0) : ln n t = sp n.toNat ++ t := by simp [ln, h]
/-- its bytes -/
def rowW (r : Int × ByteArray) : Int := if r.2.size = 0 then 0 else r.1 + r.2.size
theorem rowW_no {n : Int} {t : ByteArray} (h : t.size = 0) : rowW (n, t) = 0 := by simp [rowW, h]
theorem rowW_yes {n : Int} {t : ByteArray} (h : t.size ≠ 0) : rowW (n, t) = n + t.size := by simp [rowW, h]
theorem ln_size {n : Int} {t : ByteArray} (h : 0 ≤ n) : ((ln n t).size : Int) = rowW (n, t) := by
  by_cases h0 : t.size = 0
  · rw [ln_no h0, rowW_no h0]; rfl
  · rw [ln_yes h0, rowW_yes h0, ByteArray.size_append, sp_size]; omega
theorem rv_len {r : Int × ByteArray} (h : rv r = true) : 0 ≤ r.1 ∧ r.1 ≤ 400 ∧ r.2.size < 2000 := by
  have := rv_iff.1 h
  have h2 := lt_len this.2.2
  have e : r.2.data.toList.length = r.2.size := by simp
  exact ⟨this.1, this.2.1, by omega⟩
theorem rowW_bd {r : Int × ByteArray} (h : rv r = true) : 0 ≤ rowW r ∧ rowW r ≤ 2399 := by
  have := rv_len h
  unfold rowW; split <;> omega

/-- the bytes of the longest line, and those beyond a width -/
def wid (l : List (Int × ByteArray)) : Int := l.foldl (fun m r => max m (rowW r)) 0
def ov (x : Int) (l : List (Int × ByteArray)) : Int := l.foldl (fun m r => m + max 0 (rowW r - x)) 0
theorem wid_take {l : List (Int × ByteArray)} {k : Nat} (h : k < l.length) : wid (l.take (k + 1)) = max (wid (l.take k)) (rowW l[k]) := by
  rw [L.take_succ h]; unfold wid; rw [List.foldl_append]; rfl
theorem ov_take {x : Int} {l : List (Int × ByteArray)} {k : Nat} (h : k < l.length) : ov x (l.take (k + 1)) = ov x (l.take k) + max 0 (rowW l[k] - x) := by
  rw [L.take_succ h]; unfold ov; rw [List.foldl_append]; rfl
theorem wid_bd {l : List (Int × ByteArray)} (h : lv l = true) : ∀ k, k ≤ l.length → 0 ≤ wid (l.take k) ∧ wid (l.take k) ≤ 2399 := by
  intro k
  induction k with
  | zero => intro _; simp [wid]
  | succ k ih =>
    intro hk
    have h1 := ih (by omega)
    have h2 := rowW_bd (lv_get h (k := k) (by omega))
    rw [wid_take (by omega)]; omega
theorem ov_bd {x : Int} (hx : 0 ≤ x) {l : List (Int × ByteArray)} (h : lv l = true) : ∀ k, k ≤ l.length → 0 ≤ ov x (l.take k) ∧ ov x (l.take k) ≤ 2399 * k := by
  intro k
  induction k with
  | zero => intro _; simp [ov]
  | succ k ih =>
    intro hk
    have h1 := ih (by omega)
    have h2 := rowW_bd (lv_get h (k := k) (by omega))
    rw [ov_take (by omega)]; omega
/-- what LayoutWidth and Overflow come to -/
def lw (l : List (Int × ByteArray)) : Int := if lv l then wid l else 0
def lo (l : List (Int × ByteArray)) (x : Int) : Int := if lv l = true ∧ 0 ≤ x then ov x l else 0
theorem lw_no {l : List (Int × ByteArray)} (h : lv l = false) : lw l = 0 := by simp [lw, h]
theorem lw_yes {l : List (Int × ByteArray)} (h : lv l = true) : lw l = wid l := by simp [lw, h]
theorem lo_no {l : List (Int × ByteArray)} (h : lv l = false) (x : Int) : lo l x = 0 := by simp [lo, h]
theorem lo_neg (l : List (Int × ByteArray)) {x : Int} (h : x < 0) : lo l x = 0 := by unfold lo; rw [if_neg (by omega)]
theorem lo_yes {l : List (Int × ByteArray)} (h : lv l = true) {x : Int} (hx : 0 ≤ x) : lo l x = ov x l := by unfold lo; rw [if_pos ⟨h, hx⟩]

end Go.Proofs.Ytjpgnhpfmdjamaa.P1
