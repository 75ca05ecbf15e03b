import Derived.Test.YtjcaiecapapceaaGreatPl
/-
 The text of a layout as plain data; nothing here speaks of the program.
-/
set_option linter.unusedVariables false
set_option linter.unusedSimpArgs false
namespace Go.Proofs.YtjcaiecapapceaaGreat.P1
open Go.RowKit
def lnB (r : Int × ByteArray) : List UInt8 := (ln r.1 r.2).data.toList
def txB : List (Int × ByteArray) → List UInt8
 | [] => []
 | r :: l => lnB r ++ l.flatMap (fun q => 10 :: lnB q)
theorem txB_one (r : Int × ByteArray) : txB [r] = lnB r := by simp [txB]
theorem txB_snoc {p : List (Int × ByteArray)} (h : 0 < p.length) (r : Int × ByteArray) : txB (p ++ [r]) = txB p ++ 10 :: lnB r := by
 cases p with
 | nil => simp at h
 | cons q p => simp [txB, List.flatMap_append]
theorem txB_take {l : List (Int × ByteArray)} {k : Nat} (h : k < l.length) (h0 : 0 < k) : txB (l.take (k + 1)) = (txB (l.take k) ++ [10]) ++ lnB l[k] := by
 rw [L.take_succ h, txB_snoc (by simp; omega)]; simp
theorem txB_first {l : List (Int × ByteArray)} (h : 0 < l.length) : txB (l.take 1) = lnB l[0] := by
 rw [show l.take 1 = l.take 0 ++ [l[0]] from L.take_succ h, List.take_zero, List.nil_append, txB_one]
theorem lnB_len {r : Int × ByteArray} (h : rv r = true) : (lnB r).length ≤ 2399 := by
 have h1 := ln_size (n := r.1) (t := r.2) (rv_len h).1
 have h2 := rowW_bd h
 have e : (lnB r).length = (ln r.1 r.2).size := by simp [lnB]
 have h3 : rowW (r.1, r.2) = rowW r := rfl
 omega
theorem txB_len {l : List (Int × ByteArray)} (h : lv l = true) : ∀ k, k ≤ l.length → (txB (l.take k)).length ≤ 2400 * k := by
 intro k
 induction k with
 | zero => intro _; simp [txB]
 | succ k ih =>
   intro hk
   have h1 := ih (by omega)
   have h2 := lnB_len (lv_get h (k := k) (by omega))
   rcases Nat.eq_zero_or_pos k with rfl | h0
   ·rw [txB_first (by omega)]; omega
   ·rw [txB_take (by omega) h0]; simp; omega
def tx (l : List (Int × ByteArray)) : ByteArray := ⟨(txB l).toArray⟩
def lt8 (l : List (Int × ByteArray)) : ByteArray := if lv l then tx l else ⟨#[]⟩
theorem lt8_no {l : List (Int × ByteArray)} (h : lv l = false) : lt8 l = ⟨#[]⟩ := by simp [lt8, h]
theorem lt8_yes {l : List (Int × ByteArray)} (h : lv l = true) : lt8 l = tx l := by simp [lt8, h]
end Go.Proofs.YtjcaiecapapceaaGreat.P1
namespace Go.Proofs.YtjcaiecapapceaaGreat.P1
open Go.RowKit
def nl (l : List UInt8) : Nat := l.count 10
end Go.Proofs.YtjcaiecapapceaaGreat.P1
