/-
  What the parts of a joined layout are, and how a part of a layout lies in memory; nothing here speaks of the program.
-/
import Derived.Test.YtgnpcfafdjebeaaLayQ
set_option linter.unusedVariables false
set_option linter.unusedSimpArgs false
namespace Go.Proofs.Ytgnpcfafdjebeaa.P1
open Go.RowKit

theorem catL_parts {a b X : List (Int × ByteArray)} (ha : 0 < a.length) (hb : 0 < b.length) (hX : X = catL a b) :
    ∃ (m j : Nat) (ta tb : ByteArray), a.length = m + 1 ∧ b.length = j + 1 ∧ X.length = m + j + 1 ∧ (∃ h : m < a.length, a[m].2 = ta) ∧ (∃ h : 0 < b.length, b[0].2 = tb) ∧ (∃ h : m < X.length, X[m].2 = ta ++ tb) ∧ X.take m = a.take m ∧ X.drop (m + 1) = b.drop 1 := by
  obtain ⟨p, q, rfl⟩ := snoc_of ha
  cases b with
  | nil => simp at hb
  | cons r k =>
    rw [catL_snoc] at hX
    subst hX
    refine ⟨p.length, k.length, q.2, r.2, by simp, by simp, by simp; omega, ⟨by simp, by simp⟩, ⟨by simp, rfl⟩, ⟨by simp, by simp⟩, by simp, ?_⟩
    rw [List.drop_append]
    simp

theorem nestL_at {n : Int} {l X : List (Int × ByteArray)} {k : Nat} (hX : X = nestL n l) (hv : lv l = true) (hk : k < l.length) :
    ∃ (h : k < X.length) (i j : Int) (t : ByteArray), l[k] = (i, t) ∧ X[k] = (j, t) ∧ (0 < k → j = i + n) ∧ 0 ≤ i ∧ i ≤ 400 ∧ t.size ≤ 2000 := by
  subst hX
  have hr := rv_iff.1 (lv_get hv hk)
  have ht := lt_len hr.2.2
  simp only [Array.length_toList] at ht
  refine ⟨by rw [nestL_length]; exact hk, l[k].1, (nestL n l)[k]'(by rw [nestL_length]; exact hk) |>.1, l[k].2, rfl, ?_, fun h0 => ?_, hr.1, hr.2.1, Nat.le_of_lt ht⟩
  · rcases Nat.eq_zero_or_pos k with rfl | h0
    · rw [nestL_zero]
    · rw [nestL_get n hk h0]
  · rw [nestL_get n hk h0]

end Go.Proofs.Ytgnpcfafdjebeaa.P1
namespace Go.Proofs.Ytgnpcfafdjebeaa
open Go.RowKit P1

theorem LayAt.sub {w : World} {l : List (Int × ByteArray)} {b off : Nat} (h : LayAt w l b off) : ∃ fs, LaySub w (some ⟨b, off, none⟩) l fs := by
  by_cases e : l = []
  · exact ⟨[], .inl ⟨e, rfl⟩⟩
  · exact ⟨[b], .inr ⟨b, off, rfl, e, rfl, h⟩⟩

/-- where a layout that is not empty lies -/
theorem LaySub.at {w : World} {a : Option Addr} {l : List (Int × ByteArray)} {fs : List Nat} (h : LaySub w a l fs) (hl : 0 < l.length) : ∃ b off, a = some ⟨b, off, none⟩ ∧ LayAt w l b off ∧ b < w.heap.size := by
  rcases h with ⟨rfl, _⟩ | ⟨b, off, ha, hn, _, hr⟩
  · simp at hl
  · exact ⟨b, off, ha, hr, hr.lt hn⟩

end Go.Proofs.Ytgnpcfafdjebeaa
