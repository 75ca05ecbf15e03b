import Derived.Test.YtcpbhkgdeaanmaaLyA
import Derived.ArgAppend
import Derived.Deep.QuietTactic
import Derived.Laws.StructEq
import Derived.BigQuiet
/-
  What CatLayouts of the program and of the model come to: the joining of two layouts.
-/
set_option linter.unusedVariables false
set_option linter.unusedSimpArgs false
namespace Go.Proofs.Ytcpbhkgdeaanmaa.LayC
open Go.RowKit P1 TextV LayL LayV LayM LayN

structure Own (w : World) (l : List (Int × ByteArray)) (g cap lo : Nat) : Prop where
  row : LayAt w l g 0
  th : w.there g 0 (cap * 2)
  le : l.length ≤ cap
  lo_le : lo ≤ g
  lt : g < w.heap.size
  fz : ∀ o, w.frozen? ⟨g, o, none⟩ = false
theorem Own.below {w w' : World} {l : List (Int × ByteArray)} {g cap lo : Nat} (h : Own w l g cap lo) (k : Below w.heap.size w w') : Own w' l g cap lo :=
  ⟨h.row.below h.lt k, there_below h.th h.lt k, h.le, h.lo_le, Nat.lt_of_lt_of_le h.lt k.size, fun o => (k.frozen (p := ⟨g, o, none⟩) h.lt).trans (h.fz o)⟩
theorem Own.drew {w : World} {l : List (Int × ByteArray)} {g cap lo : Nat} (h : Own w l g cap lo) : Own w.drew l g cap lo := h.below (Below.refl _ _).drew
theorem Own.only {gs : List Nat} {w w' : World} {l : List (Int × ByteArray)} {g cap lo : Nat} (h : Own w l g cap lo) (k : Only gs w w') (hg : g ∉ gs) : Own w' l g cap lo :=
  ⟨h.row.congr fun o _ _ => k.cell h.lt hg o, fun j hj => ⟨by rw [k.cell h.lt hg]; exact (h.th j hj).1, by rw [k.frozen h.lt]; exact (h.th j hj).2⟩, h.le, h.lo_le, Nat.lt_of_lt_of_le h.lt k.size, fun o => (k.frozen h.lt o).trans (h.fz o)⟩
end Go.Proofs.Ytcpbhkgdeaanmaa.LayC

/-
  What CatLayouts of the program and of the model come to: the model's joining, and the results.
-/
set_option linter.unusedVariables false
set_option linter.unusedSimpArgs false
namespace Go.Proofs.Ytcpbhkgdeaanmaa.LayC
open Go.RowKit P1 TextV LayL LayV LayM LayN
theorem cat_fits {la lb : List (Int × ByteArray)} (ha : lv la = true) (hb : lv lb = true) : L.Fits (catL la lb) ∧ (catL la lb).length ≤ 400 ∧ 0 < (catL la lb).length := by
  have hla := lv_len ha
  have hlb := lv_len hb
  have h1 := lv_small ha
  have h2 := lv_small hb
  rw [catL_set (by omega) (by omega)]
  refine ⟨fun r hr => ?_, by simp; omega, by simp; omega⟩
  unfold maxLen
  rcases List.mem_append.1 hr with hr | hr
  · obtain ⟨i, hi, rfl⟩ := List.getElem_of_mem hr
    rw [List.getElem_set]
    split
    · have := h1 (la.length - 1) (by omega)
      have := h2 0 (by omega)
      simp only [ByteArray.size_append]; omega
    · have := h1 i (by simpa using hi); omega
  · obtain ⟨i, hi, rfl⟩ := List.getElem_of_mem (List.mem_of_mem_drop hr)
    have := h2 i hi; omega
end Go.Proofs.Ytcpbhkgdeaanmaa.LayC

/-
  What LayoutSame of the program and of the model come to.
-/
set_option linter.unusedVariables false
set_option linter.unusedSimpArgs false
namespace Go.Proofs.Ytcpbhkgdeaanmaa.LaySm
open Go.RowKit LayL

theorem rows_struct : Try.prog.underlying 84 = some (.struct (Try.prog.fieldsOf 84)) := by kernel_rfl
theorem rows_held : Try.prog.stoodInHeld 84 = false := by kernel_rfl
theorem sameR_eq (n n' : Int) (t t' : ByteArray) : sameR n t n' t' = (n == n' && t.toList == t'.toList) := by
  by_cases h1 : n = n'
  · by_cases h2 : t = t'
    · subst h1 h2; simp [sameR]
    · have := bytes_ne h2
      simp [sameR, h1, h2, this]
  · simp [sameR, h1]

set_option maxRecDepth 100000 in
theorem row_eq (n n' : Int) (t t' : ByteArray) (w : World) : (Op.equalIn 10000 84 (.agg #[.int .i64 n, .string t]) (.agg #[.int .i64 n', .string t'])).run Try.prog w = .ok (sameR n t n' t') w := by
  rw [show (10000 : Nat) = 9999 + 1 from rfl, run_equalIn_agg w 9999 _ _ _ rows_struct rows_held]
  simp only [Program.fieldsOf, Try.underlying84]
  go_simp
  rw [sameR_eq]
  by_cases h1 : n = n' <;> simp [h1]
  by_cases h2 : t.toList = t'.toList <;> simp [h2]

theorem below_drewN {B : Nat} {a w : World} (h : Below B a w) (n : Nat) : Below B a (w.drewN n) := by
  induction n with
  | zero => exact h
  | succ n ih => exact ih.drew

set_option maxRecDepth 100000 in
set_option maxHeartbeats 1600000 in
theorem slicesEqual (l l' : List (Int × ByteArray)) (w : World) (a : Option Addr) (cap : Nat) (fs : List Nat) (hs : LaySub w a l fs) (a' : Option Addr) (cap' : Nat) (fs' : List Nat) (hs' : LaySub w a' l' fs') (hc : l.length ≤ cap) (hc' : l'.length ≤ cap') (hl : l.length ≤ maxLen) (hl' : l'.length ≤ maxLen) :
    Calls Try.prog 66 #[.slice a l.length cap, .slice a' l'.length cap'] w fun e w' => e = .returned (.bool (decide (l = l'))) ∧ Below w.heap.size w w' := by
  by_cases hlen : l.length = l'.length
  · have HR := Lib.hid (show ∀ k, (h : k < l.length) → ∃ b off, a = some ⟨b, off, none⟩ ∧ b < w.heap.size ∧ LayAt w l b off from fun k h => by
      rcases hs with ⟨rfl, _⟩ | ⟨b, off, ha, hn, _, hr⟩
      · simp at h
      · exact ⟨b, off, ha, hr.lt hn, hr⟩)
    have HR' := Lib.hid (show ∀ k, (h : k < l'.length) → ∃ b off, a' = some ⟨b, off, none⟩ ∧ b < w.heap.size ∧ LayAt w l' b off from fun k h => by
      rcases hs' with ⟨rfl, _⟩ | ⟨b, off, ha, hn, _, hr⟩
      · simp at h
      · exact ⟨b, off, ha, hr.lt hn, hr⟩)
    obtain ⟨m, hm⟩ : ∃ m, l.length = m := ⟨_, rfl⟩
    have hm' : l'.length = m := by rw [← hlen, hm]
    have HM := Lib.hid (And.intro hm hm')
    rw [hm] at hc hl ⊢
    rw [hm'] at hc' hl' ⊢
    have hmm : ((m : Int) != (m : Int)) = false := by simp
    clear hm hm' hs hs' hlen hl'
    unfold maxLen at hl
    go_enter Try.func66, Try.ntmps66
    go_wp2_with fail
    go_loopw [13] (fun i wr => ∃ k : Nat, k ≤ m ∧ i = .int .i64 k ∧ Hid (l.take k = l'.take k) ∧ Below w.heap.size w wr) (fun i _ => m - (intOf i).toNat)
    case atStart => exact ⟨0, by omega, rfl, Lib.hid rfl, Below.refl _ _⟩
    case round =>
      obtain ⟨k, hk, rfl, HE, hbw⟩ := hrel
      by_cases hkm : k < m
      · have hkl : k < l.length := by rw [HM.out.1]; exact hkm
        have hkl' : k < l'.length := by rw [HM.out.2]; exact hkm
        obtain ⟨b, off, rfl, hb, hrow⟩ := HR.out k hkl
        obtain ⟨b', off', rfl, hb', hrow'⟩ := HR'.out k hkl'
        obtain ⟨c0, c1⟩ := (hrow.below hb hbw) k hkl
        obtain ⟨d0, d1⟩ := (hrow'.below hb' hbw) k hkl'
        obtain ⟨⟨n, t⟩, hnt⟩ : ∃ r, l[k] = r := ⟨_, rfl⟩
        obtain ⟨⟨n', t'⟩, hnt'⟩ : ∃ r, l'[k] = r := ⟨_, rfl⟩
        rw [hnt] at c0 c1
        rw [hnt'] at d0 d1
        have HN := Lib.hid (And.intro hnt hnt')
        have i0 : (0 : Int) ≤ (k : Int) := Int.natCast_nonneg _
        have i1 : (k : Int) < (m : Int) := by omega
        clear hrow hrow' hnt hnt'
        cases hsd : sameR n t n' t' with
        | true =>
          have hq := fun W => row_eq n n' t t' W
          rw [hsd] at hq
          have HSD := Lib.hid hsd
          clear hsd
          go_wp2_with fail
          go_quiet (skip)
          go_wp2_with fail
          go_roundw
          case rel =>
            have e1 := HSD.out
            simp only [sameR, decide_eq_true_eq] at e1
            exact ⟨k + 1, by omega, by go_num, Lib.hid (same_step hkl hkl' HE.out (by rw [HN.out.1, HN.out.2, e1])), below_drewN hbw _⟩
          case measure => simp [intOf]; omega
        | false =>
          have hq := fun W => row_eq n n' t t' W
          rw [hsd] at hq
          have HSD := Lib.hid hsd
          clear hsd
          go_wp2_with fail
          go_quiet (skip)
          go_wp2_with fail
          go_ret
          refine ⟨ret_bool ?_, below_drewN hbw _⟩
          have e1 := HSD.out
          simp only [sameR, decide_eq_false_iff_not] at e1
          symm
          rw [decide_eq_false_iff_not]
          intro e
          subst e
          exact e1 (by rw [← HN.out.1, ← HN.out.2])
      · go_wp2_with fail
        go_ret
        refine ⟨ret_bool ?_, hbw⟩
        have e1 := HE.out
        rw [List.take_of_length_le (by have := HM.out.1; omega), List.take_of_length_le (by have := HM.out.2; omega)] at e1
        subst e1
        simp
  · have hne : l ≠ l' := fun e => hlen (by rw [e])
    have HN := Lib.hid (show decide (l = l') = false by simp [hne])
    obtain ⟨m, hm⟩ : ∃ m, l.length = m := ⟨_, rfl⟩
    obtain ⟨m', hm'⟩ : ∃ m', l'.length = m' := ⟨_, rfl⟩
    rw [hm, hm'] at hlen
    rw [hm] at hl ⊢
    rw [hm'] at hl' ⊢
    unfold maxLen at hl hl'
    have hb : ((m : Int) != (m' : Int)) = true := by simp; omega
    clear hm hm' hne hs hs' hc hc'
    go_enter Try.func66, Try.ntmps66
    go_wp2_with fail
    go_ret
    exact ⟨ret_bool HN.out.symm, Below.refl _ _⟩

set_option maxHeartbeats 400000 in
theorem implLayoutSame (l l' : List (Int × ByteArray)) (w : World) (a : Option Addr) (cap : Nat) (fs : List Nat) (hs : LaySub w a l fs) (a' : Option Addr) (cap' : Nat) (fs' : List Nat) (hs' : LaySub w a' l' fs') (hc : l.length ≤ cap) (hc' : l'.length ≤ cap') (hl : l.length ≤ maxLen) (hl' : l'.length ≤ maxLen) :
    Calls Try.prog 28 #[.slice a l.length cap, .slice a' l'.length cap'] w fun e w' => e = .returned (.bool (decide (l = l'))) ∧ Below w.heap.size w w' := by
  have H := Lib.hid (slicesEqual l l' w a cap fs hs a' cap' fs' hs' hc hc' hl hl')
  clear hs hs' hc hc' hl hl'
  go_enter Try.func28, Try.ntmps28
  go_wp2_with fail
  refine H.out.mono ?_
  rintro e w1 ⟨rfl, hb1⟩
  have HB := Lib.hid hb1
  clear hb1
  go_wp2_with fail
  go_ret
  exact ⟨rfl, HB.out⟩

end Go.Proofs.Ytcpbhkgdeaanmaa.LaySm

