import Derived.StillTailTactics
import Derived.Test.YtjcaiecapapceaaKmX
import Derived.Deep.RegionHeld3
import Derived.Test.YtjcaiecapapceaaText
import Derived.Deep.RegionLaw
import Derived.Deep.AppendLies
import Derived.ArgAppend
import Derived.Deep.QuietTactic
import Derived.Laws.StructEq
import Derived.BigQuiet
/-
 What the law's own helpers that count, copy and compare layouts come to.
-/
set_option linter.unusedVariables false
set_option linter.unusedSimpArgs false
set_option maxRecDepth 100000
set_option maxHeartbeats 1600000
namespace Go.Proofs.Ytjcaiecapapceaa.LayL
open Go.RowKit
theorem ret_bool {a b : Bool} (h : a = b) : Ending.returned (.bool a) = .returned (.bool b) := by rw [h]
def sameR (n : Int) (t : ByteArray) (n' : Int) (t' : ByteArray) : Bool := decide ((n, t) = (n', t'))
theorem same_step {l l' : List (Int × ByteArray)} {k : Nat} (h : k < l.length) (h' : k < l'.length) (e : l.take k = l'.take k) (e' : l[k] = l'[k]) : l.take (k + 1) = l'.take (k + 1) := by
 rw [L.take_succ h, L.take_succ h', e, e']
end Go.Proofs.Ytjcaiecapapceaa.LayL
namespace Go.Proofs.Ytjcaiecapapceaa.LayM
open Go.RowKit P1 MarkT
end Go.Proofs.Ytjcaiecapapceaa.LayM
namespace Go.Proofs.Ytjcaiecapapceaa.LayV
open Go.RowKit P1 TextV
end Go.Proofs.Ytjcaiecapapceaa.LayV
namespace Go.Proofs.Ytjcaiecapapceaa.LayV
open Go.RowKit P1 TextV
end Go.Proofs.Ytjcaiecapapceaa.LayV
namespace Go.Proofs.Ytjcaiecapapceaa.LayN
open Go.RowKit P1 TextV LayL LayV LayM
def LayRes (w : World) (r : List (Int × ByteArray) × Bool) (e : Ending) (w' : World) : Prop := ∃ (a : Option Addr) (cap : Nat) (fs : List Nat), e = .returned (.tuple #[.slice a r.1.length cap, .bool r.2]) ∧ r.1.length ≤ cap ∧ LaySub w' a r.1 fs ∧ Fresh w.heap.size w' fs ∧ Below w.heap.size w w'
end Go.Proofs.Ytjcaiecapapceaa.LayN
namespace Go.Proofs.Ytjcaiecapapceaa.LayN
open Go.RowKit P1 TextV LayL LayV LayM
theorem LayRes.none' {w w' : World} {a : Option Addr} {cap : Nat} (hb : Below w.heap.size w w') : LayRes w ([], false) (.returned (.tuple #[.slice a 0 cap, .bool false])) w' :=
 ⟨a, cap, [], rfl, by simp, .inl ⟨rfl, rfl⟩, Fresh.nil _ _, hb⟩
def cells2 : List (Int × ByteArray) → List Value
 | [] => []
 | r :: l => .int .i64 r.1 :: .string r.2 :: cells2 l
theorem cells2_len (l : List (Int × ByteArray)) : (cells2 l).length = l.length * 2 := by
 induction l with
 | nil => rfl
 | cons r l ih => simp [cells2, ih]; omega
theorem cells2_one (l : List (Int × ByteArray)) : ∀ u ∈ cells2 l, u.oneCell' = true := by
 induction l with
 | nil => simp [cells2]
 | cons r l ih => simp [cells2, Value.oneCell']; exact ih
theorem at_cells2 {w : World} {l : List (Int × ByteArray)} : ∀ {b off : Nat}, (∀ j u, (cells2 l)[j]? = some u → w.cell? ((⟨b, off, none⟩ : Addr).add j) = some u) → LayAt w l b off := by
 induction l with
 | nil => intro b off _; exact LayAt.nil _ _ _
 | cons r l ih =>
   intro b off h
   have h0 := h 0 _ rfl
   have h1 := h 1 _ rfl
   rw [add_at] at h0 h1
   have hr : LayAt w [r] b off := fun i hi => by
    obtain rfl : i = 0 := by simpa using hi
    exact ⟨by simpa using h0, by simpa using h1⟩
   refine hr.app (k := l) (ih fun j u hu => ?_)
   have := h (j + 2) u (by simpa [cells2] using hu)
   rw [add_at] at this ⊢
   rw [show off + [r].length * 2 + j = off + (j + 2) by simp; omega]
   exact this
end Go.Proofs.Ytjcaiecapapceaa.LayN
namespace Go.Proofs.Ytjcaiecapapceaa.LayN
open Go.RowKit P1 TextV LayL LayV LayM
def LayOut (w : World) (X : List (Int × ByteArray)) (ok : Bool) (e : Ending) (w' : World) : Prop := ∃ (a : Option Addr) (cap : Nat) (fs : List Nat), e = .returned (.tuple #[.slice a X.length cap, .bool ok]) ∧ X.length ≤ cap ∧ LaySub w' a X fs ∧ Fresh w.heap.size w' fs ∧ Below w.heap.size w w'
theorem LayRes.out {w w' : World} {X : List (Int × ByteArray)} {ok : Bool} {e : Ending} (h : LayRes w (X, ok) e w') : LayOut w X ok e w' := h
end Go.Proofs.Ytjcaiecapapceaa.LayN
namespace Go.Proofs.Ytjcaiecapapceaa.LayC
open Go.RowKit P1 TextV LayL LayV LayM LayN
theorem cells2_app (l k : List (Int × ByteArray)) : cells2 (l ++ k) = cells2 l ++ cells2 k := by
 induction l with
 | nil => rfl
 | cons r l ih => simp [cells2, ih]
end Go.Proofs.Ytjcaiecapapceaa.LayC
namespace Go.Proofs.Ytjcaiecapapceaa.LayC
open Go.RowKit P1 TextV LayL LayV LayM LayN
end Go.Proofs.Ytjcaiecapapceaa.LayC
namespace Go.Proofs.Ytjcaiecapapceaa.LaySm
open Go.RowKit LayL
theorem rows_struct : Try.prog.underlying 68 = some (.struct (Try.prog.fieldsOf 68)) := by kernel_rfl
theorem rows_held : Try.prog.stoodInHeld 68 = false := by kernel_rfl
theorem sameR_eq (n n' : Int) (t t' : ByteArray) : sameR n t n' t' = (n == n' && t.toList == t'.toList) := by
 by_cases h1 : n = n'
 ·by_cases h2 : t = t'
  ·subst h1 h2; simp [sameR]
  ·have := bytes_ne h2
   simp [sameR, h1, h2, this]
 ·simp [sameR, h1]
theorem row_eq (n n' : Int) (t t' : ByteArray) (w : World) : (Op.equalIn 10000 68 (.agg #[.int .i64 n, .string t]) (.agg #[.int .i64 n', .string t'])).run Try.prog w = .ok (sameR n t n' t') w := by
 rw [show (10000 : Nat) = 9999 + 1 from rfl, run_equalIn_agg w 9999 _ _ _ rows_struct rows_held]
 simp only [Program.fieldsOf, Try.underlying68]
 go_simp
 rw [sameR_eq]
 by_cases h1 : n = n' <;> simp [h1]
 by_cases h2 : t.toList = t'.toList <;> simp [h2]
theorem below_drewN {B : Nat} {a w : World} (h : Below B a w) (n : Nat) : Below B a (w.drewN n) := by
 induction n with
 | zero => exact h
 | succ n ih => exact ih.drew
theorem specLayoutSame (l l' : List (Int × ByteArray)) (w : World) (a : Option Addr) (cap : Nat) (fs : List Nat) (hs : LaySub w a l fs) (a' : Option Addr) (cap' : Nat) (fs' : List Nat) (hs' : LaySub w a' l' fs') (hc : l.length ≤ cap) (hc' : l'.length ≤ cap') (hl : l.length ≤ maxLen) (hl' : l'.length ≤ maxLen) :
  Calls Try.prog 92 #[.slice a l.length cap, .slice a' l'.length cap'] w fun e w' => e = .returned (.bool (decide (l = l'))) ∧ Below w.heap.size w w' := by
 by_cases hlen : l.length = l'.length
 ·have HR := Lib.hid (show ∀ k, (h : k < l.length) → ∃ b off, a = some ⟨b, off, none⟩ ∧ b < w.heap.size ∧ LayAt w l b off from fun k h => by
   rcases hs with ⟨rfl, _⟩ | ⟨b, off, ha, hn, _, hr⟩
   ·simp at h
   ·exact ⟨b, off, ha, hr.lt hn, hr⟩)
  have HR' := Lib.hid (show ∀ k, (h : k < l'.length) → ∃ b off, a' = some ⟨b, off, none⟩ ∧ b < w.heap.size ∧ LayAt w l' b off from fun k h => by
   rcases hs' with ⟨rfl, _⟩ | ⟨b, off, ha, hn, _, hr⟩
   ·simp at h
   ·exact ⟨b, off, ha, hr.lt hn, hr⟩)
  obtain ⟨m, hm⟩ : ∃ m, l.length = m := ⟨_, rfl⟩
  have hm' : l'.length = m := by rw [← hlen, hm]
  have HM := Lib.hid (And.intro hm hm')
  rw [hm] at hc hl ⊢
  rw [hm'] at hc' hl' ⊢
  have hmm : ((m : Int) != (m : Int)) = false := by simp
  clear hm hm' hs hs' hlen hl'
  unfold maxLen at hl
  go_enter Try.func92, Try.ntmps92
  go_wp2_with fail
  go_loopw [5] (fun i wr => ∃ k : Nat, k ≤ m ∧ i = .int .i64 k ∧ Hid (l.take k = l'.take k) ∧ Below w.heap.size w wr) (fun i _ => m - (intOf i).toNat)
  case atStart => exact ⟨0, by omega, rfl, Lib.hid rfl, Below.refl _ _⟩
  case round =>
   obtain ⟨k, hk, rfl, HE, hbw⟩ := hrel
   by_cases hkm : k < m
   ·have hkl : k < l.length := by rw [HM.out.1]; exact hkm
    have hkl' : k < l'.length := by rw [HM.out.2]; exact hkm
    obtain ⟨b, off, rfl, hb, hrow⟩ := HR.out k hkl
    obtain ⟨b', off', rfl, hb', hrow'⟩ := HR'.out k hkl'
    obtain ⟨c0, c1⟩ := (hrow.below hb hbw) k hkl
    obtain ⟨d0, d1⟩ := (hrow'.below hb' hbw) k hkl'
    obtain ⟨⟨n, t⟩, hnt⟩ : ∃ r, l[k] = r := ⟨_, rfl⟩
    obtain ⟨⟨n', t'⟩, hnt'⟩ : ∃ r, l'[k] = r := ⟨_, rfl⟩
    rw [hnt] at c0 c1
    rw [hnt'] at d0 d1
    have HN := Lib.hid (And.intro hnt hnt')
    have i0 : (0 : Int) ≤ (k : Int) := Int.natCast_nonneg _
    have i1 : (k : Int) < (m : Int) := by omega
    clear hrow hrow' hnt hnt'
    cases hsd : sameR n t n' t' with
    | true =>
      have hq := fun W => row_eq n n' t t' W
      rw [hsd] at hq
      have HSD := Lib.hid hsd
      clear hsd
      go_wp2_with fail
      go_quiet (skip)
      go_wp2_with fail
      go_roundw
      case rel =>
       have e1 := HSD.out
       simp only [sameR, decide_eq_true_eq] at e1
       exact ⟨k + 1, by omega, by go_num, Lib.hid (same_step hkl hkl' HE.out (by rw [HN.out.1, HN.out.2, e1])), below_drewN hbw _⟩
      case measure => simp [intOf]; omega
    | false =>
      have hq := fun W => row_eq n n' t t' W
      rw [hsd] at hq
      have HSD := Lib.hid hsd
      clear hsd
      go_wp2_with fail
      go_quiet (skip)
      go_wp2_with fail
      go_ret
      refine ⟨ret_bool ?_, below_drewN hbw _⟩
      have e1 := HSD.out
      simp only [sameR, decide_eq_false_iff_not] at e1
      symm
      rw [decide_eq_false_iff_not]
      intro e
      subst e
      exact e1 (by rw [← HN.out.1, ← HN.out.2])
   ·go_wp2_with fail
    go_ret
    refine ⟨ret_bool ?_, hbw⟩
    have e1 := HE.out
    rw [List.take_of_length_le (by have := HM.out.1; omega), List.take_of_length_le (by have := HM.out.2; omega)] at e1
    subst e1
    simp
 ·have hne : l ≠ l' := fun e => hlen (by rw [e])
  have HN := Lib.hid (show decide (l = l') = false by simp [hne])
  obtain ⟨m, hm⟩ : ∃ m, l.length = m := ⟨_, rfl⟩
  obtain ⟨m', hm'⟩ : ∃ m', l'.length = m' := ⟨_, rfl⟩
  rw [hm, hm'] at hlen
  rw [hm] at hl ⊢
  rw [hm'] at hl' ⊢
  unfold maxLen at hl hl'
  have hb : ((m : Int) != (m' : Int)) = true := by simp; omega
  clear hm hm' hne hs hs' hc hc'
  go_enter Try.func92, Try.ntmps92
  go_wp2_with fail
  go_ret
  exact ⟨ret_bool HN.out.symm, Below.refl _ _⟩
theorem slicesEqual (l l' : List (Int × ByteArray)) (w : World) (a : Option Addr) (cap : Nat) (fs : List Nat) (hs : LaySub w a l fs) (a' : Option Addr) (cap' : Nat) (fs' : List Nat) (hs' : LaySub w a' l' fs') (hc : l.length ≤ cap) (hc' : l'.length ≤ cap') (hl : l.length ≤ maxLen) (hl' : l'.length ≤ maxLen) :
  Calls Try.prog 36 #[.slice a l.length cap, .slice a' l'.length cap'] w fun e w' => e = .returned (.bool (decide (l = l'))) ∧ Below w.heap.size w w' := by
 by_cases hlen : l.length = l'.length
 ·have HR := Lib.hid (show ∀ k, (h : k < l.length) → ∃ b off, a = some ⟨b, off, none⟩ ∧ b < w.heap.size ∧ LayAt w l b off from fun k h => by
   rcases hs with ⟨rfl, _⟩ | ⟨b, off, ha, hn, _, hr⟩
   ·simp at h
   ·exact ⟨b, off, ha, hr.lt hn, hr⟩)
  have HR' := Lib.hid (show ∀ k, (h : k < l'.length) → ∃ b off, a' = some ⟨b, off, none⟩ ∧ b < w.heap.size ∧ LayAt w l' b off from fun k h => by
   rcases hs' with ⟨rfl, _⟩ | ⟨b, off, ha, hn, _, hr⟩
   ·simp at h
   ·exact ⟨b, off, ha, hr.lt hn, hr⟩)
  obtain ⟨m, hm⟩ : ∃ m, l.length = m := ⟨_, rfl⟩
  have hm' : l'.length = m := by rw [← hlen, hm]
  have HM := Lib.hid (And.intro hm hm')
  rw [hm] at hc hl ⊢
  rw [hm'] at hc' hl' ⊢
  have hmm : ((m : Int) != (m : Int)) = false := by simp
  clear hm hm' hs hs' hlen hl'
  unfold maxLen at hl
  go_enter Try.func36, Try.ntmps36
  go_wp2_with fail
  go_loopw [13] (fun i wr => ∃ k : Nat, k ≤ m ∧ i = .int .i64 k ∧ Hid (l.take k = l'.take k) ∧ Below w.heap.size w wr) (fun i _ => m - (intOf i).toNat)
  case atStart => exact ⟨0, by omega, rfl, Lib.hid rfl, Below.refl _ _⟩
  case round =>
   obtain ⟨k, hk, rfl, HE, hbw⟩ := hrel
   by_cases hkm : k < m
   ·have hkl : k < l.length := by rw [HM.out.1]; exact hkm
    have hkl' : k < l'.length := by rw [HM.out.2]; exact hkm
    obtain ⟨b, off, rfl, hb, hrow⟩ := HR.out k hkl
    obtain ⟨b', off', rfl, hb', hrow'⟩ := HR'.out k hkl'
    obtain ⟨c0, c1⟩ := (hrow.below hb hbw) k hkl
    obtain ⟨d0, d1⟩ := (hrow'.below hb' hbw) k hkl'
    obtain ⟨⟨n, t⟩, hnt⟩ : ∃ r, l[k] = r := ⟨_, rfl⟩
    obtain ⟨⟨n', t'⟩, hnt'⟩ : ∃ r, l'[k] = r := ⟨_, rfl⟩
    rw [hnt] at c0 c1
    rw [hnt'] at d0 d1
    have HN := Lib.hid (And.intro hnt hnt')
    have i0 : (0 : Int) ≤ (k : Int) := Int.natCast_nonneg _
    have i1 : (k : Int) < (m : Int) := by omega
    clear hrow hrow' hnt hnt'
    cases hsd : sameR n t n' t' with
    | true =>
      have hq := fun W => row_eq n n' t t' W
      rw [hsd] at hq
      have HSD := Lib.hid hsd
      clear hsd
      go_wp2_with fail
      go_quiet (skip)
      go_wp2_with fail
      go_roundw
      case rel =>
       have e1 := HSD.out
       simp only [sameR, decide_eq_true_eq] at e1
       exact ⟨k + 1, by omega, by go_num, Lib.hid (same_step hkl hkl' HE.out (by rw [HN.out.1, HN.out.2, e1])), below_drewN hbw _⟩
      case measure => simp [intOf]; omega
    | false =>
      have hq := fun W => row_eq n n' t t' W
      rw [hsd] at hq
      have HSD := Lib.hid hsd
      clear hsd
      go_wp2_with fail
      go_quiet (skip)
      go_wp2_with fail
      go_ret
      refine ⟨ret_bool ?_, below_drewN hbw _⟩
      have e1 := HSD.out
      simp only [sameR, decide_eq_false_iff_not] at e1
      symm
      rw [decide_eq_false_iff_not]
      intro e
      subst e
      exact e1 (by rw [← HN.out.1, ← HN.out.2])
   ·go_wp2_with fail
    go_ret
    refine ⟨ret_bool ?_, hbw⟩
    have e1 := HE.out
    rw [List.take_of_length_le (by have := HM.out.1; omega), List.take_of_length_le (by have := HM.out.2; omega)] at e1
    subst e1
    simp
 ·have hne : l ≠ l' := fun e => hlen (by rw [e])
  have HN := Lib.hid (show decide (l = l') = false by simp [hne])
  obtain ⟨m, hm⟩ : ∃ m, l.length = m := ⟨_, rfl⟩
  obtain ⟨m', hm'⟩ : ∃ m', l'.length = m' := ⟨_, rfl⟩
  rw [hm, hm'] at hlen
  rw [hm] at hl ⊢
  rw [hm'] at hl' ⊢
  unfold maxLen at hl hl'
  have hb : ((m : Int) != (m' : Int)) = true := by simp; omega
  clear hm hm' hne hs hs' hc hc'
  go_enter Try.func36, Try.ntmps36
  go_wp2_with fail
  go_ret
  exact ⟨ret_bool HN.out.symm, Below.refl _ _⟩
set_option maxHeartbeats 400000 in
theorem implLayoutSame (l l' : List (Int × ByteArray)) (w : World) (a : Option Addr) (cap : Nat) (fs : List Nat) (hs : LaySub w a l fs) (a' : Option Addr) (cap' : Nat) (fs' : List Nat) (hs' : LaySub w a' l' fs') (hc : l.length ≤ cap) (hc' : l'.length ≤ cap') (hl : l.length ≤ maxLen) (hl' : l'.length ≤ maxLen) :
  Calls Try.prog 11 #[.slice a l.length cap, .slice a' l'.length cap'] w fun e w' => e = .returned (.bool (decide (l = l'))) ∧ Below w.heap.size w w' := by
 have H := Lib.hid (slicesEqual l l' w a cap fs hs a' cap' fs' hs' hc hc' hl hl')
 clear hs hs' hc hc' hl hl'
 go_enter Try.func11, Try.ntmps11
 go_wp2_with fail
 refine H.out.mono ?_
 rintro e w1 ⟨rfl, hb1⟩
 have HB := Lib.hid hb1
 clear hb1
 go_wp2_with fail
 go_ret
 exact ⟨rfl, HB.out⟩
end Go.Proofs.Ytjcaiecapapceaa.LaySm
