import Derived.Test.YtlhdoifjhoocfaaDrX
import Derived.Deep.RegionHeld3
/-
  What the model's l1Bend comes to: some text that is not longer than both together.
-/
namespace Go.Proofs.Ytlhdoifjhoocfaa.Draw7
open Go.RowKit Draw Draw2 Draw6
set_option linter.unusedVariables false
set_option linter.unusedSimpArgs false

/-- some text of at most m bytes, at most four numbers more drawn -/
def BendOut (w : World) (x lo p m : Nat) (e : Ending) (w' : World) : Prop := ∃ (r : ByteArray) (q : Nat), e = .returned (.string r) ∧ r.size ≤ m ∧ Rd w' x lo q ∧ q ≤ p + 4 ∧ But w.heap.size x w w'

theorem ofL (w w2 : World) (x lo p b off cap L : Nat) (xs : List ByteArray) (hrd : Rd w2 x lo p) (hp : p ≤ 1073741824) (hx : Strs w b off xs) (hL : xs.length = L) (h0 : 0 < L) (hcap : L ≤ cap) (hm : L ≤ 1000) (hb : b < w.heap.size) (hbx : b ≠ x) (hbut : But w.heap.size x w w2) :
    Calls Try.prog 20 #[.pointer (some ⟨x, 0, none⟩), .slice (some ⟨b, off, none⟩) L cap] w2 (OfOut w2 x lo p xs) := by
  subst hL
  exact Draw.of w2 x lo p b off cap xs hrd hp (fun i hi => by rw [hbut.cell hb hbx]; exact hx i hi) h0 hcap hm (Nat.lt_of_lt_of_le hb hbut.size) hbx

theorem sum1 (s r : ByteArray) (k : Nat) (hs : s.size ≤ 1000000) (hr : r.size ≤ 12) : ¬ (9223372036854775807 < (s.extract 0 k).size + r.size) := by rw [ByteArray.size_extract]; omega
theorem sum2 (s r : ByteArray) (k : Nat) (j : Int) (hs : s.size ≤ 1000000) (hr : r.size ≤ 12) : ¬ (9223372036854775807 < (s.extract 0 k ++ r).size + (s.extract ((k : Int) + j).toNat s.size).size) := by rw [ByteArray.size_append, ByteArray.size_extract, ByteArray.size_extract]; omega
theorem sum1' (s r : ByteArray) (k : Nat) (hs : s.size ≤ 1000000) (hr : r.size ≤ 12) : ¬ (9223372036854775807 < min k s.size + r.size) := by omega
theorem sum2' (s r : ByteArray) (k : Nat) (j : Int) (hs : s.size ≤ 1000000) (hr : r.size ≤ 12) : ¬ (9223372036854775807 < min k s.size + r.size + (s.size - ((k : Int) + j).toNat)) := by omega
theorem wrap_id {x : Int} (h0 : 0 ≤ x) (h1 : x ≤ 1000000000) : IntKind.i64.wrap x = x := by rw [IntKind.wrap_i64]; omega

set_option maxRecDepth 100000 in
set_option maxHeartbeats 1600000 in
theorem l1Bend (w : World) (x lo p b off cap : Nat) (s : ByteArray) (xs : List ByteArray) (hrd : Rd w x lo p) (hp : p + 4 ≤ 1073741824) (hx : Strs w b off xs) (h0 : 0 < xs.length) (hcap : xs.length ≤ cap) (hm : xs.length ≤ 1000) (hb : b < w.heap.size) (hbx : b ≠ x) (hxw : x < w.heap.size) (hs : s.size ≤ 1000000) (hz : ∀ r ∈ xs, r.size ≤ 12) :
    Calls Try.prog 10 #[.pointer (some ⟨x, 0, none⟩), .string s, .slice (some ⟨b, off, none⟩) xs.length cap] w (BendOut w x lo p (s.size + 12)) := by
  have HP1 := Lib.hid (pick w x lo p 2 hrd (by omega))
  obtain ⟨L, hL⟩ : ∃ L, xs.length = L := ⟨_, rfl⟩
  have HX := Lib.hid (And.intro hx (And.intro hL hz))
  rw [hL] at h0 hcap hm ⊢
  clear hx hL hz
  by_cases hs0 : s.size = 0
  · have q0 : ((s.size : Int) == 0) = true := by rw [beq_iff_eq]; omega
    go_enter Try.func10, Try.ntmps10
    go_wp2_with fail
    go_ret
    exact ⟨s, p, rfl, by omega, hrd, by omega, But.refl _ _ _⟩
  · have q0 : ((s.size : Int) == 0) = false := by rw [beq_eq_false_iff_ne]; omega
    have HRD := Lib.hid hrd
    clear hrd
    go_enter Try.func10, Try.ntmps10
    go_wp2_with fail
    refine HP1.out.mono ?_
    rintro e1 w1 ⟨r, rfl, hr0, hr1, hrd1, hbut1⟩
    have hr : r = 0 ∨ r = 1 := by omega
    have HB1 := Lib.hid (And.intro hrd1 hbut1)
    clear hr0 hr1 hrd1 hbut1
    rcases hr with rfl | rfl
    · go_wp2_with fail
      go_ret
      exact ⟨s, p + 1, rfl, by omega, HB1.out.1, by omega, HB1.out.2⟩
    · go_wp2_with fail
      refine (pick w1 x lo (p + 1) s.size HB1.out.1 (by omega)).mono ?_
      rintro e2 w2 ⟨k, rfl, hk0, hk1, hrd2, hbut2⟩
      obtain ⟨k, rfl⟩ := Int.eq_ofNat_of_zero_le hk0
      have hks : k < s.size := by omega
      have HB2 := Lib.hid (And.intro hrd2 (HB1.out.2.trans (hbut2.mono HB1.out.2.size)))
      have i1 : (k : Int) ≤ (s.size : Int) := by omega
      have i0 : (0 : Int) ≤ (k : Int) := by omega
      obtain ⟨u, hu, hus⟩ : ∃ u : ByteArray, u = s.extract 0 k ∧ u.size ≤ 1000000 := ⟨_, rfl, by rw [ByteArray.size_extract]; omega⟩
      clear hk1 hrd2 hbut2
      go_wp2_with fail
      go_region_held3 (fun w' => True)
        (first | trivial | go_keep)
        (first
          | (go_at_call 20; refine (ofL w _ x lo (p + 1 + 1) b off cap L xs (by exact HB2.out.1) (by omega) HX.out.1 HX.out.2.1 h0 hcap hm hb hbx (by first | exact HB2.out.2 | exact HB2.out.2.drew)).mono ?_; rintro e3 w3 ⟨r3, hmem, rfl, hrd3, hbut3⟩; (have hr3 : r3.size ≤ 12 := HX.out.2.2 r3 hmem); have q3 := sum1 s r3 k hs hr3; have q3' := sum1' s r3 k hs hr3)
          | (go_at_call 19; refine (pick _ x lo (p + 1 + 1 + 1) 2 (by exact hrd3) (by omega)).mono ?_; rintro e4 w4 ⟨r4, rfl, hr40, hr41, hrd4, hbut4⟩; have q4 := sum2 s r3 k r4 hs hr3; have q5 : IntKind.i64.wrap ((k : Int) + r4) = (k : Int) + r4 := wrap_id (by omega) (by omega); have q6 : (k : Int) + r4 ≤ (s.size : Int) := (by omega); have q7 : 0 ≤ (k : Int) + r4 := (by omega); have q8 := sum2' s r3 k r4 hs hr3))
      go_wp2_with fail
      go_ret
      refine ⟨_, _, rfl, ?_, hrd4, by omega, HB2.out.2.drew.trans ((hbut3.trans (hbut4.mono hbut3.size)).mono HB2.out.2.size)⟩
      rw [ByteArray.size_append, ByteArray.size_append, ByteArray.size_extract, ByteArray.size_extract]
      omega

end Go.Proofs.Ytlhdoifjhoocfaa.Draw7

