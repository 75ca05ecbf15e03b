import Derived.Test.YtcealfjkcbaelaaTkEf
import Derived.Test.YtcealfjkcbaelaaTkX
import Derived.Test.YtcealfjkcbaelaaTkB
import Derived.Test.YtcealfjkcbaelaaDrZ
import Derived.Test.YtcealfjkcbaelaaFacts
import Derived.Test.YtcealfjkcbaelaaRows
/-
  Lookahead is bounded: the law FnLookAhead returns true for whatever draws, and its argument reads as it did. No condition of ours.
-/
set_option linter.unusedVariables false
set_option linter.unusedSimpArgs false
namespace Go.Proofs.Ytcealfjkcbaelaa.lawLookAheadD
open Go.ChangeShapes Go.WideShapes Go.ChangeAt Go.RowKit P1 Draw6 LawC Tk

/-- the groups among some tokens -/
def grps (l : List Tok) : Nat := (l.filter fun r => r.1 == 5).length
theorem grps_take {l : List Tok} {j : Nat} (h : j < l.length) : grps (l.take (j + 1)) = grps (l.take j) + (if l[j].1 = 5 then 1 else 0) := by
  unfold grps
  rw [List.take_succ_eq_append_getElem h, List.filter_append, List.length_append]
  congr 1
  by_cases h5 : l[j].1 = 5
  · simp [h5]
  · simp [h5]
theorem grps_le (l : List Tok) : grps l ≤ l.length := List.length_filter_le _ _
theorem grps_pos (l : List Tok) : 0 < grps l ↔ 0 < mxA l := by
  rw [mxA_pos]
  unfold grps
  rw [List.length_pos_iff_exists_mem]
  constructor
  · rintro ⟨r, hr⟩
    rw [List.mem_filter] at hr
    exact ⟨r, hr.1, by simpa using hr.2⟩
  · rintro ⟨r, hr, h5⟩
    exact ⟨r, List.mem_filter.2 ⟨hr, by simpa using h5⟩⟩

set_option maxRecDepth 100000 in
set_option maxHeartbeats 6400000 in
theorem walk_good (w : World) (a0 : Option Addr) (len0 cap0 : Nat) (hb0 : Bytes w a0 len0) (hlc0 : len0 ≤ cap0) (hcm0 : cap0 ≤ maxLen) (hl0 : len0 ≤ 1048576) :
    Calls Try.prog 7 #[.slice a0 len0 cap0] w fun e w' => e = .returned (.bool true) ∧ Ext w w' := by
  have HD0 := Lib.hid (Tk.drawLookAhead w a0 len0 cap0 hb0 hlc0 hcm0)
  clear hb0
  unfold maxLen at hcm0
  go_enter Try.func7, Try.ntmps7
  go_wp2_with fail
  refine HD0.out.mono ?_
  rintro e1 w1 ⟨X, a, cap, fs, op, rfl, hop, hc, hl, ht, hs, hf, hb1⟩
  have hft : TL.Fits X := fun r hr => by have := ht r hr; unfold maxLen; omega
  obtain ⟨N, hN⟩ : ∃ N, X.length = N := ⟨_, rfl⟩
  obtain ⟨⟨Z, V⟩, hR⟩ : ∃ R, laR op X = R := ⟨_, rfl⟩
  have HSI := Lib.hid (show ∀ W : World, Ext w1 W → Calls Try.prog 39 #[.slice a N cap, .int .i64 op] W fun e w' => e = .returned (.tuple #[.int .i64 Z, .bool V]) ∧ Ext W w' from fun W e => by have h := implLookAhead X op W a cap fs (hs.below hs.lt e) hc (by unfold maxLen; omega) hft; rw [hN, hR] at h; exact h)
  have HSS := Lib.hid (show ∀ W : World, Ext w1 W → Calls Try.prog 40 #[.slice a N cap, .int .i64 op] W fun e w' => e = .returned (.tuple #[.int .i64 Z, .bool V]) ∧ Ext W w' from fun W e => by have h := Sq.specLookAhead X op W a cap fs (hs.below hs.lt e) hc (by unfold maxLen; omega) hft; rw [hN, hR] at h; exact h)
  have HX := Lib.hid (And.intro hN (And.intro hR hs))
  have E1 := Lib.hid (show Ext w w1 from hb1)
  rw [hN] at hc hl ⊢
  clear hN hR hs hf hb1 ht hft
  go_wp2_with fail
  refine (HSI.out _ (Ext.refl _)).mono ?_
  rintro e2 w2 ⟨rfl, hb2⟩
  have E2 := Lib.hid (show Ext w1 w2 from hb2)
  clear hb2
  go_wp2_with fail
  refine (HSS.out _ E2.out).mono ?_
  rintro e3 w3 ⟨rfl, hb3⟩
  have E3 := Lib.hid (show Ext w2 w3 from hb3)
  clear hb3
  have v0 : (V != V) = false := by simp
  have v1 : (V == V) = true := by simp
  cases V with
  | false =>
    have hZ : Z = 0 := by
      have h := HX.out.2.1
      unfold laR at h
      split at h
      · injection h with _ h; cases h
      · injection h with h _; exact h.symm
    subst hZ
    go_wp2_with fail
    go_ret
    exact ⟨by first | rfl | simp, (E1.out.trans E2.out).trans E3.out⟩
  | true =>
    have hZ : Z = (mxA X : Int) := by
      have h := HX.out.2.1
      unfold laR at h
      split at h
      · injection h with h _; exact h.symm
      · injection h with _ h; cases h
    obtain ⟨Q, hQ⟩ : ∃ Q, mxA X = Q := ⟨_, rfl⟩
    rw [hQ] at hZ
    subst hZ
    have HQ := Lib.hid hQ
    have hQN : Q ≤ N := by have := mxA_le X; have := HX.out.1; omega
    have z0 : ((Q : Int) != (Q : Int)) = false := by simp
    have HXC := Lib.hid (show ∀ q, (h : q < X.length) → ∃ b off, a = some ⟨b, off, none⟩ ∧ b < w3.heap.size ∧ w3.cell? ⟨b, off + q * 3, none⟩ = some (.int .i64 X[q].1) from fun q h => by
      have hs4 := HX.out.2.2.below HX.out.2.2.lt (E2.out.trans E3.out)
      rcases hs4 with ⟨e, _⟩ | ⟨b, off, e, hne, _, hr⟩
      · rw [e] at h; simp at h
      · exact ⟨b, off, e, hr.lt hne, (hr q h).1⟩)
    clear hQ
    go_wp2_with fail
    go_loopw [9, 10] (fun v i wr => ∃ (j q : Nat), j ≤ N ∧ q ≤ j ∧ Hid (grps (X.take j) = q) ∧ i = .int .i64 (j : Int) ∧ v = .int .i64 (q : Int) ∧ wr = w3) (fun _ i _ => N - (intOf i).toNat)
    case atStart => exact ⟨0, 0, by omega, by omega, Lib.hid rfl, rfl, rfl, rfl⟩
    case round =>
      obtain ⟨j, q, hj, hqj, HG, rfl, rfl, rfl⟩ := hrel
      have j0 : (0 : Int) ≤ (j : Int) := Int.natCast_nonneg _
      by_cases hjN : j < N
      · have j1 : (j : Int) < (N : Int) := by omega
        have hjX : j < X.length := by have := HX.out.1; omega
        have HGT := Lib.hid (grps_take hjX)
        obtain ⟨b, off, rfl, hb, c0⟩ := HXC.out j hjX
        obtain ⟨k, hk⟩ : ∃ k, X[j].1 = k := ⟨_, rfl⟩
        rw [hk] at c0
        have HK := Lib.hid hk
        clear hk
        by_cases h5 : k = 5
        · subst h5
          have HG2 := Lib.hid (show grps (X.take (j + 1)) = q + 1 from by rw [HGT.out, HG.out, if_pos HK.out])
          go_wp2_with fail
          go_roundw
          case rel => exact ⟨j + 1, q + 1, by omega, by omega, HG2, by go_num, by go_num, by first | trivial | rfl⟩
          case measure => simp [intOf]; omega
        · have b5 : (k == 5) = false := beq_eq_false_iff_ne.2 h5
          have HG2 := Lib.hid (show grps (X.take (j + 1)) = q from by rw [HGT.out, HG.out, if_neg (by rw [HK.out]; exact h5)]; rfl)
          go_wp2_with fail
          go_roundw
          case rel => exact ⟨j + 1, q, by omega, by omega, HG2, by go_num, by first | rfl | trivial, by first | trivial | rfl⟩
          case measure => simp [intOf]; omega
      · obtain rfl : N = j := by omega
        have hqq : (0 < q) ↔ (0 < Q) := by
          have h1 := HG.out
          rw [List.take_of_length_le (by have := HX.out.1; omega)] at h1
          rw [← h1, ← HQ.out]; exact grps_pos X
        have n1 : (Q : Int) ≤ (N : Int) := by omega
        have n1b : decide ((Q : Int) ≤ (N : Int)) = true := decide_eq_true n1
        by_cases hq0 : 0 < q
        · have hQ0 : 0 < Q := hqq.1 hq0
          have a1 : (0 : Int) < (q : Int) := by omega
          have a2 : (0 : Int) < (Q : Int) := by omega
          clear hqq
          go_wp2_with fail
          go_ret
          exact ⟨by first | rfl | (simp; omega) | (simp [a1, a2]), (E1.out.trans E2.out).trans E3.out⟩
        · have hQ0 : ¬ 0 < Q := fun h => hq0 (hqq.2 h)
          obtain rfl : q = 0 := by omega
          obtain rfl : Q = 0 := by omega
          clear hqq
          go_wp2_with fail
          go_ret
          exact ⟨by first | rfl | simp, (E1.out.trans E2.out).trans E3.out⟩

set_option maxHeartbeats 400000 in
theorem walk_big (w : World) (a0 : Option Addr) (len0 cap0 : Nat) (hl0 : 1048576 < len0) :
    Calls Try.prog 7 #[.slice a0 len0 cap0] w fun e w' => e = .returned (.bool true) ∧ Ext w w' := by
  have h1 : (1048576 : Int) < (len0 : Int) := by omega
  go_enter Try.func7, Try.ntmps7
  go_wp2_with fail
  go_ret
  exact ⟨rfl, Ext.refl w⟩

theorem walk (w : World) (a0 : Option Addr) (len0 cap0 : Nat) (hb0 : Bytes w a0 len0) (hlc0 : len0 ≤ cap0) (hcm0 : cap0 ≤ maxLen) :
    Calls Try.prog 7 #[.slice a0 len0 cap0] w fun e w' => e = .returned (.bool true) ∧ Below w.heap.size w w' := by
  by_cases h : 1048576 < len0
  · exact walk_big w a0 len0 cap0 h
  · exact walk_good w a0 len0 cap0 hb0 hlc0 hcm0 (by omega)

set_option maxRecDepth 100000 in
theorem lifted (os : Os) (started : os.Started) (H : Type) (enc : TypeId × Value → H) :
    ReturnsInHanded {} Try.checked os 7 .any (Rows.fnLookAheadSpec.pre6 enc Try.prog Try.f7 Rows.fnLookAheadRow.domain false) (Rows.fnLookAheadSpec.post enc Try.prog Try.f7 false true false false) := by
  refine returnsInHanded_of_change (C := Try.checked) Facts.own started (by kernel_rfl) Try.func7
    (ChangeSpec.witness6 (enc := enc) (C := Try.checked) false ⟨#[], #[.slice none 0 0], []⟩ 8 (by kernel_rfl) (by kernel_rfl) (by kernel_rfl) (by kernel_rfl)) ?_
  intro W base args ds gs before hval0 hW hcnd0 _
  clear hcnd0
  have hval : ∀ (j : Nat) t v, Try.f7.params[j]? = some t → args[j]? = some v → Value.okWide Try.prog W .any base t v := hval0
  have hW' := hW
  obtain ⟨p, q, hA0, hV, rfl, hfz, hnd⟩ := hW
  have hA : DataW.TrodAll enc Try.prog W 0 (fun _ => true) true Try.f7.params.toList args.toList ds p := hA0
  rw [Try.params7] at hA hval
  obtain ⟨v0, d0, rfl, rfl, h0⟩ := trodAll_one hA
  obtain ⟨rfl, rfl⟩ := trodVars_none hV
  obtain ⟨a0, len0, cap0, rfl⟩ := okWide_slice Try.underlying22 (hval 0 22 v0 rfl rfl)
  clear hA0 hval0
  simp only [List.append_nil] at hW'
  have hlt : ∀ x ∈ p, x.block < W.heap.size := fun x hx => by simpa using hW'.lt x hx
  obtain ⟨hb0, hlc0, hcm0⟩ := opened h0
  refine (walk W a0 len0 cap0 hb0 hlc0 hcm0).mono fun e W' ⟨he, hb⟩ => ?_
  subst he
  refine ⟨_, rfl, [_], [], p, [], p, [], hW', trodAll_mk1 (shut_bool Try.underlying4 _), ?_, rfl, hb.frame _, fun h => by cases h⟩
  exact trodAll_mk1 (Below.trod Facts.laidOut (by kernel_rfl) (of_decide_eq_true (by kernel_rfl)) h0 hb hlt)

theorem named : Try.prog.funcNamed Rows.fnLookAheadRow.func = some 7 := by kernel_rfl
theorem closed : joinedFacts Try.prog 7 Try.f7 Rows.fnLookAheadSpec Rows.fnLookAheadRow = true :=
  Facts.closed_of rfl rfl rfl rfl (h28b := rfl) (by kernel_rfl) (by kernel_rfl) (by kernel_rfl) (by kernel_rfl) (by kernel_rfl) (by kernel_rfl) (by kernel_rfl) (by kernel_rfl) (by kernel_rfl) (by kernel_rfl) (by kernel_rfl) (by kernel_rfl) (by kernel_rfl) (by kernel_rfl) (by kernel_rfl) (by kernel_rfl) (by kernel_rfl) (by kernel_rfl) (by kernel_rfl) (by kernel_rfl) (by kernel_rfl) (by kernel_rfl) (by kernel_rfl) (by kernel_rfl)
theorem instanced : Try.f7.isInstance Try.prog Rows.fnLookAheadRow.origin Rows.fnLookAheadRow.targs := of_decide_eq_true (by kernel_rfl)
theorem wrapped : Try.f7.isWrapper Try.prog Rows.fnLookAheadRow.wrapper Rows.fnLookAheadRow.mainSum := by
  unfold Func.isWrapper
  rw [if_neg (of_decide_eq_false (by kernel_rfl))]
  exact ⟨rfl, rfl⟩

theorem holds : Rows.FnLookAheadSaid :=
  OpenClaim.holds_of_wide 7 Try.f7 rfl rfl rfl rfl rfl rfl rfl ⟨rfl, rfl, rfl, rfl, rfl⟩ rfl rfl rfl rfl rfl named Try.func7 closed instanced wrapped
    (fun os started H enc _ => lifted os started H enc)

end Go.Proofs.Ytcealfjkcbaelaa.lawLookAheadD

