import Derived.Test.YtcealfjkcbaelaaTkG
import Derived.Test.YtcealfjkcbaelaaTkI
/-
  The functions of the model that look ahead in a list of tokens.
-/
set_option linter.unusedVariables false
set_option linter.unusedSimpArgs false
namespace Go.Proofs.Ytcealfjkcbaelaa.Tk
open Go.RowKit P1 TextV

theorem ret_is {a b : Int} (h : a = b) : Ending.returned (.int .i64 a) = .returned (.int .i64 b) := by rw [h]
theorem ret_ii {a b : Int} {c d : Nat} (h : a = b) (h' : c = d) : Ending.returned (.tuple #[.int .i64 a, .int .i64 (c : Int)]) = .returned (.tuple #[.int .i64 b, .int .i64 (d : Int)]) := by rw [h, h']
/-- the token that closes a group -/
theorem glo_last : ∀ (s : List Tok) (d N : Nat), 0 < d → glo d s = some N → 1 ≤ N ∧ ∃ h : N - 1 < s.length, s[N - 1].1 = 6
  | [], d, N, hd, h => by have := (glo_nil h).1; omega
  | r :: s, d, N, hd, h => by
    obtain ⟨M, rfl, hg⟩ := glo_cons hd h
    by_cases h0 : nx d r.1 = 0
    · rw [h0, glo_zero] at hg
      injection hg with hg
      subst hg
      refine ⟨by omega, by simp, ?_⟩
      unfold nx at h0
      split at h0
      · omega
      · split at h0
        · rename_i h6; exact h6
        · omega
    · obtain ⟨h1, h2, h3⟩ := glo_last s _ M (by omega) hg
      obtain ⟨q, rfl⟩ : ∃ q, M = q + 1 := ⟨M - 1, by omega⟩
      exact ⟨by omega, by simp at h2 ⊢; omega, by simpa using h3⟩
theorem glo_end {l : List Tok} {i N : Nat} (h : glo 1 (l.drop (i + 1)) = some N) : 1 ≤ N ∧ ∃ hl : i + N < l.length, l[i + N].1 = 6 := by
  obtain ⟨h1, h2, h3⟩ := glo_last _ 1 N (by omega) h
  obtain ⟨q, rfl⟩ : ∃ q, N = q + 1 := ⟨N - 1, by omega⟩
  rw [List.length_drop] at h2
  refine ⟨h1, by omega, ?_⟩
  rw [List.getElem_drop] at h3
  have e : i + 1 + (q + 1 - 1) = i + (q + 1) := by omega
  simpa only [e] using h3

set_option maxHeartbeats 800000 in
theorem specFlat (k n : Int) (t : ByteArray) (ht : t.size ≤ maxLen) (w : World) :
    Calls Try.prog 86 #[.agg #[.int .i64 k, .int .i64 n, .string t]] w fun e w' => e = .returned (.int .i64 (szT (k, n, t))) ∧ Below w.heap.size w w' := by
  have B1 := Lib.hid (show ∀ ob, Below w.heap.size w (w.alloc ob) from fun ob => (Below.refl _ _).alloc (Nat.le_refl _) _)
  unfold maxLen at ht
  by_cases h : k = 2
  · subst h
    go_enter Try.func86, Try.ntmps86
    go_wp2_with fail
    go_ret
    exact ⟨ret_is (by simp [szT]), B1.out _⟩
  · have hb : (k == 2) = false := beq_eq_false_iff_ne.2 h
    have HS := Lib.hid (show szT (k, n, t) = (t.size : Int) by simp [szT, h])
    clear h
    go_enter Try.func86, Try.ntmps86
    go_wp2_with fail
    go_ret
    exact ⟨ret_is HS.out.symm, B1.out _⟩
set_option maxHeartbeats 800000 in
theorem specNew (k : Int) (w : World) :
    Calls Try.prog 119 #[.int .i64 k] w fun e w' => e = .returned (.bool (isN k)) ∧ w' = w := by
  by_cases h2 : 2 ≤ k
  · by_cases h4 : k ≤ 4
    · have HS := Lib.hid (show isN k = true by simp [isN, h2, h4])
      go_enter Try.func119, Try.ntmps119
      go_wp2_with fail
      go_ret
      exact ⟨ret_bool HS.out.symm, rfl⟩
    · have HS := Lib.hid (show isN k = false by simp [isN, h4])
      go_enter Try.func119, Try.ntmps119
      go_wp2_with fail
      go_ret
      exact ⟨ret_bool (by first | exact HS.out.symm | (rw [HS.out]; simp; omega)), rfl⟩
  · have HS := Lib.hid (show isN k = false by simp [isN, h2])
    go_enter Try.func119, Try.ntmps119
    go_wp2_with fail
    go_ret
    exact ⟨ret_bool HS.out.symm, rfl⟩

set_option maxRecDepth 100000 in
set_option maxHeartbeats 3200000 in
theorem specClose (l : List Tok) (w : World) (b off cap : Nat) (hrow : TkAt w l b off) (hl : l.length ≤ 1000) (i : Nat) (hi : i < l.length) (h5 : l[i].1 = 5) (N : Nat) (h : glo 1 (l.drop (i + 1)) = some N) :
    Calls Try.prog 121 #[.slice (some ⟨b, off, none⟩) l.length cap, .int .i64 (i : Int)] w fun e w' => e = .returned (.int .i64 ((i + N : Nat) : Int)) ∧ w' = w := by
  have hbl : b < w.heap.size := hrow.lt (List.length_pos_iff.1 (by omega))
  have HROW := Lib.hid hrow
  have HG := Lib.hid h
  have c5' := (hrow i hi).1
  rw [h5] at c5'
  obtain ⟨m, hm⟩ : ∃ m, l.length = m := ⟨_, rfl⟩
  have HM := Lib.hid hm
  rw [hm] at hl hi ⊢
  have hi0 : (0 : Int) ≤ (i : Int) := Int.natCast_nonneg _
  have hi1 : (i : Int) < (m : Int) := by omega
  clear hm hrow h h5
  go_enter Try.func121, Try.ntmps121
  go_wp2_with fail
  go_loopw [5, 6] (fun d j wr => ∃ (D J : Nat), ((J = i ∧ D = 0) ∨ Hid (0 < D ∧ i < J ∧ ∃ R, glo D (l.drop J) = some R ∧ J + R = i + 1 + N)) ∧ J ≤ m ∧ D ≤ J + 1 ∧ d = .int .i64 (D : Int) ∧ j = .int .i64 (J : Int) ∧ wr = w) (fun _ j _ => m - (intOf j).toNat)
  case atStart => exact ⟨0, i, .inl ⟨rfl, rfl⟩, by omega, by omega, rfl, rfl, rfl⟩
  case round =>
    obtain ⟨D, J, hcase, hJm, hDJ, rfl, rfl, rfl⟩ := hrel
    rcases hcase with ⟨rfl, rfl⟩ | HR
    · go_wp2_with fail
      go_roundw
      case rel => exact ⟨1, J + 1, .inr (Lib.hid ⟨by omega, by omega, N, HG.out, by omega⟩), by omega, by omega, by go_num, by go_num, trivial⟩
      case measure => simp [intOf]; omega
    · clear c5'
      obtain ⟨hD, hiJ, R, hg, hJR⟩ := HR.out
      have hJl : J < l.length := by
        by_cases hlt : J < l.length
        · exact hlt
        · rw [List.drop_eq_nil_of_le (by omega)] at hg
          have := (glo_nil hg).1
          omega
      rw [drop_cons' hJl] at hg
      obtain ⟨M, hM, hnx⟩ := glo_cons hD hg
      have c0 := (HROW.out J hJl).1
      obtain ⟨⟨k, nn, t⟩, hnt⟩ : ∃ r, l[J] = r := ⟨_, rfl⟩
      rw [hnt] at c0 hnx
      have HX := Lib.hid (And.intro hM (And.intro hnx (And.intro hJR hiJ)))
      have hJm' : (J : Int) < (m : Int) := by have := HM.out; omega
      have hJ0 : (0 : Int) ≤ (J : Int) := Int.natCast_nonneg _
      have hD0 : (0 : Int) < (D : Int) := by omega
      clear hg hM hnx hnt hJR hiJ
      by_cases h5 : k = 5
      · subst h5
        go_wp2_with fail
        go_roundw
        case rel => exact ⟨D + 1, J + 1, .inr (Lib.hid ⟨by omega, by have := HX.out.2.2.2; omega, M, by have := HX.out.2.1; simpa [nx] using this, by have := HX.out.1; have := HX.out.2.2.1; omega⟩), by omega, by omega, by go_num, by go_num, trivial⟩
        case measure => simp [intOf]; omega
      · have b5 : (k == 5) = false := beq_eq_false_iff_ne.2 h5
        by_cases h6 : k = 6
        · subst h6
          obtain ⟨E, rfl⟩ : ∃ E, D = E + 1 := ⟨D - 1, by omega⟩
          by_cases hE : E = 0
          · subst hE
            go_wp2_with fail
            go_ret
            refine ⟨ret_is ?_, rfl⟩
            have h1 := HX.out.2.1
            rw [show nx (0 + 1) 6 = 0 by simp [nx], glo_zero] at h1
            injection h1 with h1
            have := HX.out.1; have := HX.out.2.2.1
            omega
          · have bE : ((E : Int) == 0) = false := beq_eq_false_iff_ne.2 (by omega)
            go_wp2_with fail
            go_roundw
            case rel => exact ⟨E, J + 1, .inr (Lib.hid ⟨by omega, by have := HX.out.2.2.2; omega, M, by have := HX.out.2.1; simpa [nx] using this, by have := HX.out.1; have := HX.out.2.2.1; omega⟩), by omega, by omega, by go_num, by go_num, trivial⟩
            case measure => simp [intOf]; omega
        · have b6 : (k == 6) = false := beq_eq_false_iff_ne.2 h6
          have hnx2 : nx D k = D := by simp [nx, h5, h6]
          have HX2 := Lib.hid (show glo D (l.drop (J + 1)) = some M by rw [← hnx2]; exact HX.out.2.1)
          clear hnx2 h5 h6
          go_wp2_with fail
          go_roundw
          case rel => exact ⟨D, J + 1, .inr (Lib.hid ⟨by omega, by have := HX.out.2.2.2; omega, M, HX2.out, by have := HX.out.1; have := HX.out.2.2.1; omega⟩), by omega, by omega, by go_num, by go_num, trivial⟩
          case measure => simp [intOf]; omega

set_option maxRecDepth 100000 in
set_option maxHeartbeats 6400000 in
theorem specSizeE (l : List Tok) (w : World) (b off cap : Nat) (hrow : TkAt w l b off) (hl : l.length ≤ 1000) (i : Nat) (hi : i < l.length) (h5 : l[i].1 = 5) (N : Nat) (h : glo 1 (l.drop (i + 1)) = some N) (hz : ∀ r ∈ l, r.2.2.size ≤ 12) :
    Calls Try.prog 87 #[.slice (some ⟨b, off, none⟩) l.length cap, .int .i64 (i : Int)] w fun e w' => e = .returned (.tuple #[.int .i64 (lkN (N + 1) (l.drop i) 0 0).1, .int .i64 ((i + (lkN (N + 1) (l.drop i) 0 0).2.getD (l.length - i) : Nat) : Int)]) ∧ Below w.heap.size w w' := by
  have hbl : b < w.heap.size := hrow.lt (List.length_pos_iff.1 (by omega))
  have HCL := Lib.hid (specClose l w b off cap hrow hl i hi h5 N h)
  have HROW := Lib.hid (fun (w' : World) (hb : Below w.heap.size w w') => hrow.below hbl hb)
  have HZ := Lib.hid hz
  have HEND := Lib.hid (glo_end h)
  obtain ⟨R, hR⟩ : ∃ R, lkN (N + 1) (l.drop i) 0 0 = R := ⟨_, rfl⟩
  have HRR := Lib.hid hR
  obtain ⟨m, hm⟩ : ∃ m, l.length = m := ⟨_, rfl⟩
  have HM := Lib.hid hm
  rw [hR]
  rw [hm] at hl hi HCL ⊢
  obtain ⟨E, hE⟩ : ∃ E, i + N = E := ⟨_, rfl⟩
  rw [hE] at HCL
  have hEm : E < m := by obtain ⟨_, h2, _⟩ := HEND.out; omega
  have HE := Lib.hid hE
  have hi0 : (0 : Int) ≤ (i : Int) := Int.natCast_nonneg _
  clear hm hrow h h5 hR hz hE
  go_enter Try.func87, Try.ntmps87
  go_wp2_with fail
  refine HCL.out.mono ?_
  rintro e1 w1 ⟨rfl, rfl⟩
  go_wp2_with fail
  go_loopw [7, 8] (fun a j wr => ∃ (J : Nat) (acc : Int), Hid (lkN (N + 1) (l.drop J) (J - i) acc = R) ∧ (i ≤ J ∧ J ≤ E) ∧ j = .int .i64 (J : Int) ∧ a = .int .i64 acc ∧ (0 ≤ acc ∧ acc ≤ 12 * (J : Int)) ∧ Below w1.heap.size w1 wr) (fun _ j _ => E - (intOf j).toNat)
  case atStart => exact ⟨i, 0, Lib.hid (by rw [Nat.sub_self]; exact HRR.out), by have := HE.out; omega, rfl, rfl, by omega, Below.refl _ _⟩
  case round =>
    obtain ⟨J, acc, HA, ⟨hJi, hJE⟩, rfl, rfl, ⟨ha0, ha1⟩, hbw⟩ := hrel
    have hJ0 : (0 : Int) ≤ (J : Int) := Int.natCast_nonneg _
    by_cases hJlt : J < E
    · have hJl : J < l.length := by have := HM.out; omega
      have hJm' : (J : Int) < (m : Int) := by omega
      have hJE' : (J : Int) < (E : Int) := by omega
      obtain ⟨c0, c1, c2⟩ := (HROW.out _ hbw) J hJl
      have hA := HA.out
      rw [drop_cons' hJl] at hA
      have hsz := HZ.out _ (List.getElem_mem hJl)
      obtain ⟨⟨k, nn, t⟩, hnt⟩ : ∃ r, l[J] = r := ⟨_, rfl⟩
      rw [hnt] at c0 c1 c2 hA hsz
      have HA2 := Lib.hid hA
      have HSZ := Lib.hid hsz
      have hst : 0 ≤ szT (k, nn, t) ∧ szT (k, nn, t) ≤ 12 := by
        unfold szT
        split
        · omega
        · simp only at hsz ⊢; omega
      have HF := Lib.hid (fun W => specFlat k nn t (by unfold maxLen; have := HSZ.out; simp only at this; omega) W)
      obtain ⟨z, hzz⟩ : ∃ z, szT (k, nn, t) = z := ⟨_, rfl⟩
      rw [hzz] at hst HF
      have HZZ := Lib.hid hzz
      have hwz : IntKind.i64.wrap (acc + z) = acc + z := by rw [IntKind.wrap_i64]; omega
      have HBW := Lib.hid hbw
      have hbr : b < wr.heap.size := Nat.lt_of_lt_of_le hbl hbw.size
      clear hnt hA hsz hzz hbw
      by_cases h4 : k = 4
      · subst h4
        have HE2 := Lib.hid (show R = (-1, some (J - i)) from by rw [← HA2.out, lkN_hard (by have := HE.out; omega) rfl])
        go_wp2_with fail
        go_ret2
        exact ⟨by rw [HE2.out]; exact ret_ii rfl (show J = i + (J - i) by omega), HBW.out⟩
      · have b4 : (k == 4) = false := beq_eq_false_iff_ne.2 h4
        have HNX := Lib.hid (show lkN (N + 1) (l.drop (J + 1)) (J + 1 - i) (acc + z) = R from by rw [← HA2.out, lkN_in (by have := HE.out; omega) h4, HZZ.out, show J - i + 1 = J + 1 - i by omega])
        go_wp2_with fail
        refine (HF.out _).mono ?_
        rintro e2 w2 ⟨rfl, hb2⟩
        have H2 := Lib.hid (HBW.out.trans (hb2.mono HBW.out.size))
        clear hb2 c0 c1 c2
        go_wp2_with fail
        go_roundw
        case rel => exact ⟨J + 1, acc + z, HNX, by omega, by go_num, by go_num, by omega, H2.out⟩
        case measure => simp [intOf]; omega
    · obtain rfl : J = E := by omega
      have HBW := Lib.hid hbw
      clear hbw
      go_wp2_with fail
      go_loopw [7, 9] (fun a j wr => ∃ (K : Nat) (acc : Int), Hid (lkN (N + 1) (l.drop K) (K - i) acc = R) ∧ (J ≤ K ∧ K ≤ m) ∧ j = .int .i64 (K : Int) ∧ a = .int .i64 acc ∧ (0 ≤ acc ∧ acc ≤ 12 * (K : Int)) ∧ Below w1.heap.size w1 wr) (fun _ j _ => m - (intOf j).toNat)
      case atStart => exact ⟨J, acc, HA, by omega, rfl, rfl, by omega, HBW.out⟩
      case round =>
        clear ha0 ha1 HA
        obtain ⟨K, acc, HA, ⟨hJK, hKm⟩, rfl, rfl, ⟨ha0, ha1⟩, hbw⟩ := hrel
        have hK0 : (0 : Int) ≤ (K : Int) := Int.natCast_nonneg _
        by_cases hKlt : K < m
        · have hKl : K < l.length := by rw [HM.out]; exact hKlt
          have hKm' : (K : Int) < (m : Int) := by omega
          obtain ⟨c0, c1, c2⟩ := (HROW.out _ hbw) K hKl
          have hA := HA.out
          rw [drop_cons' hKl] at hA
          have hsz := HZ.out _ (List.getElem_mem hKl)
          have hk6 : K = J → l[K].1 = 6 := fun e => by
            obtain ⟨_, h2, h3⟩ := HEND.out
            have e2 : i + N = K := by rw [e]; exact HE.out
            simpa only [e2] using h3
          obtain ⟨⟨k, nn, t⟩, hnt⟩ : ∃ r, l[K] = r := ⟨_, rfl⟩
          rw [hnt] at c0 c1 c2 hA hsz hk6
          have HA2 := Lib.hid hA
          have hts : t.size ≤ 12 := hsz
          have HK6 := Lib.hid hk6
          have HNEW := Lib.hid (fun W => specNew k W)
          have HBW := Lib.hid hbw
          have hbr : b < wr.heap.size := Nat.lt_of_lt_of_le hbl hbw.size
          have hwz : IntKind.i64.wrap (acc + (t.size : Int)) = acc + (t.size : Int) := by rw [IntKind.wrap_i64]; omega
          clear hnt hA hsz hbw hk6
          cases hn : isN k with
          | true =>
            rw [hn] at HNEW
            have hKJ : K ≠ J := fun e => by have := HK6.out e; simp only at this; rw [this] at hn; exact absurd hn (by decide)
            have HE2 := Lib.hid (show R = (acc, some (K - i)) from by rw [← HA2.out, lkN_new (by have := HE.out; omega) hn])
            clear hn
            go_wp2_with fail
            refine (HNEW.out _).mono ?_
            rintro e2 w2 ⟨rfl, rfl⟩
            go_wp2_with fail
            go_ret2
            exact ⟨by rw [HE2.out]; exact ret_ii rfl (show K = i + (K - i) by have := HE.out; omega), HBW.out⟩
          | false =>
            rw [hn] at HNEW
            have hk2 : k ≠ 2 := fun e => by rw [e] at hn; exact absurd hn (by decide)
            have HNX := Lib.hid (show lkN (N + 1) (l.drop (K + 1)) (K + 1 - i) (acc + (t.size : Int)) = R from by
              have hs : szT (k, nn, t) = (t.size : Int) := by simp [szT, hk2]
              rw [← HA2.out]
              by_cases e : K = J
              · have h6 := HK6.out e
                simp only at h6
                rw [lkN_in (by have := HE.out; omega) (by simp only; omega), hs, show K - i + 1 = K + 1 - i by omega]
              · rw [lkN_out (by have := HE.out; omega) hn, hs, show K - i + 1 = K + 1 - i by omega])
            clear hn hk2
            go_wp2_with fail
            refine (HNEW.out _).mono ?_
            rintro e2 w2 ⟨rfl, rfl⟩
            go_wp2_with fail
            go_roundw
            case rel => exact ⟨K + 1, acc + (t.size : Int), HNX, by omega, by go_num, by go_num, by omega, HBW.out⟩
            case measure => simp [intOf]; omega
        · obtain rfl : K = m := by omega
          have hA := HA.out
          rw [List.drop_eq_nil_of_le (by have := HM.out; omega)] at hA
          have HE2 := Lib.hid (show R = (acc, none) from by rw [← hA]; rfl)
          have HBW := Lib.hid hbw
          clear hA hbw
          go_wp2_with fail
          go_ret2
          exact ⟨by rw [HE2.out]; exact ret_ii rfl (show K = i + (K - i) by have := HE.out; omega), HBW.out⟩

end Go.Proofs.Ytcealfjkcbaelaa.Tk

