import Derived.Test.YtcealfjkcbaelaaTkG
import Derived.Test.YtcealfjkcbaelaaTkI
import Derived.Deep.RegionHeld3
import Derived.Lib.FrozenHead2
/-
  The functions of the program that look ahead in a list of tokens.
-/
set_option linter.unusedVariables false
set_option linter.unusedSimpArgs false
namespace Go.Proofs.Ytcealfjkcbaelaa.Tk
open Go.RowKit P1 TextV

theorem ret_i {a b : Int} (h : a = b) : Ending.returned (.int .i64 a) = .returned (.int .i64 b) := by rw [h]
set_option maxHeartbeats 800000 in
theorem sizeT (k n : Int) (t : ByteArray) (ht : t.size ≤ maxLen) (w : World) :
    Calls Try.prog 84 #[.agg #[.int .i64 k, .int .i64 n, .string t]] w fun e w' => e = .returned (.int .i64 (szT (k, n, t))) ∧ Below w.heap.size w w' := by
  have B1 := Lib.hid (show ∀ ob, Below w.heap.size w (w.alloc ob) from fun ob => (Below.refl _ _).alloc (Nat.le_refl _) _)
  unfold maxLen at ht
  by_cases h : k = 2
  · subst h
    go_enter Try.func84, Try.ntmps84
    go_wp2_with fail
    go_ret
    exact ⟨ret_i (by simp [szT]), B1.out _⟩
  · have hb : (k == 2) = false := beq_eq_false_iff_ne.2 h
    have HS := Lib.hid (show szT (k, n, t) = (t.size : Int) by simp [szT, h])
    clear h
    go_enter Try.func84, Try.ntmps84
    go_wp2_with fail
    go_ret
    exact ⟨ret_i HS.out.symm, B1.out _⟩
set_option maxHeartbeats 800000 in
theorem newT (k n : Int) (t : ByteArray) (w : World) :
    Calls Try.prog 130 #[.agg #[.int .i64 k, .int .i64 n, .string t]] w fun e w' => e = .returned (.bool (isN k)) ∧ Below w.heap.size w w' := by
  have B1 := Lib.hid (show ∀ ob, Below w.heap.size w (w.alloc ob) from fun ob => (Below.refl _ _).alloc (Nat.le_refl _) _)
  by_cases hr : k = 2 ∨ k = 3 ∨ k = 4
  · rcases hr with rfl | rfl | rfl
    all_goals
      go_enter Try.func130, Try.ntmps130
      go_wp2_with fail
      go_ret
      exact ⟨ret_bool (by decide), B1.out _⟩
  · have b2 : (k == 2) = false := beq_eq_false_iff_ne.2 (by omega)
    have b3 : (k == 3) = false := beq_eq_false_iff_ne.2 (by omega)
    have b4 : (k == 4) = false := beq_eq_false_iff_ne.2 (by omega)
    have HS := Lib.hid (show isN k = false by unfold isN; by_cases h1 : 2 ≤ k <;> by_cases h2 : k ≤ 4 <;> simp [h1, h2]; omega)
    clear hr
    go_enter Try.func130, Try.ntmps130
    go_wp2_with fail
    go_ret
    exact ⟨ret_bool HS.out.symm, B1.out _⟩

set_option maxRecDepth 100000 in
set_option maxHeartbeats 3200000 in
theorem groupLength (s : List Tok) (w : World) (b off cap : Nat) (hrow : TkAt w s b off) (hl : s.length ≤ 1000) (h1 : 1 ≤ s.length) (N : Nat) (h : glo 1 (s.drop 1) = some N) :
    Calls Try.prog 129 #[.slice (some ⟨b, off, none⟩) s.length cap] w fun e w' => e = .returned (.int .i64 ((N + 1 : Nat) : Int)) ∧ w' = w := by
  have hbl : b < w.heap.size := hrow.lt (List.length_pos_iff.1 h1)
  have HROW := Lib.hid hrow
  have HG := Lib.hid h
  obtain ⟨m, hm⟩ : ∃ m, s.length = m := ⟨_, rfl⟩
  have HM := Lib.hid hm
  rw [hm] at hl h1 ⊢
  clear hm hrow h
  go_enter Try.func129, Try.ntmps129
  go_wp2_with fail
  go_loopw [3, 4] (fun d j wr => ∃ (D J R : Nat), Hid (glo D (s.drop J) = some R ∧ J + R = N + 1) ∧ 1 ≤ J ∧ J ≤ m ∧ D ≤ J ∧ d = .int .i64 (D : Int) ∧ j = .int .i64 (J : Int) ∧ wr = w) (fun _ j _ => m - (intOf j).toNat)
  case atStart => exact ⟨1, 1, N, Lib.hid ⟨HG.out, by omega⟩, by omega, by omega, by omega, rfl, rfl, rfl⟩
  case round =>
    obtain ⟨D, J, R, HR, hJ1, hJm, hDJ, rfl, rfl, rfl⟩ := hrel
    by_cases hD : 0 < D
    · have hJl : J < s.length := by
        by_cases hlt : J < s.length
        · exact hlt
        · have h2 := HR.out.1
          rw [List.drop_eq_nil_of_le (by omega)] at h2
          have := (glo_nil h2).1
          omega
      have hg := HR.out.1
      rw [drop_cons' hJl] at hg
      obtain ⟨M, hM, hnx⟩ := glo_cons hD hg
      have c0 := (HROW.out J hJl).1
      obtain ⟨⟨k, nn, t⟩, hnt⟩ : ∃ r, s[J] = r := ⟨_, rfl⟩
      rw [hnt] at c0 hnx
      have HX := Lib.hid (And.intro hM hnx)
      have hJm' : (J : Int) < (m : Int) := by have := HM.out; omega
      have hJ0 : (0 : Int) ≤ (J : Int) := Int.natCast_nonneg _
      have hD0 : (0 : Int) < (D : Int) := by omega
      clear hg hM hnx hnt
      by_cases h5 : k = 5
      · subst h5
        go_wp2_with fail
        go_roundw
        case rel => exact ⟨D + 1, J + 1, M, Lib.hid ⟨by have := HX.out.2; simpa [nx] using this, by have := HX.out.1; have := HR.out.2; omega⟩, by omega, by omega, by omega, by go_num, by go_num, trivial⟩
        case measure => simp [intOf]; omega
      · have b5 : (k == 5) = false := beq_eq_false_iff_ne.2 h5
        by_cases h6 : k = 6
        · subst h6
          obtain ⟨E, rfl⟩ : ∃ E, D = E + 1 := ⟨D - 1, by omega⟩
          go_wp2_with fail
          go_roundw
          case rel => exact ⟨E, J + 1, M, Lib.hid ⟨by have := HX.out.2; simpa [nx] using this, by have := HX.out.1; have := HR.out.2; omega⟩, by omega, by omega, by omega, by go_num, by go_num, trivial⟩
          case measure => simp [intOf]; omega
        · have b6 : (k == 6) = false := beq_eq_false_iff_ne.2 h6
          have hnx2 : nx D k = D := by simp [nx, h5, h6]
          have HX2 := Lib.hid (show glo D (s.drop (J + 1)) = some M by rw [← hnx2]; exact HX.out.2)
          clear hnx2 h5 h6
          go_wp2_with fail
          go_roundw
          case rel => exact ⟨D, J + 1, M, Lib.hid ⟨HX2.out, by have := HX.out.1; have := HR.out.2; omega⟩, by omega, by omega, by omega, by go_num, by go_num, trivial⟩
          case measure => simp [intOf]; omega
    · obtain rfl : D = 0 := by omega
      have h2 := HR.out.1
      rw [glo_zero] at h2
      injection h2 with h2
      obtain rfl : J = N + 1 := by have := HR.out.2; omega
      go_wp2_with fail
      go_ret
      exact ⟨ret_i (by simp), rfl⟩

theorem heap_last (w : World) (ob : Obj) : (w.alloc ob).heap[w.heap.size]? = some ob := by
  show (w.heap.push _)[w.heap.size]? = _
  exact Array.getElem?_push_size
theorem there3 {w : World} {b : Nat} (h : w.there b 0 3) : (∃ u0 u1 u2, w.cell? ⟨b, 0, none⟩ = some u0 ∧ w.cell? ⟨b, 1, none⟩ = some u1 ∧ w.cell? ⟨b, 2, none⟩ = some u2) ∧ w.frozen? ⟨b, 0, none⟩ = false ∧ w.frozen? ⟨b, 1, none⟩ = false ∧ w.frozen? ⟨b, 2, none⟩ = false := by
  have h0 := h 0 (by omega)
  have h1 := h 1 (by omega)
  have h2 := h 2 (by omega)
  simp only [Nat.zero_add] at h0 h1 h2
  obtain ⟨u0, e0⟩ := Option.isSome_iff_exists.1 h0.1
  obtain ⟨u1, e1⟩ := Option.isSome_iff_exists.1 h1.1
  obtain ⟨u2, e2⟩ := Option.isSome_iff_exists.1 h2.1
  exact ⟨⟨u0, u1, u2, e0, e1, e2⟩, h0.2, h1.2, h2.2⟩
theorem far3 {w : World} {b c o : Nat} {v0 v1 v2 u : Value} (hne : c ≠ b) (h : w.cell? ⟨b, 0, none⟩ = some v0 ∧ w.cell? ⟨b, 1, none⟩ = some v1 ∧ w.cell? ⟨b, 2, none⟩ = some v2) :
    (w.setCell ⟨c, o, none⟩ u).cell? ⟨b, 0, none⟩ = some v0 ∧ (w.setCell ⟨c, o, none⟩ u).cell? ⟨b, 1, none⟩ = some v1 ∧ (w.setCell ⟨c, o, none⟩ u).cell? ⟨b, 2, none⟩ = some v2 := by
  obtain ⟨h0, h1, h2⟩ := h
  refine ⟨?_, ?_, ?_⟩ <;> (rw [World.cell?_setCell_far _ _ _ _ hne]; assumption)
theorem box3 {w w' : World} {b : Nat} {u0 u1 u2 : Value} (h : w.cell? ⟨b, 0, none⟩ = some u0 ∧ w.cell? ⟨b, 1, none⟩ = some u1 ∧ w.cell? ⟨b, 2, none⟩ = some u2) (hb : b < w.heap.size) (k : Below w.heap.size w w') :
    w'.cell? ⟨b, 0, none⟩ = some u0 ∧ w'.cell? ⟨b, 1, none⟩ = some u1 ∧ w'.cell? ⟨b, 2, none⟩ = some u2 :=
  ⟨(k.cell (p := ⟨b, 0, none⟩) hb).trans h.1, (k.cell (p := ⟨b, 1, none⟩) hb).trans h.2.1, (k.cell (p := ⟨b, 2, none⟩) hb).trans h.2.2⟩
theorem tok_new (w : World) (n m : Int) (t : ByteArray) (T : TypeId) : (w.alloc (.cells #[.int .i64 n, .int .i64 m, .string t] T)).cell? ⟨w.heap.size, 0, none⟩ = some (.int .i64 n) ∧ (w.alloc (.cells #[.int .i64 n, .int .i64 m, .string t] T)).cell? ⟨w.heap.size, 1, none⟩ = some (.int .i64 m) ∧ (w.alloc (.cells #[.int .i64 n, .int .i64 m, .string t] T)).cell? ⟨w.heap.size, 2, none⟩ = some (.string t) := by
  refine ⟨?_, ?_, ?_⟩ <;> (rw [World.cell?_alloc_new]; rfl)
/-- what is carried in lookFrom: the result's variable, what is known of the group -/
def Look (w : World) (L m : Nat) (acc : Int) (wr : World) : Prop :=
  wr.there w.heap.size 0 3 ∧ wr.heap[w.heap.size + 1]? = some (.cells #[.int .i64 (L : Int), .int .i64 acc, .int .i64 (m : Int)] 121 (0, 0)) ∧ Below w.heap.size w wr
theorem Look.cells {w wr : World} {L m : Nat} {acc : Int} (h : Look w L m acc wr) : wr.cell? ⟨w.heap.size + 1, 0, none⟩ = some (.int .i64 (L : Int)) ∧ wr.cell? ⟨w.heap.size + 1, 1, none⟩ = some (.int .i64 acc) ∧ wr.cell? ⟨w.heap.size + 1, 2, none⟩ = some (.int .i64 (m : Int)) ∧ (∀ o, wr.frozen? ⟨w.heap.size + 1, o, none⟩ = false) ∧ w.heap.size + 1 < wr.heap.size := by
  obtain ⟨_, h2, _⟩ := h
  refine ⟨?_, ?_, ?_, fun o => ?_, (Array.getElem?_eq_some_iff.1 h2).1⟩
  · simp only [World.cell?, h2]; rfl
  · simp only [World.cell?, h2]; rfl
  · simp only [World.cell?, h2]; rfl
  · exact Lib.frozen_of_heap h2 o
theorem Look.below {w wr w' : World} {L m : Nat} {acc : Int} (h : Look w L m acc wr) (k : Below wr.heap.size wr w') : Look w L m acc w' := by
  have hlt := h.cells.2.2.2.2
  exact ⟨there_below h.1 (by omega) k, (k.block _ hlt).trans h.2.1, h.2.2.trans (k.mono h.2.2.size)⟩
theorem Look.set {w wr : World} {L m : Nat} {acc : Int} (h : Look w L m acc wr) (z : Int) : Look w L m z (wr.setCell ⟨w.heap.size + 1, 1, none⟩ (.int .i64 z)) := by
  refine ⟨fun j hj => ?_, ?_, h.2.2.setCell (p := ⟨w.heap.size + 1, 1, none⟩) (by simp) _⟩
  · have h1 := h.1 j hj
    refine ⟨?_, ?_⟩
    · rw [World.cell?_setCell_other _ _ _ _ (by intro e; injection e with e1 e2; omega)]; exact h1.1
    · exact (World.frozen?_of_block (Below.heap_setCell _ _ _ _ (by simp))).trans h1.2
  · simp [World.setCell, Array.getElem?_modify, h.2.1]

set_option maxRecDepth 100000 in
set_option maxHeartbeats 6400000 in
theorem lookFrom (s : List Tok) (w : World) (b off cap : Nat) (hrow : TkAt w s b off) (hl : s.length ≤ 1000) (h1 : 1 ≤ s.length) (N : Nat) (h : glo 1 (s.drop 1) = some N) (hz : ∀ r ∈ s, r.2.2.size ≤ 12) :
    Calls Try.prog 85 #[.slice (some ⟨b, off, none⟩) s.length cap] w fun e w' => e = .returned (.agg #[.int .i64 ((N + 1 : Nat) : Int), .int .i64 (lkN (N + 1) s 0 0).1, .int .i64 (((lkN (N + 1) s 0 0).2.getD s.length : Nat) : Int)]) ∧ Below w.heap.size w w' := by
  have hbl : b < w.heap.size := hrow.lt (List.length_pos_iff.1 h1)
  have HGLEN := Lib.hid (fun (w' : World) (hb : Below w.heap.size w w') => groupLength s w' b off cap (hrow.below hbl hb) hl h1 N h)
  have HROW := Lib.hid (fun (w' : World) (hb : Below w.heap.size w w') => hrow.below hbl hb)
  have HZ := Lib.hid hz
  have B1 := Lib.hid (show ∀ ob, Below w.heap.size w (w.alloc ob) from fun ob => (Below.refl _ _).alloc (Nat.le_refl _) _)
  obtain ⟨R, hR⟩ : ∃ R, lkN (N + 1) s 0 0 = R := ⟨_, rfl⟩
  have HRR := Lib.hid hR
  obtain ⟨m, hm⟩ : ∃ m, s.length = m := ⟨_, rfl⟩
  have HM := Lib.hid hm
  obtain ⟨L, hL⟩ : ∃ L, N + 1 = L := ⟨_, rfl⟩
  rw [hL] at hR HGLEN HRR
  rw [hL, hR, hm]
  have hLb : L ≤ 100000 ∨ True := .inr trivial
  rw [hm] at hl h1 HGLEN
  clear hm hrow h hR hL hz hLb
  go_enter Try.func85, Try.ntmps85
  go_wp2_with fail
  refine (HGLEN.out _ (B1.out _)).mono ?_
  rintro e1 w1 ⟨rfl, rfl⟩
  go_wp2_with fail
  obtain ⟨V, hV⟩ : ∃ V, (w.alloc (.cells #[.int .i64 0, .int .i64 0, .int .i64 0] 121)).alloc (.cells #[.int .i64 (L : Int), .int .i64 0, .int .i64 (m : Int)] 121) = V := ⟨_, rfl⟩
  have HV := Lib.hid (show Look w L m 0 V by
    rw [← hV]
    refine ⟨there_below (there_new w _ _ _ (by simp)) (by simp) ((Below.refl _ _).alloc (Nat.le_refl _) _), ?_, ((Below.refl _ _).alloc (Nat.le_refl _) _).alloc (by simp) _⟩
    have := heap_last (w.alloc (.cells #[.int .i64 0, .int .i64 0, .int .i64 0] 121)) (.cells #[.int .i64 (L : Int), .int .i64 0, .int .i64 (m : Int)] 121)
    rwa [World.size_alloc] at this)
  try rw [hV]
  clear hV
  go_loopw [14] (fun i wr => ∃ (J : Nat) (acc : Int), Hid (lkN L (s.drop J) J acc = R) ∧ J ≤ m ∧ i = .int .i64 (J : Int) ∧ (0 ≤ acc ∧ acc ≤ 12 * (J : Int)) ∧ Look w L m acc wr) (fun i _ => m - (intOf i).toNat)
  case atStart => exact ⟨0, 0, HRR, by omega, rfl, by omega, HV.out⟩
  case round =>
    obtain ⟨J, acc, HA, hJ, rfl, ⟨ha0, ha1⟩, hlk⟩ := hrel
    obtain ⟨k0, k1, k2, kz, klt⟩ := hlk.cells
    have HLK := Lib.hid hlk
    by_cases hJm : J < m
    · have hJl : J < s.length := by rw [HM.out]; exact hJm
      obtain ⟨c0, c1, c2⟩ := (HROW.out _ hlk.2.2) J hJl
      have hA := HA.out
      rw [drop_cons' hJl] at hA
      have hsz := HZ.out _ (List.getElem_mem hJl)
      obtain ⟨⟨k, nn, t⟩, hnt⟩ : ∃ r, s[J] = r := ⟨_, rfl⟩
      rw [hnt] at c0 c1 c2 hA hsz
      have HA2 := Lib.hid hA
      have HSZ := Lib.hid hsz
      have hst : 0 ≤ szT (k, nn, t) ∧ szT (k, nn, t) ≤ 12 := by
        unfold szT
        split
        · omega
        · simp only at hsz ⊢; omega
      have hbr : b < wr.heap.size := Nat.lt_of_lt_of_le hbl hlk.2.2.size
      have hJ0 : (0 : Int) ≤ (J : Int) := Int.natCast_nonneg _
      have hJm' : (J : Int) < (m : Int) := by omega
      have HSV := Lib.hid (fun W => sizeT k nn t (by unfold maxLen; have := HSZ.out; simp only at this; omega) W)
      have HNV := Lib.hid (fun W => newT k nn t W)
      obtain ⟨z, hzz⟩ : ∃ z, szT (k, nn, t) = z := ⟨_, rfl⟩
      rw [hzz] at hst HSV
      have HZZ := Lib.hid hzz
      have hwz : IntKind.i64.wrap (acc + z) = acc + z := by rw [IntKind.wrap_i64]; omega
      have hmb : m ≤ 1000 := hl
      clear hzz
      clear hlk hnt hA hsz
      by_cases hJL : J < L
      · have hJL' : (J : Int) < (L : Int) := by omega
        have hal := tok_new wr k nn t 55
        by_cases h4 : k = 4
        · subst h4
          have HE := Lib.hid (show R = (-1, some J) from by rw [← HA2.out, lkN_hard hJL rfl])
          have HLD := HLK
          obtain ⟨D, hD⟩ : ∃ D, wr = D := ⟨_, rfl⟩
          clear hD hal
          obtain ⟨⟨u0, u1, u2, y0, y1, y2⟩, z0, z1, z2⟩ := there3 HLD.out.1
          have yl : w.heap.size < wr.heap.size := by omega
          have kz1 := kz 1
          have kz2 := kz 2
          go_wp2_with fail
          refine bodyPost_ret (v := .agg #[.int .i64 (L : Int), .int .i64 (-1), .int .i64 (J : Int)]) (by simp [results, Try.results85, go_sem, y0, y1, y2, z0, z1, z2, yl]) rfl ⟨by rw [HE.out]; rfl, ?_⟩
          repeat (first | exact HLD.out.2.2 | refine Below.setCell ?_ (by simp) _ | refine Below.alloc ?_ (by have := HLK.out.2.2.size; simp; omega) _)
        · have b4 : (k == 4) = false := beq_eq_false_iff_ne.2 h4
          go_wp2_with fail
          obtain ⟨D, hD⟩ : ∃ D, wr.alloc (.cells #[.int .i64 k, .int .i64 nn, .string t] 55) = D := ⟨_, rfl⟩
          have HLD := Lib.hid (show Look w L m acc D by rw [← hD]; exact HLK.out.below ((Below.refl _ _).alloc (Nat.le_refl _) _))
          have HTD := Lib.hid (show (D.cell? ⟨wr.heap.size, 0, none⟩ = some (.int .i64 k) ∧ D.cell? ⟨wr.heap.size, 1, none⟩ = some (.int .i64 nn) ∧ D.cell? ⟨wr.heap.size, 2, none⟩ = some (.string t)) ∧ wr.heap.size < D.heap.size from by rw [← hD]; exact ⟨hal, by simp⟩)
          have k1d := HLD.out.cells.2.1
          have HTO := Lib.hid (show w.heap.size + 1 ≠ wr.heap.size from by have := HLK.out.cells.2.2.2.2; omega)
          try rw [hD]
          clear hD
          try go_wp2_with fail
          refine wp_region_held_drew (S := (fun w' => w'.cell? ⟨wr.heap.size, 0, none⟩ = some (.int .i64 k) ∧ w'.cell? ⟨wr.heap.size, 1, none⟩ = some (.int .i64 nn) ∧ w'.cell? ⟨wr.heap.size, 2, none⟩ = some (.string t))) (by kernel_rfl) ?_ (fun hHeld => ?_)
          · exact HTD.out.1
          refine wpAnyH_take (i := 0) (v := ?_) rfl (by kernel_rfl) (by kernel_rfl) (by kernel_rfl) (fun _ _ _ h => h) (Or.inl ⟨by rfl, ?_⟩) (by assumption) ?_
          rotate_left
          · (intro w hSw; (try dsimp only at hSw); (go_simp <;> with_reducible rfl))
          try simp only [Act.put, List.setIfInBounds_toArray, List.set_cons_zero, List.set_cons_succ]
          refine wpAnyH_take (i := 2) (v := ?_) rfl (by kernel_rfl) (by kernel_rfl) (by kernel_rfl) (fun _ _ _ h => h) (Or.inl ⟨by rfl, ?_⟩) (by assumption) ?_
          rotate_left
          · (intro w hSw; (try dsimp only at hSw); (go_simp <;> with_reducible rfl))
          try simp only [Act.put, List.setIfInBounds_toArray, List.set_cons_zero, List.set_cons_succ]
          refine wpAnyH_ready (rs := [1, 3]) (by kernel_rfl) (by simp) ?_
          refine AllReadyH.cons (o := { dst := some 41, op := Op.load 3 (Operand.tmp 40), type := 3, pos := "l6_stream.go:227", after := #[{ on := 0, ground := Ground.data }], guard := none }) rfl (fun K hK => ?_) ?_
          · go_simp
            refine hK.out _ _ ?_ (fun hHeld1 => ?_)
            · exact HTD.out.1
            clear hK K hHeld
            try simp only [Act.put, List.setIfInBounds_toArray, List.set_cons_zero, List.set_cons_succ]
            refine wpAnyH_ready (rs := [3]) (by kernel_rfl) (by simp) ?_
            refine AllReadyH.cons (o := { dst := some 43, op := Op.call { callee := Callee.value (Operand.func 84), args := #[Operand.tmp 42], argTypes := #[55] }, type := 3, pos := "l6_stream.go:227", after := #[{ on := 2, ground := Ground.data }], guard := none }) rfl (fun K hK => ?_) AllReadyH.nil
            go_simp
            go_at_call 84
            refine (HSV.out _).mono ?_
            rintro e3 w3 ⟨rfl, hb3⟩
            have hlk3 := HLD.out.below ((Below.refl D.heap.size D).drew.trans hb3)
            have HT3 := Lib.hid (box3 HTD.out.1 HTD.out.2 ((Below.refl D.heap.size D).drew.trans hb3))
            obtain ⟨_, k1e, _, kze, _⟩ := hlk3.cells
            have kz1 := kze 1
            have HL3 := Lib.hid hlk3
            clear hb3 hlk3 kze k1d
            try go_wp2_with fail
            refine hK.out _ _ ?_ (fun hHeld3 => ?_)
            · exact HT3.out
            clear hK K hHeld1
            try simp only [Act.put, List.setIfInBounds_toArray, List.set_cons_zero, List.set_cons_succ]
            refine wpAnyH_take (i := 4) (v := ?_) rfl (by kernel_rfl) (by kernel_rfl) (by kernel_rfl) (fun _ _ _ h => h) (Or.inl ⟨by rfl, ?_⟩) (by assumption) ?_
            rotate_left
            · (intro w hSw; (try dsimp only at hSw); (go_simp <;> with_reducible rfl))
            try simp only [Act.put, List.setIfInBounds_toArray, List.set_cons_zero, List.set_cons_succ]
            refine wpAnyH_take (i := 5) (v := ?_) rfl (by kernel_rfl) (by kernel_rfl) (by kernel_rfl) (fun _ _ _ h => h) (Or.inl ⟨by rfl, ?_⟩) (by assumption) ?_
            rotate_left
            · (intro w hSw; (try dsimp only at hSw); (go_simp <;> with_reducible rfl))
            try simp only [Act.put, List.setIfInBounds_toArray, List.set_cons_zero, List.set_cons_succ]
            refine wpAnyH_ready (rs := [6]) (by kernel_rfl) (by simp) ?_
            refine AllReadyH.cons (o := { dst := none, op := Op.store 3 (Operand.tmp 45) (Operand.tmp 44), type := 0, pos := "l6_stream.go:227", after := #[{ on := 5, ground := Ground.data }, { on := 4, ground := Ground.data }, { on := 3, ground := Ground.chain }, { on := 0, ground := Ground.phase }, { on := 1, ground := Ground.phase }, { on := 2, ground := Ground.phase }, { on := 3, ground := Ground.phase }, { on := 4, ground := Ground.phase }], guard := none }) rfl (fun K hK => ?_) AllReadyH.nil
            go_simp
            refine hK.out _ _ ?_ (fun hHeld6 => ?_)
            · exact far3 HTO.out HT3.out
            clear hK K hHeld3
            try simp only [Act.put, List.setIfInBounds_toArray, List.set_cons_zero, List.set_cons_succ]
            refine wpAnyH_done (by kernel_rfl) ?_ _
            go_wp2_with fail
            go_roundw
            case rel => exact ⟨J + 1, acc + z, Lib.hid (by rw [← HA2.out, lkN_in hJL h4, HZZ.out]), by omega, by go_num, by omega, HL3.out.set (acc + z)⟩
            case measure => simp [intOf]; omega
          refine AllReadyH.cons (o := { dst := some 43, op := Op.call { callee := Callee.value (Operand.func 84), args := #[Operand.tmp 42], argTypes := #[55] }, type := 3, pos := "l6_stream.go:227", after := #[{ on := 2, ground := Ground.data }], guard := none }) rfl (fun K hK => ?_) AllReadyH.nil
          go_simp
          go_at_call 84
          refine (HSV.out _).mono ?_
          rintro e3 w3 ⟨rfl, hb3⟩
          have hlk3 := HLD.out.below ((Below.refl D.heap.size D).drew.trans hb3)
          have HT3 := Lib.hid (box3 HTD.out.1 HTD.out.2 ((Below.refl D.heap.size D).drew.trans hb3))
          obtain ⟨_, k1e, _, kze, _⟩ := hlk3.cells
          have kz1 := kze 1
          have HL3 := Lib.hid hlk3
          clear hb3 hlk3 kze k1d
          try go_wp2_with fail
          refine hK.out _ _ ?_ (fun hHeld3 => ?_)
          · exact HT3.out
          clear hK K hHeld
          try simp only [Act.put, List.setIfInBounds_toArray, List.set_cons_zero, List.set_cons_succ]
          refine wpAnyH_ready (rs := [1]) (by kernel_rfl) (by simp) ?_
          refine AllReadyH.cons (o := { dst := some 41, op := Op.load 3 (Operand.tmp 40), type := 3, pos := "l6_stream.go:227", after := #[{ on := 0, ground := Ground.data }], guard := none }) rfl (fun K hK => ?_) AllReadyH.nil
          go_simp
          refine hK.out _ _ ?_ (fun hHeld1 => ?_)
          · exact HT3.out
          clear hK K hHeld3
          try simp only [Act.put, List.setIfInBounds_toArray, List.set_cons_zero, List.set_cons_succ]
          refine wpAnyH_take (i := 4) (v := ?_) rfl (by kernel_rfl) (by kernel_rfl) (by kernel_rfl) (fun _ _ _ h => h) (Or.inl ⟨by rfl, ?_⟩) (by assumption) ?_
          rotate_left
          · (intro w hSw; (try dsimp only at hSw); (go_simp <;> with_reducible rfl))
          try simp only [Act.put, List.setIfInBounds_toArray, List.set_cons_zero, List.set_cons_succ]
          refine wpAnyH_take (i := 5) (v := ?_) rfl (by kernel_rfl) (by kernel_rfl) (by kernel_rfl) (fun _ _ _ h => h) (Or.inl ⟨by rfl, ?_⟩) (by assumption) ?_
          rotate_left
          · (intro w hSw; (try dsimp only at hSw); (go_simp <;> with_reducible rfl))
          try simp only [Act.put, List.setIfInBounds_toArray, List.set_cons_zero, List.set_cons_succ]
          refine wpAnyH_ready (rs := [6]) (by kernel_rfl) (by simp) ?_
          refine AllReadyH.cons (o := { dst := none, op := Op.store 3 (Operand.tmp 45) (Operand.tmp 44), type := 0, pos := "l6_stream.go:227", after := #[{ on := 5, ground := Ground.data }, { on := 4, ground := Ground.data }, { on := 3, ground := Ground.chain }, { on := 0, ground := Ground.phase }, { on := 1, ground := Ground.phase }, { on := 2, ground := Ground.phase }, { on := 3, ground := Ground.phase }, { on := 4, ground := Ground.phase }], guard := none }) rfl (fun K hK => ?_) AllReadyH.nil
          go_simp
          refine hK.out _ _ ?_ (fun hHeld6 => ?_)
          · exact far3 HTO.out HT3.out
          clear hK K hHeld1
          try simp only [Act.put, List.setIfInBounds_toArray, List.set_cons_zero, List.set_cons_succ]
          refine wpAnyH_done (by kernel_rfl) ?_ _
          go_wp2_with fail
          go_roundw
          case rel => exact ⟨J + 1, acc + z, Lib.hid (by rw [← HA2.out, lkN_in hJL h4, HZZ.out]), by omega, by go_num, by omega, HL3.out.set (acc + z)⟩
          case measure => simp [intOf]; omega
      · have hJL' : ¬ ((J : Int) < (L : Int)) := by omega
        have hal := tok_new wr k nn t 55
        cases hn : isN k with
        | true =>
          rw [hn] at HNV
          have HE := Lib.hid (show R = (acc, some J) from by rw [← HA2.out, lkN_new hJL hn])
          clear hn hal
          go_wp2_with fail
          refine (HNV.out _).mono ?_
          rintro e2 w2 ⟨rfl, hb2⟩
          have HLD := Lib.hid (HLK.out.below (((Below.refl _ _).alloc (Nat.le_refl _) _).trans (hb2.mono (by simp))))
          clear k0 k1 k2 kz hb2 c0 c1 c2
          obtain ⟨k0, k1, k2, kz, klt2⟩ := HLD.out.cells
          obtain ⟨⟨u0, u1, u2, y0, y1, y2⟩, z0, z1, z2⟩ := there3 HLD.out.1
          have yl : w.heap.size < w2.heap.size := by omega
          have kz2 := kz 2
          go_wp2_with fail
          refine bodyPost_ret (v := .agg #[.int .i64 (L : Int), .int .i64 acc, .int .i64 (J : Int)]) (by simp [results, Try.results85, go_sem, y0, y1, y2, z0, z1, z2, yl]) rfl ⟨by rw [HE.out]; rfl, ?_⟩
          repeat (first | exact HLD.out.2.2 | refine Below.setCell ?_ (by simp) _)
        | false =>
          rw [hn] at HNV
          go_wp2_with fail
          refine (HNV.out _).mono ?_
          rintro e2 w2 ⟨rfl, hb2⟩
          have HLD := Lib.hid (HLK.out.below (((Below.refl _ _).alloc (Nat.le_refl _) _).trans (hb2.mono (by simp))))
          have HTD := Lib.hid (And.intro (box3 hal (by simp) hb2) (show wr.heap.size < w2.heap.size from by have := hb2.size; simp at this; omega))
          clear k0 k1 k2 kz hb2 c0 c1 c2 hal
          obtain ⟨D, hD⟩ : ∃ D, w2 = D := ⟨_, rfl⟩
          subst hD
          have k1d := HLD.out.cells.2.1
          have HTO := Lib.hid (show w.heap.size + 1 ≠ wr.heap.size from by have := HLK.out.cells.2.2.2.2; omega)
          try go_wp2_with fail
          refine wp_region_held_drew (S := (fun w' => w'.cell? ⟨wr.heap.size, 0, none⟩ = some (.int .i64 k) ∧ w'.cell? ⟨wr.heap.size, 1, none⟩ = some (.int .i64 nn) ∧ w'.cell? ⟨wr.heap.size, 2, none⟩ = some (.string t))) (by kernel_rfl) ?_ (fun hHeld => ?_)
          · exact HTD.out.1
          refine wpAnyH_take (i := 0) (v := ?_) rfl (by kernel_rfl) (by kernel_rfl) (by kernel_rfl) (fun _ _ _ h => h) (Or.inl ⟨by rfl, ?_⟩) (by assumption) ?_
          rotate_left
          · (intro w hSw; (try dsimp only at hSw); (go_simp <;> with_reducible rfl))
          try simp only [Act.put, List.setIfInBounds_toArray, List.set_cons_zero, List.set_cons_succ]
          refine wpAnyH_take (i := 2) (v := ?_) rfl (by kernel_rfl) (by kernel_rfl) (by kernel_rfl) (fun _ _ _ h => h) (Or.inl ⟨by rfl, ?_⟩) (by assumption) ?_
          rotate_left
          · (intro w hSw; (try dsimp only at hSw); (go_simp <;> with_reducible rfl))
          try simp only [Act.put, List.setIfInBounds_toArray, List.set_cons_zero, List.set_cons_succ]
          refine wpAnyH_ready (rs := [1, 3]) (by kernel_rfl) (by simp) ?_
          refine AllReadyH.cons (o := { dst := some 41, op := Op.load 3 (Operand.tmp 40), type := 3, pos := "l6_stream.go:227", after := #[{ on := 0, ground := Ground.data }], guard := none }) rfl (fun K hK => ?_) ?_
          · go_simp
            refine hK.out _ _ ?_ (fun hHeld1 => ?_)
            · exact HTD.out.1
            clear hK K hHeld
            try simp only [Act.put, List.setIfInBounds_toArray, List.set_cons_zero, List.set_cons_succ]
            refine wpAnyH_ready (rs := [3]) (by kernel_rfl) (by simp) ?_
            refine AllReadyH.cons (o := { dst := some 43, op := Op.call { callee := Callee.value (Operand.func 84), args := #[Operand.tmp 42], argTypes := #[55] }, type := 3, pos := "l6_stream.go:227", after := #[{ on := 2, ground := Ground.data }], guard := none }) rfl (fun K hK => ?_) AllReadyH.nil
            go_simp
            go_at_call 84
            refine (HSV.out _).mono ?_
            rintro e3 w3 ⟨rfl, hb3⟩
            have hlk3 := HLD.out.below ((Below.refl w2.heap.size w2).drew.trans hb3)
            have HT3 := Lib.hid (box3 HTD.out.1 HTD.out.2 ((Below.refl w2.heap.size w2).drew.trans hb3))
            obtain ⟨_, k1e, _, kze, _⟩ := hlk3.cells
            have kz1 := kze 1
            have HL3 := Lib.hid hlk3
            clear hb3 hlk3 kze k1d
            try go_wp2_with fail
            refine hK.out _ _ ?_ (fun hHeld3 => ?_)
            · exact HT3.out
            clear hK K hHeld1
            try simp only [Act.put, List.setIfInBounds_toArray, List.set_cons_zero, List.set_cons_succ]
            refine wpAnyH_take (i := 4) (v := ?_) rfl (by kernel_rfl) (by kernel_rfl) (by kernel_rfl) (fun _ _ _ h => h) (Or.inl ⟨by rfl, ?_⟩) (by assumption) ?_
            rotate_left
            · (intro w hSw; (try dsimp only at hSw); (go_simp <;> with_reducible rfl))
            try simp only [Act.put, List.setIfInBounds_toArray, List.set_cons_zero, List.set_cons_succ]
            refine wpAnyH_take (i := 5) (v := ?_) rfl (by kernel_rfl) (by kernel_rfl) (by kernel_rfl) (fun _ _ _ h => h) (Or.inl ⟨by rfl, ?_⟩) (by assumption) ?_
            rotate_left
            · (intro w hSw; (try dsimp only at hSw); (go_simp <;> with_reducible rfl))
            try simp only [Act.put, List.setIfInBounds_toArray, List.set_cons_zero, List.set_cons_succ]
            refine wpAnyH_ready (rs := [6]) (by kernel_rfl) (by simp) ?_
            refine AllReadyH.cons (o := { dst := none, op := Op.store 3 (Operand.tmp 45) (Operand.tmp 44), type := 0, pos := "l6_stream.go:227", after := #[{ on := 5, ground := Ground.data }, { on := 4, ground := Ground.data }, { on := 3, ground := Ground.chain }, { on := 0, ground := Ground.phase }, { on := 1, ground := Ground.phase }, { on := 2, ground := Ground.phase }, { on := 3, ground := Ground.phase }, { on := 4, ground := Ground.phase }], guard := none }) rfl (fun K hK => ?_) AllReadyH.nil
            go_simp
            refine hK.out _ _ ?_ (fun hHeld6 => ?_)
            · exact far3 HTO.out HT3.out
            clear hK K hHeld3
            try simp only [Act.put, List.setIfInBounds_toArray, List.set_cons_zero, List.set_cons_succ]
            refine wpAnyH_done (by kernel_rfl) ?_ _
            go_wp2_with fail
            go_roundw
            case rel => exact ⟨J + 1, acc + z, Lib.hid (by rw [← HA2.out, lkN_out hJL hn, HZZ.out]), by omega, by go_num, by omega, HL3.out.set (acc + z)⟩
            case measure => simp [intOf]; omega
          refine AllReadyH.cons (o := { dst := some 43, op := Op.call { callee := Callee.value (Operand.func 84), args := #[Operand.tmp 42], argTypes := #[55] }, type := 3, pos := "l6_stream.go:227", after := #[{ on := 2, ground := Ground.data }], guard := none }) rfl (fun K hK => ?_) AllReadyH.nil
          go_simp
          go_at_call 84
          refine (HSV.out _).mono ?_
          rintro e3 w3 ⟨rfl, hb3⟩
          have hlk3 := HLD.out.below ((Below.refl w2.heap.size w2).drew.trans hb3)
          have HT3 := Lib.hid (box3 HTD.out.1 HTD.out.2 ((Below.refl w2.heap.size w2).drew.trans hb3))
          obtain ⟨_, k1e, _, kze, _⟩ := hlk3.cells
          have kz1 := kze 1
          have HL3 := Lib.hid hlk3
          clear hb3 hlk3 kze k1d
          try go_wp2_with fail
          refine hK.out _ _ ?_ (fun hHeld3 => ?_)
          · exact HT3.out
          clear hK K hHeld
          try simp only [Act.put, List.setIfInBounds_toArray, List.set_cons_zero, List.set_cons_succ]
          refine wpAnyH_ready (rs := [1]) (by kernel_rfl) (by simp) ?_
          refine AllReadyH.cons (o := { dst := some 41, op := Op.load 3 (Operand.tmp 40), type := 3, pos := "l6_stream.go:227", after := #[{ on := 0, ground := Ground.data }], guard := none }) rfl (fun K hK => ?_) AllReadyH.nil
          go_simp
          refine hK.out _ _ ?_ (fun hHeld1 => ?_)
          · exact HT3.out
          clear hK K hHeld3
          try simp only [Act.put, List.setIfInBounds_toArray, List.set_cons_zero, List.set_cons_succ]
          refine wpAnyH_take (i := 4) (v := ?_) rfl (by kernel_rfl) (by kernel_rfl) (by kernel_rfl) (fun _ _ _ h => h) (Or.inl ⟨by rfl, ?_⟩) (by assumption) ?_
          rotate_left
          · (intro w hSw; (try dsimp only at hSw); (go_simp <;> with_reducible rfl))
          try simp only [Act.put, List.setIfInBounds_toArray, List.set_cons_zero, List.set_cons_succ]
          refine wpAnyH_take (i := 5) (v := ?_) rfl (by kernel_rfl) (by kernel_rfl) (by kernel_rfl) (fun _ _ _ h => h) (Or.inl ⟨by rfl, ?_⟩) (by assumption) ?_
          rotate_left
          · (intro w hSw; (try dsimp only at hSw); (go_simp <;> with_reducible rfl))
          try simp only [Act.put, List.setIfInBounds_toArray, List.set_cons_zero, List.set_cons_succ]
          refine wpAnyH_ready (rs := [6]) (by kernel_rfl) (by simp) ?_
          refine AllReadyH.cons (o := { dst := none, op := Op.store 3 (Operand.tmp 45) (Operand.tmp 44), type := 0, pos := "l6_stream.go:227", after := #[{ on := 5, ground := Ground.data }, { on := 4, ground := Ground.data }, { on := 3, ground := Ground.chain }, { on := 0, ground := Ground.phase }, { on := 1, ground := Ground.phase }, { on := 2, ground := Ground.phase }, { on := 3, ground := Ground.phase }, { on := 4, ground := Ground.phase }], guard := none }) rfl (fun K hK => ?_) AllReadyH.nil
          go_simp
          refine hK.out _ _ ?_ (fun hHeld6 => ?_)
          · exact far3 HTO.out HT3.out
          clear hK K hHeld1
          try simp only [Act.put, List.setIfInBounds_toArray, List.set_cons_zero, List.set_cons_succ]
          refine wpAnyH_done (by kernel_rfl) ?_ _
          go_wp2_with fail
          go_roundw
          case rel => exact ⟨J + 1, acc + z, Lib.hid (by rw [← HA2.out, lkN_out hJL hn, HZZ.out]), by omega, by go_num, by omega, HL3.out.set (acc + z)⟩
          case measure => simp [intOf]; omega
    · obtain rfl : J = m := by omega
      have hA := HA.out
      rw [List.drop_eq_nil_of_le (by have := HM.out; omega)] at hA
      have HE := Lib.hid (show R = (acc, none) from by rw [← hA]; rfl)
      obtain ⟨⟨u0, u1, u2, y0, y1, y2⟩, z0, z1, z2⟩ := there3 hlk.1
      have yl : w.heap.size < wr.heap.size := by omega
      clear hA hlk
      go_wp2_with fail
      refine bodyPost_ret (v := .agg #[.int .i64 (L : Int), .int .i64 acc, .int .i64 (J : Int)]) (by simp [results, Try.results85, go_sem, y0, y1, y2, z0, z1, z2, yl]) rfl ⟨by rw [HE.out]; rfl, ?_⟩
      repeat (first | exact HLK.out.2.2 | refine Below.setCell ?_ (by simp) _)

end Go.Proofs.Ytcealfjkcbaelaa.Tk

