import Derived.Test.YtcealfjkcbaelaaTkA
import Derived.Test.YtcealfjkcbaelaaTkH
import Derived.Test.YtcealfjkcbaelaaCsA
import Derived.Lib.MinMax
/-
  LookAhead of the program.
-/
set_option linter.unusedVariables false
set_option linter.unusedSimpArgs false
namespace Go.Proofs.Ytcealfjkcbaelaa.Tk
open Go.RowKit P1 TextV

theorem la_no {W : Int} {l : List Tok} (h : Cst.wv W = false) : laR W l = (0, false) := by
  have : (decide (0 ≤ W) && decide (W ≤ 200)) = false := h
  simp [laR, this]
theorem la_bad {W : Int} {l : List Tok} (h : tkv l = false) : laR W l = (0, false) := by simp [laR, h]
theorem la_yes {W : Int} {l : List Tok} (h : Cst.wv W = true) (hv : tkv l = true) : laR W l = ((mxA l : Int), true) := by
  have : (decide (0 ≤ W) && decide (W ≤ 200)) = true := h
  simp only [laR, this, hv, Bool.and_self, if_true]
theorem field2 : ∀ (w : World) (L z y : Int), (Instr.field 121 (.agg #[.int .i64 L, .int .i64 z, .int .i64 y]) 2).run Try.prog w = .ok (.int .i64 y) w := fun _ _ _ _ => by kernel_rfl
/-- a number, and whether there is one -/
def NOut (w : World) (R : Int × Bool) (e : Ending) (w' : World) : Prop := e = .returned (.tuple #[.int .i64 R.1, .bool R.2]) ∧ Below w.heap.size w w'

set_option maxRecDepth 100000 in
set_option maxHeartbeats 3200000 in
theorem implLookAhead (l : List Tok) (W : Int) (w : World) (a : Option Addr) (cap : Nat) (fs : List Nat) (hs : TkSub w a l fs) (hc : l.length ≤ cap) (hl : l.length ≤ maxLen) (hft : TL.Fits l) :
    Calls Try.prog 39 #[.slice a l.length cap, .int .i64 W] w (NOut w (laR W l)) := by
  have HWV := Lib.hid (Cst.widthValid W)
  have HTV := Lib.hid (implTokensValid l w a cap fs hs hc hl hft)
  unfold NOut
  cases hw : Cst.wv W with
  | false =>
    rw [hw] at HWV
    rw [la_no hw]
    clear hs hw
    go_enter Try.func39, Try.ntmps39
    go_wp2_with fail
    refine (HWV.out _).mono ?_
    rintro e0 w0 ⟨rfl, rfl⟩
    go_wp2_with fail
    go_ret2
    exact ⟨rfl, Below.refl _ _⟩
  | true =>
    rw [hw] at HWV
    cases htv : tkv l with
    | false =>
      rw [htv] at HTV
      rw [la_bad htv]
      clear hs hw htv
      unfold maxLen at hl
      go_enter Try.func39, Try.ntmps39
      go_wp2_with fail
      refine (HWV.out _).mono ?_
      rintro e0 w0 ⟨rfl, rfl⟩
      go_wp2_with fail
      refine HTV.out.mono ?_
      rintro e1 w1 ⟨rfl, hb1⟩
      have H1 := Lib.hid hb1
      clear hb1
      go_wp2_with fail
      go_ret2
      exact ⟨rfl, H1.out⟩
    | true =>
      rw [htv] at HTV
      rw [la_yes hw htv]
      have hlen := tkv_len htv
      have HR := Lib.hid (show ∀ k, (h : k < l.length) → ∃ b off, a = some ⟨b, off, none⟩ ∧ b < w.heap.size ∧ TkAt w l b off from fun k h => by
        rcases hs with ⟨rfl, _⟩ | ⟨b, off, ha, hn, _, hr⟩
        · simp at h
        · exact ⟨b, off, ha, hr.lt hn, hr⟩)
      have HV := Lib.hid htv
      obtain ⟨m, hm⟩ : ∃ m, l.length = m := ⟨_, rfl⟩
      have HM := Lib.hid hm
      obtain ⟨A, hA⟩ : ∃ A, mxA l = A := ⟨_, rfl⟩
      have HA := Lib.hid hA
      rw [hA]
      rw [hm] at hc hl hlen HTV ⊢
      clear htv hs hm hft hA hw
      unfold maxLen at hl
      go_enter Try.func39, Try.ntmps39
      go_wp2_with fail
      refine (HWV.out _).mono ?_
      rintro e0 w0 ⟨rfl, rfl⟩
      go_wp2_with fail
      refine HTV.out.mono ?_
      rintro e1 w1 ⟨rfl, hb1⟩
      have H1 := Lib.hid hb1
      clear hb1
      go_wp2_with fail
      go_loopw [6, 19] (fun v i wr => ∃ (j q : Nat), j ≤ m ∧ Hid (max q (mxA (l.drop j)) = A) ∧ i = .int .i64 (j : Int) ∧ v = .int .i64 (q : Int) ∧ Below w0.heap.size w0 wr) (fun _ i _ => m - (intOf i).toNat)
      case atStart => exact ⟨0, 0, by omega, Lib.hid (by rw [List.drop_zero, HA.out]; omega), rfl, rfl, H1.out⟩
      case round =>
        obtain ⟨j, q, hj, HQ, rfl, rfl, hbw⟩ := hrel
        by_cases hjm : j < m
        · have hkl : j < l.length := by rw [HM.out]; exact hjm
          obtain ⟨b, off, rfl, hb, hrow⟩ := HR.out j hkl
          obtain ⟨c0, c1, c2⟩ := (hrow.below hb hbw) j hkl
          have HROW := Lib.hid (fun (w' : World) (h : Below w0.heap.size w0 w') => hrow.below hb h)
          obtain ⟨⟨k, nn, t⟩, hnt⟩ : ∃ r, l[j] = r := ⟨_, rfl⟩
          have HNT := Lib.hid hnt
          rw [hnt] at c0 c1 c2
          have HBW := Lib.hid hbw
          have hbr : b < wr.heap.size := Nat.lt_of_lt_of_le hb hbw.size
          have i0 : (0 : Int) ≤ (j : Int) := Int.natCast_nonneg _
          have i1 : (j : Int) < (m : Int) := by omega
          have HMX := Lib.hid (mxA_drop hkl)
          have HB1 := Lib.hid (show ∀ ob, Below w0.heap.size w0 (wr.alloc ob) from fun ob => hbw.alloc hbw.size ob)
          clear hrow hnt hbw
          by_cases h5 : k = 5
          · subst h5
            obtain ⟨N, hN⟩ := glo_valid HV.out hkl (by rw [HNT.out])
            have hall : ∀ r ∈ l, r.2.2.size ≤ 12 := fun r hr => by
              obtain ⟨q, hq, rfl⟩ := List.getElem_of_mem hr
              exact kt_size (tkv_kt HV.out hq)
            have hdl : (l.drop j).length = m - j := by rw [List.length_drop, HM.out]
            have HLF := Lib.hid (fun (W' : World) (hW : Below w0.heap.size w0 W') => show Calls Try.prog 85 #[.slice (some ⟨b, off + j * 3, none⟩) (m - j) (cap - j)] W' _ from by
              have h := lookFrom (l.drop j) W' b (off + j * 3) (cap - j) ((HROW.out _ hW).drop j) (by rw [hdl]; omega) (by rw [hdl]; omega) N (by rw [List.drop_drop, Nat.add_comm]; first | exact hN | (rw [Nat.add_comm]; exact hN)) (fun r hr => hall r (List.mem_of_mem_drop hr))
              rw [hdl] at h
              exact h)
            have hgl : gL (l.drop j) = N + 1 := gL_eq (by rw [List.drop_drop]; exact hN)
            have hnx := lkN_nxt (N + 1) (l.drop j) 0 0
            rw [Nat.zero_add, hdl] at hnx
            obtain ⟨z, hz⟩ : ∃ z, nxt (N + 1) (l.drop j) 0 = z := ⟨_, rfl⟩
            rw [hz] at hnx
            rw [hnx] at HLF
            have HQ2 := Lib.hid (show max (max q z) (mxA (l.drop (j + 1))) = A from by
              have h1 := HQ.out
              rw [HMX.out, HNT.out, if_pos rfl, hgl, hz] at h1; omega)
            have hz1 : z ≤ m := by have := nxt_le (N + 1) (l.drop j) 0; rw [hz, hdl] at this; omega
            clear hN hall hnx hgl hz hdl
            have hfd := field2
            have j0 : (j : Int) ≤ (m : Int) := by omega
            have j1 : (m : Int) ≤ (cap : Int) := by omega
            go_wp2_with fail
            refine (HLF.out _ (HB1.out _)).mono ?_
            rintro e3 w3 ⟨rfl, hb4⟩
            have HB4 := Lib.hid ((HB1.out _).trans (hb4.mono (HB1.out _).size))
            clear hb4 c0 c1 c2
            go_wp2_with fail
            go_roundw
            case rel => exact ⟨j + 1, max q z, by omega, HQ2, by go_num, by congr 1; omega, HB4.out⟩
            case measure => simp [intOf]; omega
          · have b5 : (k == 5) = false := beq_eq_false_iff_ne.2 h5
            have HQ2 := Lib.hid (show max q (mxA (l.drop (j + 1))) = A from by
              have h1 := HQ.out
              rw [HMX.out, HNT.out, if_neg h5] at h1; omega)
            go_wp2_with fail
            go_roundw
            case rel => exact ⟨j + 1, q, by omega, HQ2, by go_num, by first | rfl | trivial, HB1.out _⟩
            case measure => simp [intOf]; omega
        · obtain rfl : j = m := by omega
          have HBW := Lib.hid hbw
          have hq := HQ.out
          rw [List.drop_eq_nil_of_le (by rw [HM.out]; exact Nat.le_refl _)] at hq
          have HE := Lib.hid (show A = q from by rw [← hq]; show max q 0 = q; omega)
          clear hbw hq
          go_wp2_with fail
          go_ret2
          exact ⟨by rw [HE.out]; rfl, HBW.out⟩

end Go.Proofs.Ytcealfjkcbaelaa.Tk

