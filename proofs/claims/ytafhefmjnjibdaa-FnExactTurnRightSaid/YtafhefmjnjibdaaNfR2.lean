import Derived.Test.YtafhefmjnjibdaaRfL
import Derived.Test.YtafhefmjnjibdaaNfR1
/-
  slices.Backward of the program over a row of documents, each with its place in the row.
-/
set_option linter.unusedVariables false
set_option linter.unusedSimpArgs false
namespace Go.Proofs.Ytafhefmjnjibdaa.Nf
open Go.RowKit P1 Copy Rf
attribute [local go_sem] Oper.semAt_some

set_option maxRecDepth 100000 in
theorem backK (a : Option Addr) (n cap : Nat) (w : World) : Calls Try.prog 149 #[.slice a n cap] w fun e w' => e = .returned (.func (.func 165) #[] #[.pointer (some ⟨w.heap.size, 0, none⟩)]) ∧ w' = w.alloc (.cells #[.slice a n cap] 23) := by
  go_enter Try.func149, Try.ntmps149
  go_wp2_with fail
  go_ret
  exact ⟨rfl, rfl⟩

/-- what is handed over: the document at the place len - 1 - j of a row -/
def XA (w0 : World) (K : F) (b off : Nat) (j : Nat) (args : Array Value) (A W : World) : Prop := ∃ (q : Nat) (p : F) (o n : Int) (t : ByteArray) (k r : F) (a : Option Addr) (cap : Nat),
  K = p.app (.cons o n t k r) ∧ p.len = q ∧ q + 1 + j = K.len ∧ args = #[.int .i64 (q : Int), .agg #[.int .i64 o, .int .i64 n, .string t, .slice a k.len cap]] ∧ w0.cell? ⟨b, off + q * 4 + 3, none⟩ = some (.slice a k.len cap)

set_option maxRecDepth 100000 in
set_option maxHeartbeats 3200000 in
theorem backAt {B cb : Nat} {w0 wx : World} (hb0 : Below B w0 wx) {K : F} {b0 off cap : Nat} {fs : List Nat} (hK : RowAt w0 K b0 off fs) (hB0 : b0 < B) (hbox : wx.cell? ⟨cb, 0, none⟩ = some (.slice (some ⟨b0, off, none⟩) K.len cap)) (hlen : K.len ≤ 4194304) :
    Gives Try.prog 165 #[.pointer (some ⟨cb, 0, none⟩)] (XA w0 K b0 off) (fun c => c < B ∨ c = cb) K.len wx := by
  intro m l J Jx W hm hW hY h0
  have hcbl : cb < wx.heap.size := World.block_lt_of_cell? wx _ hbox
  have HKEEP := Lib.hid (show ∀ w, Keep (fun c => c < B ∨ c = cb) W w → w.cell? ⟨cb, 0, none⟩ = some (.slice (some ⟨b0, off, none⟩) K.len cap) ∧ (∀ c o, c < B → c < w0.heap.size → w.cell? ⟨c, o, none⟩ = w0.cell? ⟨c, o, none⟩) from fun w h => by
    refine ⟨?_, fun c o hc h0 => ?_⟩
    · rw [World.cell?_of_block (w := W) (h.2 cb (Or.inr rfl) (Nat.lt_of_lt_of_le hcbl hW.size)), hW.cell hcbl]; exact hbox
    · rw [World.cell?_of_block (w := W) (h.2 c (Or.inl hc) (Nat.lt_of_lt_of_le h0 (Nat.le_trans hb0.size hW.size))), hW.cell (Nat.lt_of_lt_of_le h0 hb0.size)]
      exact Below.cell (p := ⟨c, o, none⟩) hb0 hc)
  have hcb := (HKEEP.out W (Keep.refl _ _)).1
  obtain ⟨N, hN⟩ : ∃ N, K.len = N := ⟨_, rfl⟩
  have HK := Lib.hid (And.intro hK hN)
  rw [hN] at hlen hY hcb HKEEP ⊢
  have HY := Lib.hid hY
  clear hY hN hK hW hbox hb0 hcbl
  refine callsIn_of_wp Try.func165 rfl trivial ?_ rfl
  simp only [Try.ntmps165, List.size_toArray, List.length_cons, List.length_nil, Nat.reduceAdd, Nat.reduceSub, Array.replicate_succ, Array.replicate_zero, List.push_toArray, List.append_toArray, List.nil_append, List.cons_append]
  gi_wp2_with fail
  gi_loopw [3] (fun i wr => ∃ (q : Nat) (A : World), q ≤ N ∧ i = .int .i64 ((q : Int) - 1) ∧ J (N - q) A ∧ Ext A wr ∧ Keep (fun c => c < B ∨ c = cb) W wr) (fun i _ => (intOf i + 1).toNat)
  case atStart => exact ⟨N, W, Nat.le_refl _, rfl, by rw [Nat.sub_self]; exact h0, Ext.refl _, Keep.refl _ _⟩
  case round =>
    obtain ⟨q, A, hq, rfl, hJ, hA, hKp⟩ := hrel
    cases q with
    | zero =>
      rw [show ((0 : Nat) : Int) - 1 = -1 by omega]
      rw [Nat.sub_zero] at hJ
      gi_wp2_with fail
      go_end0
      exact ⟨⟨_, rfl⟩, .inl ⟨A, hJ, hA⟩⟩
    | succ q =>
      rw [show ((q + 1 : Nat) : Int) - 1 = (q : Int) by omega]
      obtain ⟨c1, hbel⟩ := HKEEP.out wr hKp
      obtain ⟨hrow, hN⟩ := HK.out
      obtain ⟨p, o, n, t, k, r, hsp, hpl⟩ := F.at_len K q (by omega)
      · rw [hsp] at hrow
        obtain ⟨a1, cap1, f1, d0, d1, d2, d3, hc1, hsub1, hin⟩ := row_at hrow
        rw [hpl] at d0 d1 d2 d3
        have hb1l : b0 < w0.heap.size := World.block_lt_of_cell? w0 _ d0
        have hXA : XA w0 K b0 off (N - (q + 1)) #[.int .i64 (q : Int), .agg #[.int .i64 o, .int .i64 n, .string t, .slice a1 k.len cap1]] A wr :=
          ⟨q, p, o, n, t, k, r, a1, cap1, hsp, hpl, by omega, rfl, d3⟩
        rw [← hbel b0 _ hB0 hb1l] at d0 d1 d2 d3
        obtain ⟨fn, tmps, assign, body, hy, hR⟩ := HY.out (N - (q + 1)) _ A wr (by omega) hJ hA hXA
        have HR := Lib.hid hR
        have hqq : ((N - (q + 1) + 1 : Nat)) = N - q := by omega
        rw [hqq] at HR
        have i0 : (0 : Int) ≤ (q : Int) := Int.natCast_nonneg _
        have i1 : (q : Int) < (N : Int) := by omega
        have HKP := Lib.hid hKp
        clear hR hKp hXA hsub1 hin hrow hbel hsp hpl hqq hJ hA
        gi_wp2_with fail
        refine HR.out.mono ?_
        rintro e W3 (⟨rfl, hJ3, hk3⟩ | ⟨rfl, hJx3⟩)
        · have HK3 := Lib.hid (HKP.out.trans hk3)
          have HJ3 := Lib.hid hJ3
          clear hJ3 hk3 hy
          gi_wp2_with fail
          go_roundw
          case rel => exact ⟨q, W3, by omega, by go_num, HJ3.out, Ext.refl _, HK3.out⟩
          case measure => simp [intOf]
        · have HJ3 := Lib.hid hJx3
          clear hJx3 hy
          gi_wp2_with fail
          refine bodyPost_ret (results_none rfl _ _ _) rfl ?_
          exact ⟨⟨_, rfl⟩, .inr ⟨_, HJ3.out, Ext.refl _⟩⟩

end Go.Proofs.Ytafhefmjnjibdaa.Nf

