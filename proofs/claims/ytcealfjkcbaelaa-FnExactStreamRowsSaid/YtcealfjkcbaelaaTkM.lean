import Derived.Test.YtcealfjkcbaelaaTkP
import Derived.Test.YtcealfjkcbaelaaLyA
/-
  What the law's own helper that writes marks into a list of tokens comes to.
-/
set_option linter.unusedVariables false
set_option linter.unusedSimpArgs false
namespace Go.Proofs.Ytcealfjkcbaelaa.TkM
open Go.RowKit P1 MarkT
open LayM (ret_int markTextI)

set_option maxHeartbeats 400000 in
theorem mark_nil (w : World) (a : Option Addr) (cap m : Nat) (h1 : 1 ≤ m) (h2 : m ≤ 1099511627776) :
    Calls Try.prog 53 #[.slice a 0 cap, .int .i64 (m : Int)] w fun e w' => e = .returned (.int .i64 (m : Int)) ∧ True ∧ Only [] w w' := by
  go_enter Try.func53, Try.ntmps53
  go_wp2_with fail
  go_loopw [5, 1] (fun i k wr => i = .int .i64 0 ∧ k = .int .i64 (m : Int) ∧ wr = w) (fun _ _ _ => 0)
  case atStart => exact ⟨rfl, rfl, rfl⟩
  case round =>
    obtain ⟨rfl, rfl, rfl⟩ := hrel
    go_wp2_with fail
    go_ret
    exact ⟨rfl, trivial, Only.refl _ _⟩

set_option maxRecDepth 100000 in
set_option maxHeartbeats 3200000 in
theorem mark_row (l : List (Int × Int × ByteArray)) (w : World) (b off cap lo m : Nat) (hrow : TkAt w l b off) (hF : Fresh lo w [b]) (hcap : l.length ≤ cap) (h1 : 1 ≤ m) (h2 : m + 3 * l.length ≤ 1099511627000) (hne : l ≠ []) :
    Calls Try.prog 53 #[.slice (some ⟨b, off, none⟩) l.length cap, .int .i64 (m : Int)] w fun e w' => e = .returned (.int .i64 ((m + 3 * l.length : Nat) : Int)) ∧ True ∧ Only [b] w w' := by
  obtain ⟨n, hn⟩ : ∃ n, l.length = n := ⟨_, rfl⟩
  rw [hn] at hcap h2 ⊢
  have HN := Lib.hid hn
  have HF := Lib.hid hF
  have HR := Lib.hid hrow
  clear hn hF hrow
  go_enter Try.func53, Try.ntmps53
  go_wp2_with fail
  go_loopw [5, 1] (fun i k wr => ∃ j kk : Nat, Hid (kk = m + 3 * j) ∧ j ≤ n ∧ kk ≤ 1099511627000 ∧ 1 ≤ kk ∧ i = .int .i64 j ∧ k = .int .i64 kk ∧ (∃ X, Hid (X.length = n) ∧ TkAt wr X b off) ∧ Only [b] w wr) (fun i _ _ => n - (intOf i).toNat)
  case atStart => exact ⟨0, m, Lib.hid rfl, by omega, by omega, h1, rfl, rfl, ⟨_, HN, HR.out⟩, Only.refl _ _⟩
  case round =>
    obtain ⟨j, kk, HE, hj, hkk, hk1, rfl, rfl, ⟨X, HX, hrw⟩, hO⟩ := hrel
    by_cases hjn : j < n
    · have hjl : j < X.length := by rw [HX.out]; exact hjn
      have hFr : Fresh lo wr [b] := hO.fresh HF.out
      have hkm : kk + 3 ≤ 1099511627000 := by have := HE.out; omega
      obtain ⟨⟨n0, m0, t0⟩, hg⟩ : ∃ r, X[j] = r := ⟨_, rfl⟩
      obtain ⟨c0, c1, c2⟩ := hrw j hjl
      rw [hg] at c0 c1 c2
      have z : ∀ x, wr.frozen? ⟨b, x, none⟩ = false := (hFr.2 b (by simp)).2.2
      have hbr : b < wr.heap.size := hFr.lt b (by simp)
      have z0 := z (off + j * 3)
      have z1 := z (off + j * 3 + 1)
      have g1 := hrw.setK hjl hg (kk : Int)
      have hjl1 : j < (X.set j ((kk : Int), m0, t0)).length := by rw [List.length_set]; exact hjl
      have g2 := g1.setN hjl1 (by rw [List.getElem_set_self]) ((kk : Int) + 1)
      rw [List.set_set] at g2
      have hjl2 : j < (X.set j ((kk : Int), (kk : Int) + 1, t0)).length := by rw [List.length_set]; exact hjl
      have hO1 : Only [b] wr ((wr.setCell ⟨b, off + j * 3, none⟩ (.int .i64 (kk : Int))).setCell ⟨b, off + j * 3 + 1, none⟩ (.int .i64 ((kk : Int) + 1))) := ((Only.refl _ _).setCell (by simp) _).setCell (by simp) _
      have H := Lib.hid (And.intro hO (And.intro hFr (And.intro g2 (And.intro hjl2 hO1))))
      have d1 := (World.cell?_setCell_other wr ⟨b, off + j * 3, none⟩ ⟨b, off + j * 3 + 1, none⟩ (.int .i64 (kk : Int)) (by simp)).trans c1
      clear hO hFr hrw z hg g1 g2 hjl hjl1 hjl2 hO1
      go_wp2_with fail
      refine (markTextI _ (kk + 2) (by omega) _ (by omega) (by omega)).mono ?_
      rintro e1 w3 ⟨rfl, hb3⟩
      have hO3 : Only [b] wr w3 := H.out.2.2.2.2.trans (Only.of_below hb3)
      have hF3 := hO3.fresh H.out.2.1
      have g3 : TkAt w3 _ b off := H.out.2.2.1.below (by simp; omega) hb3
      have c3 := (g3 j H.out.2.2.2.1).2.2
      rw [List.getElem_set_self] at c3
      have z2 := (hF3.2 b (by simp)).2.2 (off + j * 3 + 2)
      have l3 : b < w3.heap.size := hF3.lt b (by simp)
      have g4 := g3.setT (k := j) (n := (kk : Int)) (m := (kk : Int) + 1) (t := t0) H.out.2.2.2.1 (by rw [List.getElem_set_self]) (mt (kk + 2))
      have hO4 : Only [b] w3 (w3.setCell ⟨b, off + j * 3 + 2, none⟩ (.string (mt (kk + 2)))) := (Only.refl _ _).setCell (by simp) _
      have H4 := Lib.hid (And.intro g4 (hO3.trans hO4))
      clear g3 hO3 hF3 g4 hb3 c0 c1 c2 d1 z0 z1 hO4
      go_wp2_with fail
      go_roundw
      case rel =>
        refine ⟨j + 1, kk + 3, Lib.hid (by have := HE.out; omega), by omega, by omega, by omega, by go_num, by go_num, ⟨_, Lib.hid (by rw [List.length_set, List.length_set]; exact HX.out), H4.out.1⟩, H.out.1.trans H4.out.2⟩
      case measure => simp [intOf]; omega
    · have HO := Lib.hid hO
      clear hrw hO
      go_wp2_with fail
      go_ret
      obtain rfl : j = n := by omega
      exact ⟨ret_int (by rw [HE.out]), trivial, HO.out⟩

/-- What markTokenS comes to. -/
theorem markTokenS (l : List (Int × Int × ByteArray)) (m z : Nat) (x : Int) (hx : x = (m : Int)) (hz : m + 3 * l.length = z) (h1 : 1 ≤ m) (h2 : z ≤ 1099511627000) (w : World) (a : Option Addr) (cap : Nat) (fs : List Nat) (lo : Nat) (hs : TkSub w a l fs) (hF : Fresh lo w fs) (hc : l.length ≤ cap) :
    Calls Try.prog 53 #[.slice a l.length cap, .int .i64 x] w fun e w' => e = .returned (.int .i64 (z : Int)) ∧ True ∧ Only fs w w' := by
  subst hx hz
  rcases hs with ⟨rfl, rfl⟩ | ⟨b, off, rfl, hn, rfl, hr⟩
  · simpa using mark_nil w a cap m h1 (by omega)
  · exact mark_row l w b off cap lo m hr hF hc h1 h2 hn

end Go.Proofs.Ytcealfjkcbaelaa.TkM

