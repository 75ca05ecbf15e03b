import Derived.Test.YtcealfjkcbaelaaTkU
import Derived.Test.YtcealfjkcbaelaaLyA
/-
  StreamRows and LookAhead of the model.
-/
set_option linter.unusedVariables false
set_option linter.unusedSimpArgs false
namespace Go.Proofs.Ytcealfjkcbaelaa.Sq
open Go.RowKit Go.Shelf P1 Cnt CntC Flat Wid ChP Rn Bwd RnM Rq
open Tk hiding run
open LayN (cells2 cells2_len cells2_one at_cells2 LayRes LayRes.none')
theorem la_ahead {W : Int} {l : List Tok} (hv : tkv l = true) : (str W l.length l St.zero [0] 0).2 = mxA l := by
  rw [str_ahead W l.length l _ _ _ (Nat.le_refl _) (Cl.of hv)]; omega

section
variable (l : List Tok) (W : Int) (w : World) (a : Option Addr) (cap : Nat) (fs : List Nat)
set_option maxRecDepth 100000 in
set_option maxHeartbeats 1600000 in
theorem specLookAhead (hs : TkSub w a l fs) (hc : l.length ≤ cap) (hl : l.length ≤ maxLen) (hft : TL.Fits l) :
    Calls Try.prog 40 #[.slice a l.length cap, .int .i64 W] w (NOut w (laR W l)) := by
  have HTV := Lib.hid (specTokensValid l w a cap fs hs hc hl hft)
  unfold NOut
  cases htv : tkv l with
  | false =>
    rw [htv] at HTV
    rw [la_bad htv]
    clear hs htv
    unfold maxLen at hl
    go_enter Try.func40, Try.ntmps40
    go_wp2_with fail
    refine HTV.out.mono ?_
    rintro e1 w1 ⟨rfl, hb1⟩
    have H1 := Lib.hid hb1
    clear hb1
    go_wp2_with fail
    go_ret2
    exact ⟨rfl, H1.out⟩
  | true =>
    rw [htv] at HTV
    by_cases hx0 : W < 0
    · rw [la_no (show Cst.wv W = false by simp [Cst.wv]; omega)]
      clear hs htv
      unfold maxLen at hl
      go_enter Try.func40, Try.ntmps40
      go_wp2_with fail
      refine HTV.out.mono ?_
      rintro e1 w1 ⟨rfl, hb1⟩
      have H1 := Lib.hid hb1
      clear hb1
      go_wp2_with fail
      go_ret2
      exact ⟨rfl, H1.out⟩
    by_cases hx1 : 200 < W
    · rw [la_no (show Cst.wv W = false by simp [Cst.wv]; omega)]
      clear hs htv
      unfold maxLen at hl
      go_enter Try.func40, Try.ntmps40
      go_wp2_with fail
      refine HTV.out.mono ?_
      rintro e1 w1 ⟨rfl, hb1⟩
      have H1 := Lib.hid hb1
      clear hb1
      go_wp2_with fail
      go_ret2
      exact ⟨rfl, H1.out⟩
    rw [la_yes (show Cst.wv W = true by simp [Cst.wv]; omega) htv]
    have HRUN := Lib.hid (fun (W' : World) (h : Below w.heap.size w W') => l6Run l W W' a cap fs (hs.below hs.lt h) hc htv (by omega) (by omega))
    have HAH := Lib.hid (la_ahead (W := W) htv)
    obtain ⟨R, hR⟩ : ∃ R, str W l.length l St.zero [0] 0 = R := ⟨_, rfl⟩
    rw [hR] at HRUN HAH
    clear hs htv hR
    unfold maxLen at hl
    go_enter Try.func40, Try.ntmps40
    go_wp2_with fail
    refine HTV.out.mono ?_
    rintro e1 w1 ⟨rfl, hb1⟩
    have H1 := Lib.hid hb1
    clear hb1
    go_wp2_with fail
    refine (HRUN.out _ H1.out).mono ?_
    rintro e2 w2 ⟨g, cp, rfl, hown, hb2⟩
    have H2 := Lib.hid (H1.out.trans (hb2.mono H1.out.size))
    clear hb2 hown
    go_wp2_with fail
    go_ret2
    exact ⟨by rw [HAH.out]; first | rfl | trivial, H2.out⟩

end

end Go.Proofs.Ytcealfjkcbaelaa.Sq

