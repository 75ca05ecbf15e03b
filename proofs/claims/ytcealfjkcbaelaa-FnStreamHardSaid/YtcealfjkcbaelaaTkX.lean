import Derived.Test.YtcealfjkcbaelaaTkU
import Derived.Test.YtcealfjkcbaelaaLyA
/-
  StreamRows and LookAhead of the model.
-/
set_option linter.unusedVariables false
set_option linter.unusedSimpArgs false
namespace Go.Proofs.Ytcealfjkcbaelaa.Sq
open Go.RowKit Go.Shelf P1 Cnt CntC Flat Wid ChP Rn Bwd RnM Rq
open Tk hiding run
open LayN (cells2 cells2_len cells2_one at_cells2 LayRes LayRes.none')

/-- lines in a row of the call's own, as a layout in new memory -/
theorem own_lay6 {w : World} {B n : Nat} {v : Value} {l : List (Int × ByteArray)} (h : w.ownsRow B 91 2 v n (cells2 l)) (hn : l.length = n) : ∃ a cap fs, v = .slice a n cap ∧ n ≤ cap ∧ LaySub w a l fs ∧ Fresh B w fs := by
  have hc := fun g (hg : v.ownBlock = some g) => h.cells (g := g) hg
  rcases h.2 with ⟨rfl, h0⟩ | ⟨g, cap, cur, rfl, hB, hg, hnc, _⟩
  · refine ⟨none, 0, [], by rw [h0], by omega, .inl ⟨List.length_eq_zero_iff.1 (by omega), rfl⟩, Fresh.nil _ _⟩
  · by_cases hl : l = []
    · exact ⟨_, cap, [], rfl, hnc, .inl ⟨hl, rfl⟩, Fresh.nil _ _⟩
    · exact ⟨_, cap, [g], rfl, hnc, .inr ⟨g, 0, rfl, hl, rfl, at_cells2 (hc g rfl)⟩, by simp, fun c hc => by
        rw [List.mem_singleton] at hc; subst hc
        exact ⟨hB, (Array.getElem?_eq_some_iff.1 hg).1, fun o => frozen_of_row w _ _ _ _ hg⟩⟩
theorem sr_no {W : Int} {l : List Tok} (h : Cst.wv W = false) : srR W l = ([], false) := by
  have : (decide (0 ≤ W) && decide (W ≤ 200)) = false := h
  simp [srR, this]
theorem sr_bad {W : Int} {l : List Tok} (h : tkv l = false) : srR W l = ([], false) := by simp [srR, h]
theorem sr_yes {W : Int} {l : List Tok} (h : Cst.wv W = true) (hv : tkv l = true) : srR W l = ((srS W l).fin, true) := by
  have : (decide (0 ≤ W) && decide (W ≤ 200)) = true := h
  simp only [srR, this, hv, Bool.and_self, if_true]
section
variable (l : List Tok) (W : Int) (w : World) (a : Option Addr) (cap : Nat) (fs : List Nat)
set_option maxRecDepth 100000 in
set_option maxHeartbeats 1600000 in
theorem specStreamRows (hs : TkSub w a l fs) (hc : l.length ≤ cap) (hl : l.length ≤ maxLen) (hft : TL.Fits l) :
    Calls Try.prog 21 #[.slice a l.length cap, .int .i64 W] w (LayRes w (srR W l)) := by
  have HTV := Lib.hid (specTokensValid l w a cap fs hs hc hl hft)
  cases htv : tkv l with
  | false =>
    rw [htv] at HTV
    rw [sr_bad htv]
    clear hs htv
    unfold maxLen at hl
    go_enter Try.func21, Try.ntmps21
    go_wp2_with fail
    refine HTV.out.mono ?_
    rintro e1 w1 ⟨rfl, hb1⟩
    have H1 := Lib.hid hb1
    clear hb1
    go_wp2_with fail
    go_ret2
    exact LayRes.none' (H1.out.alloc H1.out.size _)
  | true =>
    rw [htv] at HTV
    by_cases hx0 : W < 0
    · rw [sr_no (show Cst.wv W = false by simp [Cst.wv]; omega)]
      clear hs htv
      unfold maxLen at hl
      go_enter Try.func21, Try.ntmps21
      go_wp2_with fail
      refine HTV.out.mono ?_
      rintro e1 w1 ⟨rfl, hb1⟩
      have H1 := Lib.hid hb1
      clear hb1
      go_wp2_with fail
      go_ret2
      exact LayRes.none' (H1.out.alloc H1.out.size _)
    by_cases hx1 : 200 < W
    · rw [sr_no (show Cst.wv W = false by simp [Cst.wv]; omega)]
      clear hs htv
      unfold maxLen at hl
      go_enter Try.func21, Try.ntmps21
      go_wp2_with fail
      refine HTV.out.mono ?_
      rintro e1 w1 ⟨rfl, hb1⟩
      have H1 := Lib.hid hb1
      clear hb1
      go_wp2_with fail
      go_ret2
      exact LayRes.none' (H1.out.alloc H1.out.size _)
    rw [sr_yes (show Cst.wv W = true by simp [Cst.wv]; omega) htv]
    have HRUN := Lib.hid (fun (W' : World) (h : Below w.heap.size w W') => l6Run l W W' a cap fs (hs.below hs.lt h) hc htv (by omega) (by omega))
    unfold srS
    obtain ⟨R, hR⟩ : ∃ R, str W l.length l St.zero [0] 0 = R := ⟨_, rfl⟩
    rw [hR] at HRUN ⊢
    clear hs htv hR
    unfold maxLen at hl
    go_enter Try.func21, Try.ntmps21
    go_wp2_with fail
    refine HTV.out.mono ?_
    rintro e1 w1 ⟨rfl, hb1⟩
    have H1 := Lib.hid hb1
    clear hb1
    go_wp2_with fail
    refine (HRUN.out _ H1.out).mono ?_
    rintro e2 w2 ⟨g, cp, rfl, hown, hb2⟩
    have hrow : w2.ownsRow w.heap.size 91 2 (.slice (some ⟨g, 0, none⟩) (R.1.rows.length + 1) cp) R.1.fin.length (cells2 R.1.fin) := by
      rw [show R.1.fin.length = R.1.rows.length + 1 by simp [St.fin]]; exact own_base hown H1.out.size
    obtain ⟨ax, cx, gx, hv, hcx, hsx, hfx⟩ := own_lay6 hrow rfl
    have H2 := Lib.hid (And.intro hv (And.intro hcx (And.intro hsx (And.intro hfx (H1.out.trans (hb2.mono H1.out.size))))))
    clear hb2 hown hrow hv hcx hsx hfx
    go_wp2_with fail
    go_ret2
    rw [H2.out.1]
    exact ⟨ax, cx, gx, rfl, H2.out.2.1, H2.out.2.2.1, H2.out.2.2.2.1, H2.out.2.2.2.2⟩
end

end Go.Proofs.Ytcealfjkcbaelaa.Sq

