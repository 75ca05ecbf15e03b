import Derived.Test.YtgkbagcgbfgllaaRnR
import Derived.Test.YtgkbagcgbfgllaaVsA
/-
  GroupFlags of the program and of the model.
-/
set_option linter.unusedVariables false
set_option linter.unusedSimpArgs false
namespace Go.Proofs.Ytgkbagcgbfgllaa.RnG
open Go.RowKit Go.Shelf P1 Cnt CntC Flat Wid ChP Rn Bwd RnM Rq RnR Vs

theorem flR_no {W o n : Int} {t : ByteArray} {k : F} (h : rightD W o n t k = false) : flR W o n t k = ([], false) := by simp [flR, h]
theorem flR_yes {W o n : Int} {t : ByteArray} {k : F} (h : rightD W o n t k = true) : flR W o n t k = ((stD W o n t k).flags, true) := by simp [flR, h]
theorem cntF_cnt (m : Int → Bool) (f : F) : cntF m f ≤ f.cnt := by
  induction f with
  | nil => simp [cntF]
  | cons o n t k r hk hr => simp only [cntF, F.cnt]; split <;> omega
theorem fl_len (W o n : Int) (t : ByteArray) (k : F) : (flR W o n t k).1.length ≤ 1048576 := by
  cases h : rightD W o n t k with
  | false => rw [flR_no h]; simp
  | true =>
    rw [flR_yes h]
    have hv : validD o n t k = true := by simp only [rightD, Bool.and_eq_true] at h; exact h.1
    have h1 := (rn_opened W hv).1
    have h2 := cntF_cnt (fun x => x == 8) k
    have h3 := (show okD 40 o n t k = true ∧ 1 + k.cnt ≤ 80 by simpa [validD] using hv).2
    rw [opsD_eq] at h1
    have h4 : (if o == (8 : Int) then 1 else 0) ≤ 1 := by split <;> omega
    show (stD W o n t k).flags.length ≤ _
    omega
/-- flags in a row of the call's own, as a slice in new memory -/
theorem own_fl {w : World} {B n : Nat} {v : Value} {l : List Bool} (h : w.ownsRow B 4 1 v n (l.map Value.bool)) (hn : l.length = n) : ∃ a cap fs, v = .slice a n cap ∧ n ≤ cap ∧ BSub w a l fs ∧ Fresh B w fs := own_vs h

section
variable (w : World) (W o n : Int) (t : ByteArray) (k : F) (a : Option Addr) (cap : Nat) (fs : List Nat)
set_option maxRecDepth 100000 in
set_option maxHeartbeats 1600000 in
theorem implGroupFlags (hs : SubAt w a k fs) (hfs : ∀ c ∈ fs, c < w.heap.size ∧ ∀ o, w.frozen? ⟨c, o, none⟩ = false) (hc : k.len ≤ cap) (hsz : t.size + k.size ≤ 2000000) (hft : k.Fits) (ht : t.size ≤ maxLen) :
    Calls Try.prog 20 #[.agg #[.int .i64 o, .int .i64 n, .string t, .slice a k.len cap], .int .i64 W] w (BRes w (flR W o n t k)) := by
  have B1 := Lib.hid (show ∀ ob, Ext w (w.alloc ob) from fun ob => (Ext.refl w).alloc _)
  have HR := Lib.hid (fun (w1 : World) (hw1 : Ext w w1) => render w1 W o n t k a cap fs (hs.below (fun c hc => (hfs c hc).1) hw1) (fun c hc => ⟨Nat.lt_of_lt_of_le (hfs c hc).1 hw1.size, fun x => (hw1.frozen (hfs c hc).1).trans ((hfs c hc).2 x)⟩) hc hsz hft ht)
  clear hs hfs
  go_enter Try.func20, Try.ntmps20
  go_wp2_with fail
  refine (HR.out _ (B1.out _)).mono ?_
  rintro e1 w1 ⟨hb, ⟨hri, rfl⟩ | ⟨hri, b, rfl, ⟨fa, fr, fl, fi, fg⟩, hF⟩⟩
  · have H1 := Lib.hid (And.intro hri ((B1.out _).trans hb))
    clear hb hri
    go_wp2_with fail
    go_ret2
    rw [flR_no H1.out.1]
    exact BRes.none' H1.out.2
  · obtain ⟨_, _, _, _, c6, _, _, _⟩ := hF.cells
    have hrow : w1.ownsRow w.heap.size 4 1 fg (stD W o n t k).flags.length ((stD W o n t k).flags.map Value.bool) := own_base hF.flags (by simp)
    obtain ⟨ax, cx, gx, rfl, hcx, hsx, hfx⟩ := own_fl hrow rfl
    have H1 := Lib.hid (And.intro hri (And.intro hcx (And.intro hsx (And.intro hfx ((B1.out _).trans hb)))))
    clear hb hri hF hrow hcx hsx hfx
    go_wp2_with fail
    go_ret2
    rw [flR_yes H1.out.1]
    exact ⟨ax, cx, gx, rfl, H1.out.2.1, H1.out.2.2.1, H1.out.2.2.2.1, H1.out.2.2.2.2⟩

set_option maxRecDepth 100000 in
set_option maxHeartbeats 1600000 in
theorem specGroupFlags (hs : SubAt w a k fs) (hfs : ∀ c ∈ fs, c < w.heap.size) (hc : k.len ≤ cap) (hsz : t.size + k.size ≤ 2000000) (hft : k.Fits) (ht : t.size ≤ maxLen) :
    Calls Try.prog 30 #[.agg #[.int .i64 o, .int .i64 n, .string t, .slice a k.len cap], .int .i64 W] w (BRes w (flR W o n t k)) := by
  have B1 := Lib.hid (show ∀ ob, Ext w (w.alloc ob) from fun ob => (Ext.refl w).alloc _)
  have HR := Lib.hid (fun (w1 : World) (hw1 : Ext w w1) => l4Right w1 W o n t k a cap fs (hs.below hfs hw1) (fun c hc => Nat.lt_of_lt_of_le (hfs c hc) hw1.size) hc hsz hft ht)
  cases hri : rightD W o n t k with
  | false =>
    rw [hri] at HR
    have HRI := Lib.hid (flR_no hri)
    clear hs hfs hri
    go_enter Try.func30, Try.ntmps30
    go_wp2_with fail
    refine (HR.out _ (B1.out _)).mono ?_
    rintro e1 w1 ⟨rfl, hb⟩
    have H1 := Lib.hid ((B1.out _).trans hb)
    clear hb
    go_wp2_with fail
    go_ret2
    rw [HRI.out]
    exact BRes.none' (H1.out.alloc _)
  | true =>
    rw [hri] at HR
    obtain ⟨hva, hw⟩ : validD o n t k = true ∧ (0 ≤ W ∧ W ≤ 200) := by simpa [rightD] using hri
    have HRI := Lib.hid (flR_yes hri)
    have HRUN := Lib.hid (fun (w1 : World) (hw1 : Ext w w1) => l4Run w1 W o n t k a cap fs (hs.below hfs hw1) (fun c hc => Nat.lt_of_lt_of_le (hfs c hc) hw1.size) hc hsz hva hw.1 hw.2)
    clear hs hfs hri hva hw
    go_enter Try.func30, Try.ntmps30
    go_wp2_with fail
    refine (HR.out _ (B1.out _)).mono ?_
    rintro e1 w1 ⟨rfl, hb⟩
    have H1 := Lib.hid ((B1.out _).trans hb)
    have hx : w1.cell? ⟨w.heap.size, 0, none⟩ = some (.int .i64 o) ∧ w1.cell? ⟨w.heap.size, 1, none⟩ = some (.int .i64 n) ∧ w1.cell? ⟨w.heap.size, 2, none⟩ = some (.string t) ∧ w1.cell? ⟨w.heap.size, 3, none⟩ = some (.slice a k.len cap) := by
      refine ⟨?_, ?_, ?_, ?_⟩
      all_goals (rw [hb.cell (p := ⟨_, _, _⟩) (by simp)]; simp)
    obtain ⟨x0, x1, x2, x3⟩ := hx
    clear hb
    go_wp2_with fail
    refine (HRUN.out _ H1.out).mono ?_
    rintro e2 w2 ⟨g, cp, ag, cg, rfl, _, hrow, hb2⟩
    have hrow2 : w2.ownsRow w.heap.size 4 1 (.slice ag (stD W o n t k).flags.length cg) (stD W o n t k).flags.length ((stD W o n t k).flags.map Value.bool) := own_base hrow H1.out.size
    obtain ⟨ax, cx, gx, hv, hcx, hsx, hfx⟩ := own_fl hrow2 rfl
    have H2 := Lib.hid (And.intro hv (And.intro hcx (And.intro hsx (And.intro hfx (Ext.trans H1.out hb2)))))
    clear hb2 hrow hrow2 hv hcx hsx hfx
    have hfd := field1
    go_wp2_with fail
    go_ret2
    rw [HRI.out, H2.out.1]
    exact ⟨ax, cx, gx, rfl, H2.out.2.1, H2.out.2.2.1, H2.out.2.2.2.1, H2.out.2.2.2.2⟩
end

end Go.Proofs.Ytgkbagcgbfgllaa.RnG

