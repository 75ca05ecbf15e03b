import Derived.Test.YtjcaiecapapceaaGreatLoX
import Derived.Test.YtjcaiecapapceaaGreatRcX
/-
 RenderDoc of the program and of the model.
-/
set_option linter.unusedVariables false
set_option linter.unusedSimpArgs false
set_option maxRecDepth 100000
set_option maxHeartbeats 1600000
namespace Go.Proofs.YtjcaiecapapceaaGreat.RnR
open Go.RowKit Go.Shelf P1 Cnt CntC Flat Wid ChP Rn Bwd RnM Rq
open LayN (cells2 cells2_len cells2_one at_cells2 LayRes LayRes.none')
theorem own_lay {w : World} {B n : Nat} {v : Value} {l : Lay} (h : w.ownsRow B 67 2 v n (cells2 l)) (hn : l.length = n) : ∃ a cap fs, v = .slice a n cap ∧ n ≤ cap ∧ LaySub w a l fs ∧ Fresh B w fs := by
 have hc := fun g (hg : v.ownBlock = some g) => h.cells (g := g) hg
 rcases h.2 with ⟨rfl, h0⟩ | ⟨g, cap, cur, rfl, hB, hg, hnc, _⟩
 ·refine ⟨none, 0, [], by rw [h0], by omega, .inl ⟨List.length_eq_zero_iff.1 (by omega), rfl⟩, Fresh.nil _ _⟩
 ·by_cases hl : l = []
  ·exact ⟨_, cap, [], rfl, hnc, .inl ⟨hl, rfl⟩, Fresh.nil _ _⟩
  ·exact ⟨_, cap, [g], rfl, hnc, .inr ⟨g, 0, rfl, hl, rfl, at_cells2 (hc g rfl)⟩, by simp, fun c hc => by
    rw [List.mem_singleton] at hc; subst hc
    exact ⟨hB, (Array.getElem?_eq_some_iff.1 hg).1, fun o => frozen_of_row w _ _ _ _ hg⟩⟩
theorem rnR_no {W o n : Int} {t : ByteArray} {k : F} (h : rightD W o n t k = false) : rnR W o n t k = ([], false) := by simp [rnR, h]
theorem rnR_yes {W o n : Int} {t : ByteArray} {k : F} (h : rightD W o n t k = true) : rnR W o n t k = ((stD W o n t k).fin, true) := by simp [rnR, h]
theorem rn_len (W o n : Int) (t : ByteArray) (k : F) : (rnR W o n t k).1.length ≤ 1048576 := by
 cases h : rightD W o n t k with
 | false => rw [rnR_no h]; simp
 | true =>
   rw [rnR_yes h]
   have hv : validD o n t k = true := by simp only [rightD, Bool.and_eq_true] at h; exact h.1
   have := (lv_len (rn_lv W hv)).2
   show (stD W o n t k).fin.length ≤ _
   omega
theorem field0 : ∀ (w : World) (a a' : Option Addr) (n c n' c' : Nat), (Instr.field 64 (.agg #[.slice a n c, .slice a' n' c']) 0).run Tryz.prog w = .ok (.slice a n c) w := fun _ _ _ _ _ _ _ => by kernel_rfl
section
variable (w : World) (W o n : Int) (t : ByteArray) (k : F) (a : Option Addr) (cap : Nat) (fs : List Nat)
theorem implRenderDoc (hs : SubAt w a k fs) (hfs : ∀ c ∈ fs, c < w.heap.size ∧ ∀ o, w.frozen? ⟨c, o, none⟩ = false) (hc : k.len ≤ cap) (hsz : t.size + k.size ≤ 2000000) (hft : k.Fits) (ht : t.size ≤ maxLen) :
  Calls Tryz.prog 12 #[.agg #[.int .i64 o, .int .i64 n, .string t, .slice a k.len cap], .int .i64 W] w (LayRes w (rnR W o n t k)) := by
 have B1 := Lib.hid (show ∀ ob, Ext w (w.alloc ob) from fun ob => (Ext.refl w).alloc _)
 have HR := Lib.hid (fun (w1 : World) (hw1 : Ext w w1) => render w1 W o n t k a cap fs (hs.below (fun c hc => (hfs c hc).1) hw1) (fun c hc => ⟨Nat.lt_of_lt_of_le (hfs c hc).1 hw1.size, fun x => (hw1.frozen (hfs c hc).1).trans ((hfs c hc).2 x)⟩) hc hsz hft ht)
 clear hs hfs
 go_enter Tryz.func12, Tryz.ntmps12
 go_wp2_with fail
 refine (HR.out _ (B1.out _)).mono ?_
 rintro e1 w1 ⟨hb, ⟨hri, rfl⟩ | ⟨hri, b, rfl, ⟨fa, fr, fl, fi, fg⟩, hF⟩⟩
 ·have H1 := Lib.hid (And.intro hri ((B1.out _).trans hb))
  clear hb hri
  go_wp2_with fail
  go_ret2
  rw [rnR_no H1.out.1]
  exact LayRes.none' H1.out.2
 ·obtain ⟨_, _, c2, _, _, _, _, _⟩ := hF.cells
  have hrow : w1.ownsRow w.heap.size 67 2 fl (stD W o n t k).fin.length (cells2 (stD W o n t k).fin) := own_base hF.rows (by simp)
  obtain ⟨ax, cx, gx, rfl, hcx, hsx, hfx⟩ := own_lay hrow rfl
  have H1 := Lib.hid (And.intro hri (And.intro hcx (And.intro hsx (And.intro hfx ((B1.out _).trans hb)))))
  clear hb hri hF hrow hcx hsx hfx
  go_wp2_with fail
  go_ret2
  rw [rnR_yes H1.out.1]
  exact ⟨ax, cx, gx, rfl, H1.out.2.1, H1.out.2.2.1, H1.out.2.2.2.1, H1.out.2.2.2.2⟩
theorem l4Right (hs : SubAt w a k fs) (hfs : ∀ c ∈ fs, c < w.heap.size) (hc : k.len ≤ cap) (hsz : t.size + k.size ≤ 2000000) (hft : k.Fits) (ht : t.size ≤ maxLen) :
  Calls Tryz.prog 42 #[.agg #[.int .i64 o, .int .i64 n, .string t, .slice a k.len cap], .int .i64 W] w fun e w' => e = .returned (.bool (rightD W o n t k)) ∧ Below w.heap.size w w' := by
 have B1 := Lib.hid (show ∀ ob, Ext w (w.alloc ob) from fun ob => (Ext.refl w).alloc _)
 have HD := Lib.hid (fun (w1 : World) (hw1 : Ext w w1) => SpecC.docValid w1 o n t k a cap fs (hs.below hfs hw1) (fun c hc => Nat.lt_of_lt_of_le (hfs c hc) hw1.size) hc (by omega) hft ht)
 clear hs hfs
 cases hva : validD o n t k with
 | false =>
   rw [hva] at HD
   have HF := Lib.hid (show rightD W o n t k = false by simp [rightD, hva])
   clear hva
   go_enter Tryz.func42, Tryz.ntmps42
   go_wp2_with fail
   refine (HD.out _ (B1.out _)).mono ?_
   rintro e1 w1 ⟨rfl, hb⟩
   have H1 := Lib.hid ((B1.out _).trans hb)
   clear hb
   go_wp2_with fail
   go_ret
   exact ⟨by rw [HF.out]; rfl, H1.out⟩
 | true =>
   rw [hva] at HD
   by_cases h0 : 0 ≤ W
   ·by_cases h1 : W ≤ 200
    ·have HF := Lib.hid (show rightD W o n t k = true by simp [rightD, hva, h0, h1])
     have hd0 : decide (0 ≤ W) = true := decide_eq_true h0
     have hd1 : decide (W ≤ 200) = true := decide_eq_true h1
     clear hva
     go_enter Tryz.func42, Tryz.ntmps42
     go_wp2_with fail
     refine (HD.out _ (B1.out _)).mono ?_
     rintro e1 w1 ⟨rfl, hb⟩
     have H1 := Lib.hid ((B1.out _).trans hb)
     clear hb
     go_wp2_with fail
     go_ret
     exact ⟨by rw [HF.out]; first | rfl | simp [h0, h1], H1.out⟩
    ·have HF := Lib.hid (show rightD W o n t k = false by simp [rightD, hva, h1])
     have hd0 : decide (0 ≤ W) = true := decide_eq_true h0
     have hd1 : decide (W ≤ 200) = false := decide_eq_false h1
     clear hva
     go_enter Tryz.func42, Tryz.ntmps42
     go_wp2_with fail
     refine (HD.out _ (B1.out _)).mono ?_
     rintro e1 w1 ⟨rfl, hb⟩
     have H1 := Lib.hid ((B1.out _).trans hb)
     clear hb
     go_wp2_with fail
     go_ret
     exact ⟨by rw [HF.out]; first | rfl | simp [h0, h1], H1.out⟩
   ·have HF := Lib.hid (show rightD W o n t k = false by simp [rightD, hva, h0])
    have hd0 : decide (0 ≤ W) = false := decide_eq_false h0
    clear hva
    go_enter Tryz.func42, Tryz.ntmps42
    go_wp2_with fail
    refine (HD.out _ (B1.out _)).mono ?_
    rintro e1 w1 ⟨rfl, hb⟩
    have H1 := Lib.hid ((B1.out _).trans hb)
    clear hb
    go_wp2_with fail
    go_ret
    exact ⟨by rw [HF.out]; first | rfl | simp [h0], H1.out⟩
theorem specRenderDoc (hs : SubAt w a k fs) (hfs : ∀ c ∈ fs, c < w.heap.size) (hc : k.len ≤ cap) (hsz : t.size + k.size ≤ 2000000) (hft : k.Fits) (ht : t.size ≤ maxLen) :
  Calls Tryz.prog 13 #[.agg #[.int .i64 o, .int .i64 n, .string t, .slice a k.len cap], .int .i64 W] w (LayRes w (rnR W o n t k)) := by
 have B1 := Lib.hid (show ∀ ob, Ext w (w.alloc ob) from fun ob => (Ext.refl w).alloc _)
 have HR := Lib.hid (fun (w1 : World) (hw1 : Ext w w1) => l4Right w1 W o n t k a cap fs (hs.below hfs hw1) (fun c hc => Nat.lt_of_lt_of_le (hfs c hc) hw1.size) hc hsz hft ht)
 cases hri : rightD W o n t k with
 | false =>
   rw [hri] at HR
   have HRI := Lib.hid (rnR_no hri)
   clear hs hfs hri
   go_enter Tryz.func13, Tryz.ntmps13
   go_wp2_with fail
   refine (HR.out _ (B1.out _)).mono ?_
   rintro e1 w1 ⟨rfl, hb⟩
   have H1 := Lib.hid ((B1.out _).trans hb)
   clear hb
   go_wp2_with fail
   go_ret2
   rw [HRI.out]
   exact LayRes.none' (H1.out.alloc _)
 | true =>
   rw [hri] at HR
   obtain ⟨hva, hw⟩ : validD o n t k = true ∧ (0 ≤ W ∧ W ≤ 200) := by simpa [rightD] using hri
   have HRI := Lib.hid (rnR_yes hri)
   have HRUN := Lib.hid (fun (w1 : World) (hw1 : Ext w w1) => l4Run w1 W o n t k a cap fs (hs.below hfs hw1) (fun c hc => Nat.lt_of_lt_of_le (hfs c hc) hw1.size) hc hsz hva hw.1 hw.2)
   clear hs hfs hri hva hw
   go_enter Tryz.func13, Tryz.ntmps13
   go_wp2_with fail
   refine (HR.out _ (B1.out _)).mono ?_
   rintro e1 w1 ⟨rfl, hb⟩
   have H1 := Lib.hid ((B1.out _).trans hb)
   have hx : w1.cell? ⟨w.heap.size, 0, none⟩ = some (.int .i64 o) ∧ w1.cell? ⟨w.heap.size, 1, none⟩ = some (.int .i64 n) ∧ w1.cell? ⟨w.heap.size, 2, none⟩ = some (.string t) ∧ w1.cell? ⟨w.heap.size, 3, none⟩ = some (.slice a k.len cap) := by
    refine ⟨?_, ?_, ?_, ?_⟩
    all_goals (rw [hb.cell (p := ⟨_, _, _⟩) (by simp)]; simp)
   obtain ⟨x0, x1, x2, x3⟩ := hx
   clear hb
   go_wp2_with fail
   refine (HRUN.out _ H1.out).mono ?_
   rintro e2 w2 ⟨g, cp, ag, cg, rfl, hrow, _, hb2⟩
   have hrow2 : w2.ownsRow w.heap.size 67 2 (.slice (some ⟨g, 0, none⟩) ((stD W o n t k).rows.length + 1) cp) (stD W o n t k).fin.length (cells2 (stD W o n t k).fin) := by
    rw [show (stD W o n t k).fin.length = (stD W o n t k).rows.length + 1 by simp [St.fin]]; exact own_base hrow H1.out.size
   obtain ⟨ax, cx, gx, hv, hcx, hsx, hfx⟩ := own_lay hrow2 rfl
   have H2 := Lib.hid (And.intro hv (And.intro hcx (And.intro hsx (And.intro hfx (Ext.trans H1.out hb2)))))
   clear hb2 hrow hrow2 hv hcx hsx hfx
   have hfd := field0
   go_wp2_with fail
   go_ret2
   rw [HRI.out, H2.out.1]
   exact ⟨ax, cx, gx, rfl, H2.out.2.1, H2.out.2.2.1, H2.out.2.2.2.1, H2.out.2.2.2.2⟩
end
end Go.Proofs.YtjcaiecapapceaaGreat.RnR
namespace Go.Proofs.YtjcaiecapapceaaGreat.RnV
open Go.RowKit Go.Shelf P1 Cnt CntC Flat Wid ChP Rn Bwd RnM Rq RnR
end Go.Proofs.YtjcaiecapapceaaGreat.RnV
