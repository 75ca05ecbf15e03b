import Derived.Test.YtjcaiecapapceaaLoX
import Derived.Test.YtjcaiecapapceaaRcX
/-
 RenderDoc of the program and of the model.
-/
set_option linter.unusedVariables false
set_option linter.unusedSimpArgs false
set_option maxRecDepth 100000
set_option maxHeartbeats 1600000
namespace Go.Proofs.Ytjcaiecapapceaa.RnR
open Go.RowKit Go.Shelf P1 Cnt CntC Flat Wid ChP Rn Bwd RnM Rq
open LayN (cells2 cells2_len cells2_one at_cells2 LayRes LayRes.none')
theorem own_lay {w : World} {B n : Nat} {v : Value} {l : Lay} (h : w.ownsRow B 68 2 v n (cells2 l)) (hn : l.length = n) : ∃ a cap fs, v = .slice a n cap ∧ n ≤ cap ∧ LaySub w a l fs ∧ Fresh B w fs := by
 have hc := fun g (hg : v.ownBlock = some g) => h.cells (g := g) hg
 rcases h.2 with ⟨rfl, h0⟩ | ⟨g, cap, cur, rfl, hB, hg, hnc, _⟩
 ·refine ⟨none, 0, [], by rw [h0], by omega, .inl ⟨List.length_eq_zero_iff.1 (by omega), rfl⟩, Fresh.nil _ _⟩
 ·by_cases hl : l = []
  ·exact ⟨_, cap, [], rfl, hnc, .inl ⟨hl, rfl⟩, Fresh.nil _ _⟩
  ·exact ⟨_, cap, [g], rfl, hnc, .inr ⟨g, 0, rfl, hl, rfl, at_cells2 (hc g rfl)⟩, by simp, fun c hc => by
    rw [List.mem_singleton] at hc; subst hc
    exact ⟨hB, (Array.getElem?_eq_some_iff.1 hg).1, fun o => frozen_of_row w _ _ _ _ hg⟩⟩
theorem rnR_no {W o n : Int} {t : ByteArray} {k : F} (h : rightD W o n t k = false) : rnR W o n t k = ([], false) := by simp [rnR, h]
theorem rnR_yes {W o n : Int} {t : ByteArray} {k : F} (h : rightD W o n t k = true) : rnR W o n t k = ((stD W o n t k).fin, true) := by simp [rnR, h]
theorem field0 : ∀ (w : World) (a a' : Option Addr) (n c n' c' : Nat), (Instr.field 65 (.agg #[.slice a n c, .slice a' n' c']) 0).run Try.prog w = .ok (.slice a n c) w := fun _ _ _ _ _ _ _ => by kernel_rfl
section
variable (w : World) (W o n : Int) (t : ByteArray) (k : F) (a : Option Addr) (cap : Nat) (fs : List Nat)
theorem implRenderDoc (hs : SubAt w a k fs) (hfs : ∀ c ∈ fs, c < w.heap.size ∧ ∀ o, w.frozen? ⟨c, o, none⟩ = false) (hc : k.len ≤ cap) (hsz : t.size + k.size ≤ 2000000) (hft : k.Fits) (ht : t.size ≤ maxLen) :
  Calls Try.prog 9 #[.agg #[.int .i64 o, .int .i64 n, .string t, .slice a k.len cap], .int .i64 W] w (LayRes w (rnR W o n t k)) := by
 have B1 := Lib.hid (show ∀ ob, Ext w (w.alloc ob) from fun ob => (Ext.refl w).alloc _)
 have HR := Lib.hid (fun (w1 : World) (hw1 : Ext w w1) => render w1 W o n t k a cap fs (hs.below (fun c hc => (hfs c hc).1) hw1) (fun c hc => ⟨Nat.lt_of_lt_of_le (hfs c hc).1 hw1.size, fun x => (hw1.frozen (hfs c hc).1).trans ((hfs c hc).2 x)⟩) hc hsz hft ht)
 clear hs hfs
 go_enter Try.func9, Try.ntmps9
 go_wp2_with fail
 refine (HR.out _ (B1.out _)).mono ?_
 rintro e1 w1 ⟨hb, ⟨hri, rfl⟩ | ⟨hri, b, rfl, ⟨fa, fr, fl, fi, fg⟩, hF⟩⟩
 ·have H1 := Lib.hid (And.intro hri ((B1.out _).trans hb))
  clear hb hri
  go_wp2_with fail
  go_ret2
  rw [rnR_no H1.out.1]
  exact LayRes.none' H1.out.2
 ·obtain ⟨_, _, c2, _, _, _, _, _⟩ := hF.cells
  have hrow : w1.ownsRow w.heap.size 68 2 fl (stD W o n t k).fin.length (cells2 (stD W o n t k).fin) := own_base hF.rows (by simp)
  obtain ⟨ax, cx, gx, rfl, hcx, hsx, hfx⟩ := own_lay hrow rfl
  have H1 := Lib.hid (And.intro hri (And.intro hcx (And.intro hsx (And.intro hfx ((B1.out _).trans hb)))))
  clear hb hri hF hrow hcx hsx hfx
  go_wp2_with fail
  go_ret2
  rw [rnR_yes H1.out.1]
  exact ⟨ax, cx, gx, rfl, H1.out.2.1, H1.out.2.2.1, H1.out.2.2.2.1, H1.out.2.2.2.2⟩
end
end Go.Proofs.Ytjcaiecapapceaa.RnR
namespace Go.Proofs.Ytjcaiecapapceaa.RnV
open Go.RowKit Go.Shelf P1 Cnt CntC Flat Wid ChP Rn Bwd RnM Rq RnR
def lyW (o n : Int) (t : ByteArray) (k : F) (w : Nat) : Lay := (stD (w : Int) o n t k).fin
theorem right_w {o n : Int} {t : ByteArray} {k : F} (h : validD o n t k = true) {j : Nat} (hj : j ≤ 200) : rightD (j : Int) o n t k = true := by
 have h1 : (0 : Int) ≤ (j : Int) := by omega
 have h2 : (j : Int) ≤ 200 := by omega
 simp [rightD, h, h2]
theorem ly_len {o n : Int} {t : ByteArray} {k : F} (h : validD o n t k = true) (j : Nat) : (lyW o n t k j).length ≤ maxLen := by
 have := (lv_len (rn_lv (j : Int) h)).2
 show (stD (j : Int) o n t k).fin.length ≤ maxLen
 unfold maxLen; omega
theorem own_lw {W : World} {o n : Int} {t : ByteArray} {k : F} {j B g cp : Nat} (h : W.ownsRow B 68 2 (.slice (some ⟨g, 0, none⟩) ((stD ((j : Nat) : Int) o n t k).rows.length + 1) cp) ((stD ((j : Nat) : Int) o n t k).rows.length + 1) (LayN.cells2 (stD ((j : Nat) : Int) o n t k).fin)) : W.ownsRow B 68 2 (.slice (some ⟨g, 0, none⟩) ((stD ((j : Nat) : Int) o n t k).rows.length + 1) cp) (lyW o n t k j).length (LayN.cells2 (lyW o n t k j)) := by
 rw [show (lyW o n t k j).length = (stD ((j : Nat) : Int) o n t k).rows.length + 1 by simp [lyW, St.fin]]; exact h
end Go.Proofs.Ytjcaiecapapceaa.RnV
