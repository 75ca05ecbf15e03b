import Derived.Test.YtjcaiecapapceaaGreatRnX2
import Derived.Test.YtjcaiecapapceaaGreatLayT
/-
 RenderText of the program and of the model.
-/
set_option linter.unusedVariables false
set_option linter.unusedSimpArgs false
set_option maxRecDepth 100000
set_option maxHeartbeats 1600000
namespace Go.Proofs.YtjcaiecapapceaaGreat.RnR
open Go.RowKit Go.Shelf P1 Cnt CntC Flat Wid ChP Rn Bwd RnM Rq LayT
open LayN (cells2 cells2_len cells2_one at_cells2 LayRes LayRes.none')
theorem rn_good {W o n : Int} {t : ByteArray} {k : F} (h : rightD W o n t k = true) : lv (stD W o n t k).fin = true := by
 have hv : validD o n t k = true := by simp only [rightD, Bool.and_eq_true] at h; exact h.1
 exact rn_lv W hv
theorem lv_fits {l : List (Int × ByteArray)} (h : lv l = true) : L.Fits l := fun r hr => by
 obtain ⟨i, hi, rfl⟩ := List.getElem_of_mem hr
 have := LayN.lv_small h i hi
 unfold maxLen; omega
theorem rn_fits (W o n : Int) (t : ByteArray) (k : F) : L.Fits (rnR W o n t k).1 := by
 cases h : rightD W o n t k with
 | false => rw [rnR_no h]; intro r hr; simp at hr
 | true => rw [rnR_yes h]; exact lv_fits (rn_good h)
section
variable (w : World) (W o n : Int) (t : ByteArray) (k : F) (a : Option Addr) (cap : Nat) (fs : List Nat)
theorem implRenderText (hs : SubAt w a k fs) (hfs : ∀ c ∈ fs, c < w.heap.size ∧ ∀ o, w.frozen? ⟨c, o, none⟩ = false) (hc : k.len ≤ cap) (hsz : t.size + k.size ≤ 2000000) (hft : k.Fits) (ht : t.size ≤ maxLen) :
  Calls Tryz.prog 16 #[.agg #[.int .i64 o, .int .i64 n, .string t, .slice a k.len cap], .int .i64 W] w fun e w' => e = .returned (.tuple #[.string (lt8 (rnR W o n t k).1), .bool (rnR W o n t k).2]) ∧ Below w.heap.size w w' := by
 have B1 := Lib.hid (show ∀ ob, Ext w (w.alloc ob) from fun ob => (Ext.refl w).alloc _)
 have HR := Lib.hid (fun (w1 : World) (hw1 : Ext w w1) => implRenderDoc w1 W o n t k a cap fs (hs.below (fun c hc => (hfs c hc).1) hw1) (fun c hc => ⟨Nat.lt_of_lt_of_le (hfs c hc).1 hw1.size, fun x => (hw1.frozen (hfs c hc).1).trans ((hfs c hc).2 x)⟩) hc hsz hft ht)
 have HT := Lib.hid (fun (w1 : World) (a1 : Option Addr) (c1 : Nat) (f1 : List Nat) (h1 : LaySub w1 a1 (rnR W o n t k).1 f1) (h2 : (rnR W o n t k).1.length ≤ c1) => implLayoutText (rnR W o n t k).1 w1 a1 c1 f1 h1 h2 (by have := rn_len W o n t k; unfold maxLen; omega) (rn_fits W o n t k))
 clear hs hfs
 obtain ⟨⟨X, ok⟩, hX⟩ : ∃ r, rnR W o n t k = r := ⟨_, rfl⟩
 rw [hX] at HR HT ⊢
 clear hX
 go_enter Tryz.func16, Tryz.ntmps16
 go_wp2_with fail
 refine (HR.out _ (B1.out _)).mono ?_
 rintro e1 w1 ⟨a1, c1, f1, rfl, hc1, hs1, _, hb1⟩
 have HT1 := Lib.hid (HT.out w1 a1 c1 f1 hs1 hc1)
 have H1 := Lib.hid (Ext.trans (B1.out _) hb1)
 clear hc1 hs1 hb1
 go_wp2_with fail
 refine HT1.out.mono ?_
 rintro e2 w2 ⟨rfl, hb2⟩
 have H2 := Lib.hid (Ext.trans H1.out hb2)
 clear hb2
 go_wp2_with fail
 go_ret2
 exact ⟨rfl, H2.out⟩
end
end Go.Proofs.YtjcaiecapapceaaGreat.RnR
