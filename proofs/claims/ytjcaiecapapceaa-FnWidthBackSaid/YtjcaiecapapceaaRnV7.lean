import Derived.Test.YtjcaiecapapceaaRnX2
import Derived.Test.YtjcaiecapapceaaVsX
/-
 GroupFlags of the program and of the model.
-/
set_option linter.unusedVariables false
set_option linter.unusedSimpArgs false
set_option maxRecDepth 100000
set_option maxHeartbeats 3200000
namespace Go.Proofs.Ytjcaiecapapceaa.RnG
open Go.RowKit Go.Shelf P1 Cnt CntC Flat Wid ChP Rn Bwd RnM Rq RnR Vs
section
variable (w : World) (W o n : Int) (t : ByteArray) (k : F) (a : Option Addr) (cap : Nat) (fs : List Nat)
end
end Go.Proofs.Ytjcaiecapapceaa.RnG
namespace Go.Proofs.Ytjcaiecapapceaa.RnV
open Go.RowKit Go.Shelf P1 Cnt CntC Flat Wid ChP Rn Bwd RnM Rq RnR VsI
open Vs (VSub own_vs)
open LayN (LayRes LayRes.out)
theorem infoI : (Try.prog.info? 3).map (fun i => (i.zero.map (fun z => z.cells.size), i.size, i.bytes)) = some (some 1, 1, 8) := by kernel_rfl
theorem one_int (w : World) (x : Int) (T : TypeId) : ∀ j u, [Value.int .i64 x][j]? = some u → (w.alloc (.cells #[.int .i64 x] T)).cell? ((⟨w.heap.size, 0, none⟩ : Addr).add j) = some u := by
 intro j u hu
 rw [add_at, Nat.zero_add, World.cell?_alloc_new]
 simpa using hu
def vals (l : List Nat) : List Value := l.map (fun x : Nat => Value.int .i64 (x : Int))
theorem vals_snoc (l : List Nat) (x : Nat) : vals l ++ [.int .i64 (x : Int)] = vals (l ++ [x]) := by simp [vals]
def wdR (o n : Int) (t : ByteArray) (k : F) : List Int × Bool := if validD o n t k then ((wdL (lyW o n t k) 200).map (fun x : Nat => (x : Int)), true) else ([], false)
theorem wdR_no {o n : Int} {t : ByteArray} {k : F} (h : validD o n t k = false) : wdR o n t k = ([], false) := by simp [wdR, h]
theorem wdR_yes {o n : Int} {t : ByteArray} {k : F} (h : validD o n t k = true) : wdR o n t k = ((wdL (lyW o n t k) 200).map (fun x : Nat => (x : Int)), true) := by simp [wdR, h]
theorem wd_len (o n : Int) (t : ByteArray) (k : F) : (wdR o n t k).1.length ≤ 1048576 := by
 cases h : validD o n t k with
 | false => rw [wdR_no h]; simp
 | true =>
   rw [wdR_yes h]
   have := wdL_len (lyW o n t k) 200
   simp only [List.length_map]; omega
theorem wd_same {L : Nat → Lay} {j : Nat} (h : L (j + 1) = L j) : wdL L (j + 1) = wdL L j := by rw [wdL_succ, if_pos h]
theorem wd_new {L : Nat → Lay} {j : Nat} (h : L (j + 1) ≠ L j) : wdL L (j + 1) = wdL L j ++ [j + 1] := by rw [wdL_succ, if_neg h]
theorem ret_wd {w w' : World} {o n : Int} {t : ByteArray} {k : F} (h : validD o n t k = true) {v : Value} (hr : w'.ownsRow (w.heap.size + 1) 3 1 v (wdL (lyW o n t k) 200).length (vals (wdL (lyW o n t k) 200))) (hb : Below w.heap.size w w') : IRes w (wdR o n t k) (.returned (.tuple #[v, .bool true])) w' := by
 obtain ⟨a, cap, fs, rfl, hc, hs, hf⟩ := own_vs (own_base hr (Nat.le_succ _))
 rw [wdR_yes h]
 refine ⟨a, cap, fs, ?_, by simpa using hc, ?_, hf, hb⟩
 ·rw [List.length_map]
 ·show VSub w' a (List.map (Value.int .i64) (List.map (fun x : Nat => (x : Int)) _)) fs
  rw [List.map_map]; exact hs
theorem own_ext {W W' : World} {B : Nat} {e : TypeId} {size n : Nat} {v : Value} {xs : List Value} (h : W.ownsRow B e size v n xs) (hb : Below W.heap.size W W') : W'.ownsRow B e size v n xs := by
 have hb' : ∀ g, v.ownBlock = some g → W'.heap[g]? = W.heap[g]? := fun g hg => hb.block g (h.lt g hg).2
 refine ⟨h.1, ?_⟩
 rcases h.2 with h0 | ⟨g, cap, cur, rfl, hB, hg, hnc, hx⟩
 ·exact .inl h0
 ·exact .inr ⟨g, cap, cur, rfl, hB, (hb' g rfl).trans hg, hnc, hx⟩
theorem lay_grown {w w' : World} {ob : Obj} {row : Option Nat} {a : Option Addr} {l : Lay} {gs : List Nat} (h : LaySub w a l gs) (hg : (w.alloc ob).grownBy w' row) (hd : ∀ c ∈ gs, c < w.heap.size ∧ row ≠ some c) : LaySub w' a l gs :=
 h.congr fun c hc x => (World.cell?_of_block (w := w.alloc ob) (hg.block c (by have := (hd c hc).1; simp; omega) (fun e => (hd c hc).2 e.symm))).trans (((Below.refl w.heap.size w).alloc (Nat.le_refl _) ob).cell (p := ⟨c, x, none⟩) (hd c hc).1)
structure WD (w : World) (o n : Int) (t : ByteArray) (k : F) (j : Nat) (ab : Option Addr) (cb : Nat) (gb : List Nat) (v : Value) (wr : World) : Prop where
 lay : LaySub wr ab (lyW o n t k j) gb
 cap : (lyW o n t k j).length ≤ cb
 own : wr.ownsRow (w.heap.size + 1) 3 1 v (wdL (lyW o n t k) j).length (vals (wdL (lyW o n t k) j))
 below : Ext w wr
section
variable (w : World) (o n : Int) (t : ByteArray) (k : F) (a : Option Addr) (cap : Nat) (fs : List Nat)
theorem implWidthsOf (hs : SubAt w a k fs) (hfs : ∀ c ∈ fs, c < w.heap.size ∧ ∀ o, w.frozen? ⟨c, o, none⟩ = false) (hc : k.len ≤ cap) (hsz : t.size + k.size ≤ 2000000) (hft : k.Fits) (ht : t.size ≤ maxLen) :
  Calls Try.prog 30 #[.agg #[.int .i64 o, .int .i64 n, .string t, .slice a k.len cap]] w (IRes w (wdR o n t k)) := by
 have B1 := Lib.hid (show ∀ ob, Ext w (w.alloc ob) from fun ob => (Ext.refl w).alloc _)
 have HR := Lib.hid (fun (W : Int) (w1 : World) (hw1 : Ext w w1) => implRenderDoc w1 W o n t k a cap fs (hs.below (fun c hc => (hfs c hc).1) hw1) (fun c hc => ⟨Nat.lt_of_lt_of_le (hfs c hc).1 hw1.size, fun x => (hw1.frozen (hfs c hc).1).trans ((hfs c hc).2 x)⟩) hc hsz hft ht)
 clear hs hfs
 cases hva : validD o n t k with
 | false =>
   have HR0 := Lib.hid (fun (w1 : World) (hw1 : Ext w w1) => (HR.out 0 w1 hw1).mono fun _ _ h => LayRes.out (by rwa [rnR_no (by simp [rightD, hva])] at h))
   have HN := Lib.hid (wdR_no hva)
   clear hva HR
   go_enter Try.func30, Try.ntmps30
   go_wp2_with fail
   refine (HR0.out _ (B1.out _)).mono ?_
   rintro e1 w1 ⟨al, cl, gl, rfl, hcl, hsl, hfl, hb1⟩
   have H1 := Lib.hid ((B1.out _).trans hb1)
   clear hcl hsl hfl hb1
   go_wp2_with fail
   go_ret2
   rw [HN.out]
   exact IRes.none' H1.out
 | true =>
   have HRW := Lib.hid (fun (j : Nat) (hj : j ≤ 200) (w1 : World) (hw1 : Ext w w1) => (HR.out (j : Int) w1 hw1).mono fun _ _ h => LayRes.out (by rwa [rnR_yes (right_w hva hj)] at h))
   have HVA := Lib.hid hva
   obtain ⟨i0, z0, hi, hz, hz1, hz2, hz3⟩ := info_some infoI
   have HI := Lib.hid (And.intro hi (And.intro hz (And.intro hz1 (And.intro hz2 hz3))))
   clear hva HR hi hz hz1 hz2 hz3
   have HR0 := Lib.hid (HRW.out 0 (by omega))
   go_enter Try.func30, Try.ntmps30
   go_wp2_with fail
   refine (HR0.out _ (B1.out _)).mono ?_
   rintro e1 w1 ⟨al, cl, gl, rfl, hcl, hsl, hfl, hb1⟩
   have HX := Lib.hid (show ∀ wr, Below (w.heap.size + 1) (w.alloc (.cells #[.int .i64 o, .int .i64 n, .string t, .slice a k.len cap] 25)) wr → wr.cell? ⟨w.heap.size, 0, none⟩ = some (.int .i64 o) ∧ wr.cell? ⟨w.heap.size, 1, none⟩ = some (.int .i64 n) ∧ wr.cell? ⟨w.heap.size, 2, none⟩ = some (.string t) ∧ wr.cell? ⟨w.heap.size, 3, none⟩ = some (.slice a k.len cap) from fun wr hb => by
    refine ⟨?_, ?_, ?_, ?_⟩
    all_goals (rw [hb.cell (p := ⟨_, _, _⟩) (by simp)]; simp))
   have HB1 := Lib.hid (show Below (w.heap.size + 1) (w.alloc (.cells #[.int .i64 o, .int .i64 n, .string t, .slice a k.len cap] 25)) w1 from hb1.mono (by simp))
   have HW := Lib.hid (show WD w o n t k 0 al cl gl (.slice none 0 0) w1 from ⟨hsl, hcl, ⟨rfl, .inl ⟨rfl, rfl⟩⟩, (B1.out _).trans hb1⟩)
   obtain ⟨m0, hm0⟩ : ∃ m : Int, m = ((stD ((0 : Nat) : Int) o n t k).fin.length : Int) := ⟨_, rfl⟩
   clear hcl hsl hfl hb1 hm0 m0
   go_wp2_with fail
   go_loopw [7, 4, 6] (fun i bf v wr => ∃ (j m : Nat) (ab : Option Addr) (cb : Nat) (gb : List Nat), j ≤ 200 ∧ i = .int .i64 ((j : Int) + 1) ∧ bf = .slice ab m cb ∧ Hid (m = (lyW o n t k j).length) ∧ Hid (WD w o n t k j ab cb gb v wr) ∧ Below (w.heap.size + 1) (w.alloc (.cells #[.int .i64 o, .int .i64 n, .string t, .slice a k.len cap] 25)) wr) (fun i _ _ _ => 201 - (intOf i).toNat)
   case atStart => exact ⟨0, _, al, cl, gl, by omega, rfl, rfl, Lib.hid rfl, HW, HB1.out⟩
   case round =>
    obtain ⟨j, m, ab, cb, gb, hj, rfl, rfl, HM, HWD, hbx⟩ := hrel
    obtain ⟨y0, y1, y2, y3⟩ := HX.out _ hbx
    obtain ⟨nw, hnw⟩ : ∃ q, (wdL (lyW o n t k) j).length = q := ⟨_, rfl⟩
    have hown := HWD.out.own
    rw [hnw] at hown
    obtain ⟨av, cv, hv, hcv⟩ := own_slice hown
    subst hv
    have hnl : nw ≤ 200 := by have := wdL_len (lyW o n t k) j; omega
    have HNW := Lib.hid hnw
    have HOWN := Lib.hid hown
    clear hnw hown
    have HBX := Lib.hid hbx
    clear hbx
    by_cases hjn : j < 200
    ·have HRJ := Lib.hid (HRW.out (j + 1) (by omega))
     have hjc : ((j + 1 : Nat) : Int) = (j : Int) + 1 := by omega
     rw [hjc] at HRJ
     have i1 : (j : Int) + 1 ≤ 200 := by omega
     have i2 : decide ((j : Int) + 1 ≤ 200) = true := decide_eq_true i1
     have HJC := Lib.hid hjc
     clear hjc
     go_wp2_with fail
     refine (HRJ.out _ HWD.out.below).mono ?_
     rintro e2 w2 ⟨a2, c2, g2, rfl, hc2, hs2, hf2, hb2⟩
     have hle : (stD ((j : Int) + 1) o n t k).fin = lyW o n t k (j + 1) := by show _ = (stD ((j + 1 : Nat) : Int) o n t k).fin; rw [HJC.out]
     rw [hle] at hs2 hc2 ⊢
     have hwd := HWD.out
     have HSAME := Lib.hid (LaySm.implLayoutSame (lyW o n t k (j + 1)) (lyW o n t k j) w2 a2 c2 g2 hs2 ab cb gb (hwd.lay.below hwd.lay.lt hb2) hc2 hwd.cap (ly_len HVA.out _) (ly_len HVA.out _))
     rw [← HM.out] at HSAME
     have HB2 := Lib.hid hb2
     have HS2 := Lib.hid (And.intro hs2 hc2)
     have HO2 := Lib.hid (own_ext HOWN.out hb2)
     have HLT := Lib.hid (fun q hq => (hwd.own.lt q hq).2)
     have HF2 := Lib.hid hf2
     clear hwd hs2 hc2 hf2 hb2 hle y0 y1 y2 y3
     obtain ⟨m2, hm2⟩ : ∃ m, m = (lyW o n t k (j + 1)).length := ⟨_, rfl⟩
     rw [← hm2] at HSAME ⊢
     have HM2 := Lib.hid hm2
     clear hm2
     go_wp2_with fail
     refine HSAME.out.mono ?_
     rintro e3 w3 ⟨rfl, hb3⟩
     have HB3 := Lib.hid hb3
     clear hb3
     by_cases heq : lyW o n t k (j + 1) = lyW o n t k j
     ·have hd : decide (lyW o n t k (j + 1) = lyW o n t k j) = true := decide_eq_true heq
      have HQ := Lib.hid heq
      clear heq
      rw [hd]
      clear hd
      go_wp2_with fail
      go_roundw
      case rel => exact ⟨j + 1, m2, a2, c2, g2, by omega, by go_num, rfl, HM2, Lib.hid ⟨HS2.out.1.below HS2.out.1.lt HB3.out, HS2.out.2, by rw [wd_same HQ.out, HNW.out]; exact own_ext HO2.out HB3.out, (HWD.out.below.trans HB2.out).trans HB3.out⟩, (HBX.out.trans (HB2.out.mono (by have := HBX.out.size; simp at this; omega))).trans (HB3.out.mono (by have := HBX.out.size; have := HB2.out.size; simp at *; omega))⟩
      case measure => simp [intOf]; omega
     ·have hd : decide (lyW o n t k (j + 1) = lyW o n t k j) = false := decide_eq_false heq
      have HQ := Lib.hid heq
      clear heq
      rw [hd]
      clear hd
      have hown3 := own_ext HO2.out HB3.out
      have hzz : w.heap.size + 1 ≤ w3.heap.size := by have := HBX.out.size; have := HB2.out.size; have := HB3.out.size; simp at *; omega
      go_wp2_with (at_builtin; refine wpList_append_lies _ rfl (.tmp 31) (.tmp 33) 47 rfl (w.heap.size + 1) 3 i0 z0 1 8 Try.underlying47 HI.out.1 HI.out.2.1 HI.out.2.2.1 HI.out.2.2.2.1 HI.out.2.2.2.2 (by omega) (.slice av nw cv) nw (vals (wdL (lyW o n t k) j)) rfl (hown3.alloc _) ⟨w3.heap.size, 0, none⟩ 1 1 [.int .i64 ((j : Int) + 1)] rfl rfl (one_int w3 ((j : Int) + 1) _) (by simp [Value.oneCell']) (by omega) (by unfold maxLen; omega) (by omega) (Nat.le_trans hzz (by simp)) (w3.heap.size + 1) (by simp) ?_; intro g cap' w5 hown5 hgrow5 hat5 hlt5; have H5 := Lib.hid (below_append hgrow5 hown3 hzz); have HG5 := Lib.hid hgrow5; have HO5 := Lib.hid hown5; clear hgrow5 hown5 hat5 hlt5)
      go_roundw
      case rel =>
       refine ⟨j + 1, m2, a2, c2, g2, by omega, by go_num, rfl, HM2, Lib.hid ⟨?_, HS2.out.2, ?_, Below.trans (show Below w.heap.size w w3 from (HWD.out.below.trans HB2.out).trans HB3.out) (H5.out.mono (Nat.le_succ w.heap.size))⟩, ((HBX.out.trans (HB2.out.mono (by have := HBX.out.size; simp at this; omega))).trans (HB3.out.mono (by have := HBX.out.size; have := HB2.out.size; simp at *; omega))).trans H5.out⟩
       ·refine lay_grown (HS2.out.1.below HS2.out.1.lt HB3.out) HG5.out fun c hcg => ?_
        refine ⟨Nat.lt_of_lt_of_le (HS2.out.1.lt c hcg) HB3.out.size, fun e => ?_⟩
        have h1 := HLT.out c e
        have h2 := (HF2.out.2 c hcg).1
        omega
       ·rw [wd_new HQ.out, ← vals_snoc, List.length_append, HNW.out, HJC.out]; exact HO5.out
      case measure => simp [intOf]; omega
    ·obtain rfl : j = 200 := by omega
     go_wp2_with fail
     go_ret2
     exact ret_wd HVA.out HWD.out.own HWD.out.below
end
end Go.Proofs.Ytjcaiecapapceaa.RnV
