import Derived.Test.YtclifbjnooilmaaGreatBeX
/-
 By how much the rendered layout costs more than the best one, and the least width in which it does; nothing here speaks of the program.
-/
set_option linter.unusedVariables false
set_option linter.unusedSimpArgs false
set_option maxRecDepth 100000
set_option maxHeartbeats 3200000
namespace Go.Proofs.YtclifbjnooilmaaGreat.Be
open Go.RowKit P1 Cnt ChP It Cst Rn
open Ls hiding Lay
def rnX (x o n : Int) (t : ByteArray) (k : F) : List (Int × ByteArray) := (stD x o n t k).fin
def ggR (x o n : Int) (t : ByteArray) (k : F) : Int × Int × Bool := if (beR x o n t k).2 then (ov x (rnX x o n t k) - ov x (beR x o n t k).1, ((rnX x o n t k).length : Int) - ((beR x o n t k).1.length : Int), true) else (0, 0, false)
theorem gg_no {x o n : Int} {t : ByteArray} {k : F} (h : (beR x o n t k).2 = false) : ggR x o n t k = (0, 0, false) := by simp [ggR, h]
theorem gg_yes {x o n : Int} {t : ByteArray} {k : F} (h : (beR x o n t k).2 = true) : ggR x o n t k = (ov x (rnX x o n t k) - ov x (beR x o n t k).1, ((rnX x o n t k).length : Int) - ((beR x o n t k).1.length : Int), true) := by simp [ggR, h]
theorem told_valid {o n : Int} {t : ByteArray} {k : F} (h : toldD o n t k = true) : validD o n t k = true := by
 have h2 := (told_parts h).2.2.2
 unfold manyD at h2
 rw [Bool.and_eq_true] at h2
 exact h2.1
theorem rnX_lv {x o n : Int} {t : ByteArray} {k : F} (h : validD o n t k = true) : lv (rnX x o n t k) = true := rn_lv x h
theorem rnX_mem {x o n : Int} {t : ByteArray} {k : F} (h : toldD o n t k = true) : rnX x o n t k ∈ laysD o n t k := by
 obtain ⟨c, h1, h2⟩ := rn_choice x (told_valid h)
 rw [lays_yes h]
 show (stD x o n t k).fin ∈ _
 rw [h2]
 simp only [upto, List.mem_map, List.mem_range]
 exact ⟨c, h1, rfl⟩
def fgO (o n : Int) (t : ByteArray) (k : F) : Option Nat := (List.range 201).find? (fun j => !(decide ((ggR (j : Int) o n t k).1 = 0) && decide ((ggR (j : Int) o n t k).2.1 = 0)))
def fgR (o n : Int) (t : ByteArray) (k : F) : Int × Bool := if toldD o n t k then (match fgO o n t k with | some j => ((j : Int), true) | none => (0, false)) else (0, false)
theorem nz {a b : Int} : (!(decide (a = 0) && decide (b = 0))) = true ↔ ¬ (a = 0 ∧ b = 0) := by
 by_cases h1 : a = 0 <;> by_cases h2 : b = 0 <;> simp [h1, h2]
section
variable {o n : Int} {t : ByteArray} {k : F}
theorem fgO_some {j : Nat} (hj : j ≤ 200) (h1 : ∀ i, i < j → (ggR (i : Int) o n t k).1 = 0 ∧ (ggR (i : Int) o n t k).2.1 = 0) (h2 : ¬ ((ggR (j : Int) o n t k).1 = 0 ∧ (ggR (j : Int) o n t k).2.1 = 0)) : fgO o n t k = some j := by
 unfold fgO
 rw [List.find?_range_eq_some]
 refine ⟨nz.2 h2, by simp; omega, fun i hi => by simp [h1 i hi]⟩
theorem fgO_none (h1 : ∀ i : Nat, i ≤ 200 → (ggR (i : Int) o n t k).1 = 0 ∧ (ggR (i : Int) o n t k).2.1 = 0) : fgO o n t k = none := by
 unfold fgO
 rw [List.find?_range_eq_none]
 intro i hi
 simp [h1 i (by omega)]
theorem fgR_no (h : toldD o n t k = false) : fgR o n t k = (0, false) := by unfold fgR; rw [if_neg (by rw [h]; decide)]
theorem fgR_some (h : toldD o n t k = true) {j : Nat} (hj : fgO o n t k = some j) : fgR o n t k = ((j : Int), true) := by unfold fgR; rw [if_pos h, hj]
theorem fgR_none (h : toldD o n t k = true) (hj : fgO o n t k = none) : fgR o n t k = (0, false) := by unfold fgR; rw [if_pos h, hj]
end
end Go.Proofs.YtclifbjnooilmaaGreat.Be
namespace Go.Proofs.YtclifbjnooilmaaGreat.Be
open Go.RowKit Go.Shelf P1 Cnt CntC ChP It Cst Rn RnR LayN
open Ls hiding Lay
theorem ov_top {x : Int} (hx : 0 ≤ x) {l : List (Int × ByteArray)} (h : lv l = true) : 0 ≤ ov x l ∧ ov x l ≤ 479800 := by
 have h1 := ov_bd hx h l.length (Nat.le_refl _)
 rw [List.take_length] at h1
 have h2 := (lv_len h).2
 omega
theorem minusM (a b c d : Int) (w : World) (ha0 : 0 ≤ a) (ha1 : a ≤ 1000000) (hb0 : 0 ≤ b) (hb1 : b ≤ 1000000) (hc0 : 0 ≤ c) (hc1 : c ≤ 1000000) (hd0 : 0 ≤ d) (hd1 : d ≤ 1000000) :
  Calls Tryz.prog 90 #[.agg #[.int .i64 a, .int .i64 b], .agg #[.int .i64 c, .int .i64 d]] w fun e w' => e = .returned (.agg #[.int .i64 (a - c), .int .i64 (b - d)]) ∧ Below w.heap.size w w' := by
 have e1 : IntKind.i64.wrap (a - c) = a - c := by rw [IntKind.wrap_i64]; omega
 have e2 : IntKind.i64.wrap (b - d) = b - d := by rw [IntKind.wrap_i64]; omega
 obtain ⟨x, hx⟩ : ∃ x, a - c = x := ⟨_, rfl⟩
 obtain ⟨y, hy⟩ : ∃ y, b - d = y := ⟨_, rfl⟩
 rw [hx] at e1 ⊢
 rw [hy] at e2 ⊢
 have H0 := Lib.hid (show ∀ o1 o2 o3, Ext w (((w.alloc o1).alloc o2).alloc o3) from fun o1 o2 o3 => (((Ext.refl w).alloc o1).alloc o2).alloc o3)
 clear ha0 ha1 hb0 hb1 hc0 hc1 hd0 hd1
 go_enter Tryz.func90, Tryz.ntmps90
 go_wp2_with fail
 obtain ⟨V, hV⟩ : ∃ V, (w.alloc (.cells #[.int .i64 a, .int .i64 b] 33)).alloc (.cells #[.int .i64 c, .int .i64 d] 33) = V := ⟨_, rfl⟩
 have hz : w.heap.size + 1 + 1 = V.heap.size := by rw [← hV]; simp
 have H1 := Lib.hid (show ∀ o3, Ext w (V.alloc o3) from fun o3 => by rw [← hV]; exact H0.out _ _ _)
 rw [hV, hz]
 have r0 : (V.alloc (.cells #[.int .i64 x, .int .i64 y] 33)).cell? ⟨V.heap.size, 0, none⟩ = some (.int .i64 x) := by rw [World.cell?_alloc_new]; rfl
 have r1 : (V.alloc (.cells #[.int .i64 x, .int .i64 y] 33)).cell? ⟨V.heap.size, 1, none⟩ = some (.int .i64 y) := by rw [World.cell?_alloc_new]; rfl
 have rl : V.heap.size < (V.alloc (.cells #[.int .i64 x, .int .i64 y] 33)).heap.size := by simp
 refine bodyPost_ret (v := .agg #[.int .i64 x, .int .i64 y]) (by simp [results, Tryz.results90, go_sem, r0, r1, rl]) rfl ?_
 exact ⟨rfl, H1.out _⟩
section
variable (x : Int) (w : World) (o n : Int) (t : ByteArray) (k : F) (a : Option Addr) (cap : Nat) (fs : List Nat)
def gapV (x o n : Int) (t : ByteArray) (k : F) : Int × Int := (ov x (rnX x o n t k) - ov x (least (kc x) (laysD o n t k)), ((rnX x o n t k).length : Int) - ((least (kc x) (laysD o n t k)).length : Int))
theorem gg_gap {x o n : Int} {t : ByteArray} {k : F} (hw : wv x = true) (hto : toldD o n t k = true) : ggR x o n t k = ((gapV x o n t k).1, (gapV x o n t k).2, true) := by
 have hb : (beR x o n t k).2 = true := by rw [be_told hto hw]
 rw [gg_yes hb, be_told hto hw]; rfl
theorem lays_least {x o n : Int} {t : ByteArray} {k : F} (hto : toldD o n t k = true) : lv (least (kc x) (laysD o n t k)) = true := by
 have hp := lays_pos (o := o) (n := n) (t := t) (k := k) hto
 refine lays_good (o := o) (n := n) (t := t) (k := k) _ ?_
 cases hl : laysD o n t k with
 | nil => rw [hl] at hp; simp at hp
 | cons y ys => exact least_mem _ _ _
theorem gapOf (hs : SubAt w a k fs) (hfs : ∀ c ∈ fs, c < w.heap.size ∧ ∀ o, w.frozen? ⟨c, o, none⟩ = false) (hc : k.len ≤ cap) (hsz : t.size + k.size ≤ 2000000) (hft : k.Fits) (ht : t.size ≤ maxLen) (hw : wv x = true) (hto : toldD o n t k = true)
  (al : Option Addr) (cl : Nat) (fl : List Nat) (hsl : LLSub w al (laysD o n t k) fl) (hnd : fl.Nodup) (hcl : (laysD o n t k).length ≤ cl) :
  Calls Tryz.prog 51 #[.agg #[.int .i64 o, .int .i64 n, .string t, .slice a k.len cap], .slice al (laysD o n t k).length cl, .int .i64 x] w fun e w' => e = .returned (.agg #[.int .i64 (gapV x o n t k).1, .int .i64 (gapV x o n t k).2]) ∧ Below w.heap.size w w' := by
 have hx := wv_bd hw
 have hva := told_valid hto
 have hri : rightD x o n t k = true := by simp [rightD, hva, hx.1, hx.2]
 have B1 := Lib.hid (show ∀ ob ob', Ext w ((w.alloc ob).alloc ob') from fun ob ob' => ((Ext.refl w).alloc _).alloc _)
 have HRD := Lib.hid (fun (w1 : World) (hw1 : Ext w w1) => (show Calls Tryz.prog 18 #[.agg #[.int .i64 o, .int .i64 n, .string t, .slice a k.len cap], .int .i64 x] w1 (LayRes w1 (rnX x o n t k, true)) from by
  have h := implRenderDoc w1 x o n t k a cap fs (hs.below (fun c hc => (hfs c hc).1) hw1) (fun c hc => ⟨Nat.lt_of_lt_of_le (hfs c hc).1 hw1.size, fun x => (hw1.frozen (hfs c hc).1).trans ((hfs c hc).2 x)⟩) hc hsz hft ht
  rw [rnR_yes hri] at h; exact h))
 have HBO := Lib.hid (fun (w1 : World) (hw1 : Ext w w1) => bestOf x hx.1 hx.2 (laysD o n t k) lays_good (lays_pos hto) (by have := lays_len o n t k; omega) w1 al cl fl (hsl.below hsl.lt hw1) hnd hcl)
 have hlR := rnX_lv (x := x) hva
 have hlB := lays_least (x := x) hto
 have HCR := Lib.hid (fun (W : World) (a2 : Option Addr) (c2 : Nat) (f2 : List Nat) (h1 : LaySub W a2 (rnX x o n t k) f2) (h2 : (rnX x o n t k).length ≤ c2) => rowsCost (rnX x o n t k) x W a2 c2 f2 h1 h2 hlR hx.1 (by omega))
 have HCB := Lib.hid (fun (W : World) (a2 : Option Addr) (c2 : Nat) (f2 : List Nat) (h1 : LaySub W a2 (least (kc x) (laysD o n t k)) f2) (h2 : (least (kc x) (laysD o n t k)).length ≤ c2) => rowsCost (least (kc x) (laysD o n t k)) x W a2 c2 f2 h1 h2 hlB hx.1 (by omega))
 have hoR := ov_top hx.1 hlR
 have hoB := ov_top hx.1 hlB
 have hnR := (lv_len hlR).2
 have hnB := (lv_len hlB).2
 have HMI := Lib.hid (fun (W : World) => minusM (ov x (rnX x o n t k)) ((rnX x o n t k).length : Int) (ov x (least (kc x) (laysD o n t k))) ((least (kc x) (laysD o n t k)).length : Int) W hoR.1 (by omega) (by omega) (by omega) hoB.1 (by omega) (by omega) (by omega))
 unfold gapV
 obtain ⟨LS, hLS⟩ : ∃ L, laysD o n t k = L := ⟨_, rfl⟩
 obtain ⟨R, hR⟩ : ∃ L, rnX x o n t k = L := ⟨_, rfl⟩
 rw [hLS] at HBO HCB HMI ⊢
 rw [hR] at HRD HCR HMI ⊢
 obtain ⟨B, hB⟩ : ∃ L, least (kc x) LS = L := ⟨_, rfl⟩
 rw [hB] at HBO HCB HMI ⊢
 obtain ⟨vr, hvr⟩ : ∃ v, ov x R = v := ⟨_, rfl⟩
 obtain ⟨vb, hvb⟩ : ∃ v, ov x B = v := ⟨_, rfl⟩
 rw [hvr] at HCR HMI ⊢
 rw [hvb] at HCB HMI ⊢
 obtain ⟨mr, hmr⟩ : ∃ m, R.length = m := ⟨_, rfl⟩
 obtain ⟨mb, hmb⟩ : ∃ m, B.length = m := ⟨_, rfl⟩
 obtain ⟨ml, hml⟩ : ∃ m, LS.length = m := ⟨_, rfl⟩
 have HMR := Lib.hid hmr
 have HMB := Lib.hid hmb
 rw [hmr] at HCR HMI ⊢
 rw [hmb] at HCB HMI HBO ⊢
 rw [hml] at HBO ⊢
 obtain ⟨d1, hd1⟩ : ∃ d, vr - vb = d := ⟨_, rfl⟩
 obtain ⟨d2, hd2⟩ : ∃ d, (mr : Int) - (mb : Int) = d := ⟨_, rfl⟩
 simp only [hd1, hd2] at HMI ⊢
 clear hs hfs hc hsz hft ht hw hto hsl hnd hcl hx hva hri hlR hlB hoR hoB hnR hnB hLS hR hB hvr hvb hmr hmb hml hd1 hd2
 go_enter Tryz.func51, Tryz.ntmps51
 go_wp2_with fail
 refine (HRD.out _ (B1.out _ _)).mono ?_
 rintro e2 w2 ⟨a2, c2, f2, rfl, hc2, hs2, hf2, hb2⟩
 simp only at hc2 hs2
 rw [HMR.out] at hc2 ⊢
 have HS2 := Lib.hid (And.intro hs2 hc2)
 have HE2 := Lib.hid (Ext.trans (B1.out _ _) hb2)
 have hz := cell0 (w := w.alloc (.cells #[.int .i64 o, .int .i64 n, .string t, .slice a k.len cap] 25)) (o := .cells #[] 0) hb2
 simp only [World.size_alloc] at hz
 have HZ2 := Lib.hid hz
 clear hb2 hs2 hf2 hc2 hz
 go_wp2_with fail
 refine (HCR.out w2 a2 c2 f2 HS2.out.1 HS2.out.2).mono ?_
 rintro e3 w3 ⟨rfl, hb3⟩
 have K3 := Lib.hid (show Ext w2 w3 from hb3)
 clear hb3
 go_wp2_with fail
 refine (HBO.out w3 (HE2.out.trans K3.out)).mono ?_
 rintro e4 w4 ⟨a4, c4, f4, rfl, hc4, hs4, _, _, hb4⟩
 have HS4 := Lib.hid (And.intro hs4 hc4)
 have K4 := Lib.hid (K3.out.trans (show Ext w3 w4 from hb4))
 clear hb4 hs4 hc4
 go_wp2_with fail
 refine (HCB.out w4 a4 c4 f4 HS4.out.1 HS4.out.2).mono ?_
 rintro e5 w5 ⟨rfl, hb5⟩
 have K5 := Lib.hid (K4.out.trans (show Ext w4 w5 from hb5))
 clear hb5
 go_wp2_with fail
 refine (HMI.out w5).mono ?_
 rintro e6 w6 ⟨rfl, hb6⟩
 have K6 := Lib.hid (K5.out.trans (show Ext w5 w6 from hb6))
 have c0 := (K6.out.cell HZ2.out.2.2.2.2).trans HZ2.out.1
 have c1 := (K6.out.cell HZ2.out.2.2.2.2).trans HZ2.out.2.1
 have z0 := (K6.out.frozen HZ2.out.2.2.2.2).trans HZ2.out.2.2.1
 have z1 := (K6.out.frozen HZ2.out.2.2.2.2).trans HZ2.out.2.2.2.1
 have cl := Nat.lt_of_lt_of_le HZ2.out.2.2.2.2 K6.out.size
 clear hb6
 go_wp2_with fail
 obtain ⟨r0, r1, rl⟩ := pair_set (u := .int .i64 d1) (u' := .int .i64 d2) c0 c1 cl
 refine bodyPost_ret (v := .agg #[.int .i64 d1, .int .i64 d2]) (by simp [results, Tryz.results51, go_sem, r0, r1, rl]) rfl ?_
 exact ⟨rfl, ((HE2.out.trans K6.out).setNew (Nat.le_succ _) _).setNew (Nat.le_succ _) _⟩
theorem implGreedyGap_no (h : (inR x o n t k).2 = false) : ggR x o n t k = (0, 0, false) := gg_no (by rw [in_be h])
theorem implGreedyGap (hs : SubAt w a k fs) (hfs : ∀ c ∈ fs, c < w.heap.size ∧ ∀ o, w.frozen? ⟨c, o, none⟩ = false) (hc : k.len ≤ cap) (hsz : t.size + k.size ≤ 2000000) (hft : k.Fits) (ht : t.size ≤ maxLen) :
  Calls Tryz.prog 21 #[.agg #[.int .i64 o, .int .i64 n, .string t, .slice a k.len cap], .int .i64 x] w (CoOut w (ggR x o n t k)) := by
 have B1 := Lib.hid (show ∀ ob ob', Ext w ((w.alloc ob).alloc ob') from fun ob ob' => ((Ext.refl w).alloc _).alloc _)
 have HLI := Lib.hid (fun (w1 : World) (hw1 : Ext w w1) => layoutsIn x w1 o n t k a cap fs (hs.below (fun c hc => (hfs c hc).1) hw1) (fun c hc => ⟨Nat.lt_of_lt_of_le (hfs c hc).1 hw1.size, fun x => (hw1.frozen (hfs c hc).1).trans ((hfs c hc).2 x)⟩) hc hsz hft ht)
 have HNO := Lib.hid (fun h => implGreedyGap_no x o n t k h)
 have HYE := Lib.hid (fun h : (inR x o n t k).2 = true => in_yes h)
 have HGO := Lib.hid (fun (hw : wv x = true) (hto : toldD o n t k = true) (W : World) (e : Ext w W) (al : Option Addr) (cl : Nat) (fl : List Nat) (h1 : LLSub W al (laysD o n t k) fl) (h2 : fl.Nodup) (h3 : (laysD o n t k).length ≤ cl) => gapOf x W o n t k a cap fs (hs.below (fun c hc => (hfs c hc).1) e) (fun c hc => ⟨Nat.lt_of_lt_of_le (hfs c hc).1 e.size, fun x => (e.frozen (hfs c hc).1).trans ((hfs c hc).2 x)⟩) hc hsz hft ht hw hto al cl fl h1 h2 h3)
 have HGG := Lib.hid (fun (hw : wv x = true) (hto : toldD o n t k = true) => gg_gap hw hto)
 unfold CoOut
 obtain ⟨⟨li, ok⟩, hR⟩ : ∃ R, inR x o n t k = R := ⟨_, rfl⟩
 rw [hR] at HLI HNO HYE
 clear hs hfs hc hsz hft ht hR
 cases ok with
 | false =>
   rw [HNO.out rfl]
   go_enter Tryz.func21, Tryz.ntmps21
   go_wp2_with fail
   refine (HLI.out _ (B1.out _ _)).mono ?_
   rintro e2 w2 ⟨a2, c2, f2, rfl, hc2, hs2, hf2, hb2⟩
   have HB := Lib.hid ((B1.out _ _).trans hb2)
   have hcx := cell0 (w := w.alloc (.cells #[.int .i64 o, .int .i64 n, .string t, .slice a k.len cap] 25)) (o := .cells #[] 0) hb2
   simp only [World.size_alloc] at hcx
   obtain ⟨c0, c1, z0, z1, cl⟩ := hcx
   clear hb2 hs2 hf2 hc2
   go_wp2_with fail
   obtain ⟨r0, r1, rl⟩ := pair_set (u := .int .i64 0) (u' := .int .i64 0) c0 c1 cl
   refine bodyPost_ret (v := .tuple #[.agg #[.int .i64 0, .int .i64 0], .bool false]) (by simp [results, Tryz.results21, go_sem, r0, r1, rl]) rfl ?_
   exact ⟨rfl, (HB.out.setNew (Nat.le_succ _) _).setNew (Nat.le_succ _) _⟩
 | true =>
   obtain ⟨hw, hto, he⟩ := HYE.out rfl
   simp only at he
   subst he
   rw [HGG.out hw hto]
   have HG := Lib.hid (HGO.out hw hto)
   obtain ⟨LS, hLS⟩ : ∃ L, laysD o n t k = L := ⟨_, rfl⟩
   rw [hLS] at HLI HG
   obtain ⟨⟨d1, d2⟩, hd⟩ : ∃ d, gapV x o n t k = d := ⟨_, rfl⟩
   rw [hd] at HG ⊢
   obtain ⟨m, hm⟩ : ∃ m, LS.length = m := ⟨_, rfl⟩
   have HM := Lib.hid hm
   rw [hm] at HG
   clear hLS hd hm hw hto HGO HGG HNO HYE
   go_enter Tryz.func21, Tryz.ntmps21
   go_wp2_with fail
   refine (HLI.out _ (B1.out _ _)).mono ?_
   rintro e2 w2 ⟨a2, c2, f2, rfl, hc2, hs2, hf2, hb2⟩
   rw [HM.out] at hc2 ⊢
   have HB := Lib.hid ((B1.out _ _).trans hb2)
   have HC := Lib.hid (HG.out w2 HB.out a2 c2 f2 hs2 hf2.1 hc2)
   have hcx := cell0 (w := w.alloc (.cells #[.int .i64 o, .int .i64 n, .string t, .slice a k.len cap] 25)) (o := .cells #[] 0) hb2
   simp only [World.size_alloc] at hcx
   have HZ := Lib.hid hcx
   have hx : w2.cell? ⟨w.heap.size, 0, none⟩ = some (.int .i64 o) ∧ w2.cell? ⟨w.heap.size, 1, none⟩ = some (.int .i64 n) ∧ w2.cell? ⟨w.heap.size, 2, none⟩ = some (.string t) ∧ w2.cell? ⟨w.heap.size, 3, none⟩ = some (.slice a k.len cap) := by
    refine ⟨?_, ?_, ?_, ?_⟩
    all_goals (rw [hb2.cell (p := ⟨_, _, _⟩) (by simp; omega), World.cell?_alloc_lt _ _ _ (by simp)]; simp)
   obtain ⟨x0, x1, x2, x3⟩ := hx
   have xl : w.heap.size < w2.heap.size := by have := hb2.size; simp at this; omega
   clear hb2 hs2 hf2 hc2 hcx
   go_wp2_with fail
   refine HC.out.mono ?_
   rintro e3 w3 ⟨rfl, hb3⟩
   have K3 := Lib.hid (show Ext w2 w3 from hb3)
   have c0 := (K3.out.cell HZ.out.2.2.2.2).trans HZ.out.1
   have c1 := (K3.out.cell HZ.out.2.2.2.2).trans HZ.out.2.1
   have z0 := (K3.out.frozen HZ.out.2.2.2.2).trans HZ.out.2.2.1
   have z1 := (K3.out.frozen HZ.out.2.2.2.2).trans HZ.out.2.2.2.1
   have cl := Nat.lt_of_lt_of_le HZ.out.2.2.2.2 K3.out.size
   clear hb3 x0 x1 x2 x3 xl
   go_wp2_with fail
   obtain ⟨r0, r1, rl⟩ := pair_set (u := .int .i64 d1) (u' := .int .i64 d2) c0 c1 cl
   refine bodyPost_ret (v := .tuple #[.agg #[.int .i64 d1, .int .i64 d2], .bool true]) (by simp [results, Tryz.results21, go_sem, r0, r1, rl]) rfl ?_
   exact ⟨rfl, ((HB.out.trans K3.out).setNew (Nat.le_succ _) _).setNew (Nat.le_succ _) _⟩
theorem implFirstGap (hs : SubAt w a k fs) (hfs : ∀ c ∈ fs, c < w.heap.size ∧ ∀ o, w.frozen? ⟨c, o, none⟩ = false) (hc : k.len ≤ cap) (hsz : t.size + k.size ≤ 2000000) (hft : k.Fits) (ht : t.size ≤ maxLen) :
  Calls Tryz.prog 25 #[.agg #[.int .i64 o, .int .i64 n, .string t, .slice a k.len cap]] w fun e w' => e = .returned (.tuple #[.int .i64 (fgR o n t k).1, .bool (fgR o n t k).2]) ∧ Below w.heap.size w w' := by
 have HBX := Lib.hid (show ∀ w', Ext (w.alloc (.cells #[.int .i64 o, .int .i64 n, .string t, .slice a k.len cap] 25)) w' → (w'.cell? ⟨w.heap.size, 0, none⟩ = some (.int .i64 o) ∧ w'.cell? ⟨w.heap.size, 1, none⟩ = some (.int .i64 n) ∧ w'.cell? ⟨w.heap.size, 2, none⟩ = some (.string t) ∧ w'.cell? ⟨w.heap.size, 3, none⟩ = some (.slice a k.len cap)) ∧ Ext w w' from fun w' e => by
  refine ⟨⟨?_, ?_, ?_, ?_⟩, ((Ext.refl w).alloc _).trans e⟩ <;> (rw [e.cell (by simp)]; simp))
 have HLO := Lib.hid (fun (w1 : World) (hw1 : Ext w w1) => implLayoutsOf w1 o n t k a cap fs (hs.below (fun c hc => (hfs c hc).1) hw1) (fun c hc => ⟨Nat.lt_of_lt_of_le (hfs c hc).1 hw1.size, fun x => (hw1.frozen (hfs c hc).1).trans ((hfs c hc).2 x)⟩) hc hsz hft ht)
 cases hto : toldD o n t k with
 | false =>
   rw [fgR_no hto]
   rw [hto, lays_no hto] at HLO
   clear hs hfs hc hsz hft ht hto
   go_enter Tryz.func25, Tryz.ntmps25
   go_wp2_with fail
   refine (HLO.out _ (HBX.out _ (Ext.refl _)).2).mono ?_
   rintro e1 w1 ⟨a1, c1, f1, rfl, hc1, hs1, hf1, hb1⟩
   have HB := Lib.hid (HBX.out _ hb1).2
   clear hc1 hs1 hf1 hb1
   go_wp2_with fail
   go_ret2
   exact ⟨rfl, HB.out⟩
 | true =>
   have hgg : ∀ j : Nat, j ≤ 200 → ggR (j : Int) o n t k = ((gapV (j : Int) o n t k).1, (gapV (j : Int) o n t k).2, true) := fun j hj => gg_gap (by unfold wv; simp; omega) hto
   have hsome := fun (j : Nat) (hj : j ≤ 200) (h1 : ∀ i : Nat, i < j → (gapV (i : Int) o n t k).1 = 0 ∧ (gapV (i : Int) o n t k).2 = 0) (h2 : ¬ ((gapV (j : Int) o n t k).1 = 0 ∧ (gapV (j : Int) o n t k).2 = 0)) => fgR_some hto (fgO_some hj (fun i hi => by rw [hgg i (by omega)]; exact h1 i hi) (by rw [hgg j hj]; exact h2))
   have hnone := fun (h1 : ∀ i : Nat, i ≤ 200 → (gapV (i : Int) o n t k).1 = 0 ∧ (gapV (i : Int) o n t k).2 = 0) => fgR_none hto (fgO_none (fun i hi => by rw [hgg i hi]; exact h1 i hi))
   have hgap := fun (j : Nat) (hj : j ≤ 200) (W : World) (e : Ext w W) (al : Option Addr) (cl : Nat) (fl : List Nat) (h1 : LLSub W al (laysD o n t k) fl) (h2 : fl.Nodup) (h3 : (laysD o n t k).length ≤ cl) => gapOf (j : Int) W o n t k a cap fs (hs.below (fun c hc => (hfs c hc).1) e) (fun c hc => ⟨Nat.lt_of_lt_of_le (hfs c hc).1 e.size, fun x => (e.frozen (hfs c hc).1).trans ((hfs c hc).2 x)⟩) hc hsz hft ht (by unfold wv; simp; omega) hto al cl fl h1 h2 h3
   rw [hto] at HLO
   obtain ⟨r, hr⟩ : ∃ r, fgR o n t k = r := ⟨_, rfl⟩
   rw [hr] at hsome hnone ⊢
   obtain ⟨G1, hG1⟩ : ∃ G : Nat → Int, (fun j : Nat => (gapV (j : Int) o n t k).1) = G := ⟨_, rfl⟩
   obtain ⟨G2, hG2⟩ : ∃ G : Nat → Int, (fun j : Nat => (gapV (j : Int) o n t k).2) = G := ⟨_, rfl⟩
   have hG1' : ∀ j : Nat, (gapV (j : Int) o n t k).1 = G1 j := fun j => by rw [← hG1]
   have hG2' : ∀ j : Nat, (gapV (j : Int) o n t k).2 = G2 j := fun j => by rw [← hG2]
   simp only [hG1', hG2'] at hsome hnone hgap
   obtain ⟨LS, hLS⟩ : ∃ L, laysD o n t k = L := ⟨_, rfl⟩
   rw [hLS] at HLO hgap
   obtain ⟨m, hm⟩ : ∃ m, LS.length = m := ⟨_, rfl⟩
   have HM := Lib.hid hm
   rw [hm] at hgap
   have HG := Lib.hid hgap
   have HS := Lib.hid hsome
   have HN := Lib.hid hnone
   obtain ⟨r0, r1⟩ := r
   clear hs hfs hc hsz hft ht hto hgg hsome hnone hgap hr hG1 hG2 hG1' hG2' hLS hm
   go_enter Tryz.func25, Tryz.ntmps25
   go_wp2_with fail
   refine (HLO.out _ (HBX.out _ (Ext.refl _)).2).mono ?_
   rintro e1 w1 ⟨a1, c1, f1, rfl, hc1, hs1, hf1, hb1⟩
   rw [HM.out] at hc1 ⊢
   have HX1 := Lib.hid (show Ext (w.alloc (.cells #[.int .i64 o, .int .i64 n, .string t, .slice a k.len cap] 25)) w1 from hb1)
   have H1 := Lib.hid (And.intro hc1 (And.intro hs1 hf1.1))
   clear hc1 hs1 hf1 hb1
   go_wp2_with fail
   go_loopw [14] (fun i wr => ∃ (j : Nat), j ≤ 201 ∧ i = .int .i64 (j : Int) ∧ Hid (∀ q, q < j → G1 q = 0 ∧ G2 q = 0) ∧ Hid (Ext w1 wr)) (fun i _ => 201 - (intOf i).toNat)
   case atStart => exact ⟨0, by omega, rfl, Lib.hid (fun q hq => absurd hq (Nat.not_lt_zero q)), Lib.hid (Ext.refl _)⟩
   case round =>
    obtain ⟨j, hj, rfl, HQ, HR⟩ := hrel
    have HXR := Lib.hid (HX1.out.trans HR.out)
    have HWR := Lib.hid (HBX.out _ HXR.out).2
    obtain ⟨x0, x1, x2, x3⟩ := (HBX.out _ HXR.out).1
    have lx : w.heap.size < wr.heap.size := by have := HXR.out.size; simp at this; omega
    have i0 : (0 : Int) ≤ (j : Int) := Int.natCast_nonneg _
    by_cases hjn : j < 201
    ·have i1 : (j : Int) < 201 := by omega
     have HGJ := Lib.hid (fun (W : World) (e : Ext wr W) => HG.out j (by omega) W (HWR.out.trans e) a1 c1 f1 (H1.out.2.1.below H1.out.2.1.lt (HR.out.trans e)) H1.out.2.2 H1.out.1)
     by_cases hz : G1 j = 0 ∧ G2 j = 0
     ·have heq := cost_eq (G1 j) (G2 j) 0 0
      rw [show (decide (G1 j = 0) && decide (G2 j = 0)) = true by simp [hz.1, hz.2]] at heq
      have HZ := Lib.hid hz
      clear hz
      obtain ⟨g1, hg1⟩ : ∃ g, G1 j = g := ⟨_, rfl⟩
      obtain ⟨g2, hg2⟩ : ∃ g, G2 j = g := ⟨_, rfl⟩
      rw [hg1, hg2] at heq HGJ
      clear hg1 hg2
      go_wp2_with fail
      refine (HGJ.out _ (Ext.refl _)).mono ?_
      rintro e2 w2 ⟨rfl, hb2⟩
      have K2 := Lib.hid (HR.out.trans hb2)
      clear hb2 x0 x1 x2 x3 lx
      go_wp2_with fail
      go_roundw
      case rel => exact ⟨j + 1, by omega, by go_num, Lib.hid (fun q hq => by
       by_cases hqj : q < j
       ·exact HQ.out q hqj
       ·obtain rfl : j = q := by omega
        exact HZ.out), K2⟩
      case measure => simp [intOf]; omega
     ·have heq := cost_eq (G1 j) (G2 j) 0 0
      rw [show (decide (G1 j = 0) && decide (G2 j = 0)) = false by
       rw [Bool.and_eq_false_iff, decide_eq_false_iff_not, decide_eq_false_iff_not]
       by_cases h1 : G1 j = 0
       ·exact Or.inr fun h2 => hz ⟨h1, h2⟩
       ·exact Or.inl h1] at heq
      have HRES := Lib.hid (HS.out j (by omega) HQ.out hz)
      clear hz
      obtain ⟨g1, hg1⟩ : ∃ g, G1 j = g := ⟨_, rfl⟩
      obtain ⟨g2, hg2⟩ : ∃ g, G2 j = g := ⟨_, rfl⟩
      rw [hg1, hg2] at heq HGJ
      clear hg1 hg2
      go_wp2_with fail
      refine (HGJ.out _ (Ext.refl _)).mono ?_
      rintro e2 w2 ⟨rfl, hb2⟩
      have K2 := Lib.hid (HWR.out.trans hb2)
      clear hb2 x0 x1 x2 x3 lx
      go_wp2_with fail
      go_ret2
      have h := HRES.out
      injection h with h1 h2
      exact ⟨by rw [h1, h2]; rfl, K2.out⟩
    ·have hjn' : ¬ ((j : Int) < 201) := by omega
     have HRES := Lib.hid (HN.out (fun i hi => HQ.out i (by omega)))
     clear x0 x1 x2 x3 lx
     go_wp2_with fail
     go_ret2
     have h := HRES.out
     injection h with h1 h2
     exact ⟨by rw [h1, h2]; rfl, HWR.out⟩
end
end Go.Proofs.YtclifbjnooilmaaGreat.Be
namespace Go.Proofs.YtclifbjnooilmaaGreat.Be
open Go.RowKit Go.Shelf P1 Cnt ChP It Cst Rn RnR RnM Rq
open Ls hiding Lay
section
variable (x : Int) (w : World) (o n : Int) (t : ByteArray) (k : F) (a : Option Addr) (cap : Nat) (fs : List Nat)
end
end Go.Proofs.YtclifbjnooilmaaGreat.Be
namespace Go.Proofs.YtclifbjnooilmaaGreat.Be
open Go.RowKit P1 Cnt ChP It Cst Rn OpenR
open Ls hiding Lay
theorem box2 {w w' : World} {b : Nat} {u0 u1 : Value} (h : w.cell? ⟨b, 0, none⟩ = some u0 ∧ w.cell? ⟨b, 1, none⟩ = some u1) (hb : b < w.heap.size) (k : Ext w w') : w'.cell? ⟨b, 0, none⟩ = some u0 ∧ w'.cell? ⟨b, 1, none⟩ = some u1 := ⟨(k.cell hb).trans h.1, (k.cell hb).trans h.2⟩
theorem cost_refl (u v : Int) (w : World) : (Op.equalIn 10000 33 (.agg #[.int .i64 u, .int .i64 v]) (.agg #[.int .i64 u, .int .i64 v])).run Tryz.prog w = .ok true w := by rw [cost_eq]; simp
theorem cost_is {u v : Int} (h : u = 0) (h' : v = 0) (w : World) : (Op.equalIn 10000 33 (.agg #[.int .i64 u, .int .i64 v]) (.agg #[.int .i64 0, .int .i64 0])).run Tryz.prog w = .ok true w := by subst h; subst h'; exact cost_refl 0 0 w
theorem lays_one {o n : Int} {t : ByteArray} {k : F} (hv : validD o n t k = true) (hc : ctD o k = 1) : toldD o n t k = true ∧ laysD o n t k = [pkD o n t k 0] := by
 have hm : manyD o n t k = true := by unfold manyD; rw [hv, hc]; rfl
 have hto : toldD o n t k = true := by unfold toldD; rw [hm, hc]; rfl
 refine ⟨hto, ?_⟩
 rw [lays_yes hto, hc]
 simp [upto]
theorem gg_one {x o n : Int} {t : ByteArray} {k : F} {L : Ls.Lay} (hto : toldD o n t k = true) (hl : laysD o n t k = [L]) (hb : (beR x o n t k).2 = true) : ggR x o n t k = (0, 0, true) := by
 have h1 := rnX_mem (x := x) hto
 have h2 := (be_parts hb).2.2.2.1
 rw [hl] at h1 h2
 rw [gg_yes hb, List.mem_singleton.1 h1, List.mem_singleton.1 h2]
 simp
theorem fg_one {o n : Int} {t : ByteArray} {k : F} {L : Ls.Lay} (hto : toldD o n t k = true) (hl : laysD o n t k = [L]) : fgR o n t k = (0, false) := by
 refine fgR_none hto (fgO_none fun i hi => ?_)
 have hw : wv (i : Int) = true := by unfold wv; simp; omega
 rw [gg_one hto hl (by rw [be_told hto hw])]
 exact ⟨rfl, rfl⟩
end Go.Proofs.YtclifbjnooilmaaGreat.Be
