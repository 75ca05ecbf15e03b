import Derived.Test.YtclifbjnooilmaaGreatItX
import Derived.Laws.Cover3
/-
 What it comes to to look for a layout in a list of layouts: containsLayout of the program, l3In of the model.
-/
set_option linter.unusedVariables false
set_option linter.unusedSimpArgs false
set_option maxRecDepth 100000
set_option maxHeartbeats 3200000
namespace Go.Proofs.YtclifbjnooilmaaGreat.It
open Go.RowKit P1 LayL LayV LayM LayN Ls
end Go.Proofs.YtclifbjnooilmaaGreat.It
namespace Go.Proofs.YtclifbjnooilmaaGreat.It
open Go.RowKit Go.Shelf P1 LayL LayV LayM LayN LayC Cnt CntC Wid ChP Tr ChT ChC Rf
open Ls hiding Lay
theorem acc_push {W : World} {lo : Nat} {v : Value} {ls : List Lay} {f : List Nat} {a : Option Addr} {cap : Nat} {l : Lay} {f1 : List Nat} (hA : Acc W 28 lo v ls f) (hs : LaySub W a l f1) (hc : l.length ≤ cap) (hf : Fresh lo W f1) (hd : ∀ q ∈ f1, q ∉ f) (ho : ∀ q, v.ownBlock = some q → q ∉ f1) (hl : ls.length + 1 ≤ 1099511627776) :
  ∃ v' w', (Builtin.append_ #[36, 36] 36 #[v, .slice (some ⟨W.heap.size, 0, none⟩) 1 1]).run Tryz.prog (W.alloc (.cells #[.slice a l.length cap] 28)) = .ok v' w' ∧ Acc w' 28 lo v' (ls ++ [l]) (f ++ f1) ∧ Below lo W w' ∧ (W.alloc (.cells #[.slice a l.length cap] 28)).grownBy w' v.ownBlock ∧ ∃ b cap', v' = .slice (some ⟨b, 0, none⟩) (ls.length + 1) cap' ∧ (some b = v.ownBlock ∨ b = W.heap.size + 1) := by
 obtain ⟨i0, hi, hz0, hz1, hz2⟩ := info_parts infoE
 have hE : Ext W (W.alloc (.cells #[.slice a l.length cap] 28)) := (Ext.refl W).alloc _
 obtain ⟨vs, _, _, _, _, hlo⟩ := id hA
 obtain ⟨v', w', h1, h2, h3, h4, b, cap', h5, h6⟩ := Acc.append (P := Tryz.prog) (t := 36) (ty := 36) (c := 1) (p := ⟨W.heap.size, 0, none⟩) Tryz.underlying36 hi hz0 hz1 hz2 (by rfl) (hA.ext hE) (by rw [World.cell?_alloc_new]; rfl) hc (hs.below hs.lt hE) (hf.below (fun q hq => hs.lt q hq) hE) hd ho hl
 exact ⟨v', w', h1, h2, (hE.mono hlo).trans h3, h4, b, cap', h5, by simpa using h6⟩
theorem acc_new {W W' : World} {lo : Nat} {v : Value} {ls : List Lay} {f : List Nat} (hA : Acc W 28 lo v ls f) (hE : Ext W W') {f1 : List Nat} (hf : Fresh W.heap.size W' f1) : (∀ q ∈ f1, q ∉ f) ∧ (∀ q, v.ownBlock = some q → q ∉ f1) ∧ Acc W' 28 lo v ls f ∧ Fresh lo W' f1 := by
 obtain ⟨vs, _, _, _, _, hlo⟩ := id hA
 exact ⟨fun q hq hm => by have h1 := (hf.2 q hq).1; have h2 := hA.lt q hm; omega, fun q hq hm => by have h1 := (hf.2 q hm).1; have h2 := (hA.own_lt q hq).2; omega, hA.ext hE, hf.mono hlo⟩
theorem acc_lit {W : World} {lo : Nat} {v : Value} {ls : List Lay} {f : List Nat} (hA : Acc W 28 lo v ls f) : ∃ (a : Option Addr) (cap : Nat), v = .slice a ls.length cap ∧ ls.length ≤ cap ∧ cap ≤ maxLen := by
 obtain ⟨a, cap, fs, h1, h2, h3, _⟩ := hA.slice
 exact ⟨a, cap, h1, h2, h3⟩
section
variable (w : World) (o n : Int) (t : ByteArray) (k : F) (a : Option Addr) (cap : Nat) (fs : List Nat)
theorem specLayoutsOf (hs : SubAt w a k fs) (hfs : ∀ c ∈ fs, c < w.heap.size) (hc : k.len ≤ cap) (hsz : t.size + k.size ≤ 2000000) (hft : k.Fits) (ht : t.size ≤ maxLen) :
  Calls Tryz.prog 57 #[.agg #[.int .i64 o, .int .i64 n, .string t, .slice a k.len cap]] w (LLOut w (laysD o n t k) (toldD o n t k)) := by
 have B2 := Lib.hid (show ∀ ob ob', Ext w ((w.alloc ob).alloc ob') from fun ob ob' => ((Ext.refl w).alloc _).alloc _)
 have hn := fun (w1 : World) (hw1 : Ext w w1) => ChS.specCountChoices w1 o n t k a cap fs (hs.below hfs hw1) (fun c hc => Nat.lt_of_lt_of_le (hfs c hc) hw1.size) hc (by omega) hft ht
 obtain ⟨N, hN⟩ : ∃ N : Int, ChS.ccN o n t k = N := ⟨_, rfl⟩
 rw [hN] at hn
 cases hm : manyD o n t k with
 | false =>
   have hto := Lib.hid (show toldD o n t k = false by simp [toldD, hm])
   rw [hm] at hn
   have HN := Lib.hid hn
   clear hn hm hs hfs hft hN
   go_enter Tryz.func57, Tryz.ntmps57
   go_wp2_with fail
   refine (HN.out _ (B2.out _ _)).mono ?_
   rintro e2 w2 ⟨rfl, hb2⟩
   have HB := Lib.hid ((B2.out _ _).trans hb2)
   clear hb2
   go_wp2_with fail
   go_ret2
   rw [hto.out, lays_no hto.out]
   exact ⟨_, 0, [], rfl, by simp, LLSub.nil _ _, Fresh.nil _ _, HB.out⟩
 | true =>
   obtain ⟨hv, hcnt, hct⟩ := ChO.valid_parts hm
   have hNc : N = (ctD o k : Int) := by rw [← hN]; simp [ChS.ccN, hm]
   rw [hm] at hn
   have HN := Lib.hid hn
   by_cases h300 : ctD o k ≤ 300
   ·have hto := Lib.hid (show toldD o n t k = true by simp [toldD, hm, h300])
    have hlay := fun (W : World) (hW : Ext w W) (j : Nat) (hj : j < ctD o k) => ChK.pickS_all 40 (by omega) o n t k hv hcnt (by omega) hct j hj W a cap fs (hs.below hfs hW) (fun c hc => Nat.lt_of_lt_of_le (hfs c hc) hW.size) hc
    have HF := Lib.hid (lays_yes hto.out)
    obtain ⟨L, hL⟩ : ∃ L : Nat → Lay, (fun i => pkD o n t k i) = L := ⟨_, rfl⟩
    have hlay2 : ∀ (W : World) (hW : Ext w W) (j : Nat) (hj : j < ctD o k), Calls Tryz.prog 99 #[.agg #[.int .i64 o, .int .i64 n, .string t, .slice a k.len cap], .int .i64 (j : Int)] W (RowsNew W (L j)) := by rw [← hL]; exact hlay
    rw [hL] at HF
    obtain ⟨M, hM⟩ : ∃ M, ctD o k = M := ⟨_, rfl⟩
    rw [hM] at hlay2 HF hNc h300
    have HL := Lib.hid hlay2
    subst hNc
    have h3 : ¬ ((300 : Int) < (M : Int)) := by omega
    clear hn hm hs hfs hft hv hlay hlay2 hL hct hN hM
    go_enter Tryz.func57, Tryz.ntmps57
    go_wp2_with fail
    refine (HN.out _ (B2.out _ _)).mono ?_
    rintro e2 w2 ⟨rfl, hb2⟩
    have hacc : Acc w2 28 (w.heap.size + 1) (.slice (some ⟨w.heap.size + 1, 0, none⟩) 0 0) [] [] := by
     have h := (Acc.made (w.alloc (.cells #[.int .i64 o, .int .i64 n, .string t, .slice a k.len cap] 25)) 28 (w.heap.size + 1) (by simp)).ext hb2
     simpa using h
    have hx : (w2.cell? ⟨w.heap.size, 0, none⟩ = some (.int .i64 o) ∧ w2.cell? ⟨w.heap.size, 1, none⟩ = some (.int .i64 n) ∧ w2.cell? ⟨w.heap.size, 2, none⟩ = some (.string t) ∧ w2.cell? ⟨w.heap.size, 3, none⟩ = some (.slice a k.len cap)) ∧ w.heap.size < w2.heap.size := by
     have hE : Ext (w.alloc (.cells #[.int .i64 o, .int .i64 n, .string t, .slice a k.len cap] 25)) w2 := ((Ext.refl _).alloc _).trans hb2
     have hlt : w.heap.size < (w.alloc (.cells #[.int .i64 o, .int .i64 n, .string t, .slice a k.len cap] 25)).heap.size := by simp
     refine ⟨⟨?_, ?_, ?_, ?_⟩, Nat.lt_of_lt_of_le hlt hE.size⟩ <;> (refine (hE.cell hlt).trans ?_; rw [World.cell?_alloc_new]; rfl)
    have HX := Lib.hid hx
    have HB := Lib.hid ((B2.out _ _).trans hb2)
    clear hb2 hx
    go_wp2_with fail
    go_loopw [7, 4] (fun i v wr => ∃ (j : Nat) (f : List Nat), j ≤ M ∧ i = .int .i64 j ∧ Acc wr 28 (w.heap.size + 1) v (upto L j) f ∧ Below w.heap.size w wr ∧ Below (w.heap.size + 1) w2 wr) (fun i _ _ => M - (intOf i).toNat)
    case atStart => exact ⟨0, [], Nat.zero_le _, rfl, hacc, HB.out, Below.refl _ _⟩
    case round =>
     clear hacc
     obtain ⟨j, f, hj, rfl, hA, hbw, hb2⟩ := hrel
     obtain ⟨av, cv, rfl, hcv, hcm⟩ := acc_lit hA
     have hul := upto_len L j
     rw [hul] at hA hcv ⊢
     have HA := Lib.hid hA
     have HW := Lib.hid (And.intro hbw hb2)
     by_cases hjM : j < M
     ·have HC := Lib.hid (HL.out wr hbw j hjM)
      obtain ⟨⟨x0, x1, x2, x3⟩, xl⟩ := HX.out
      replace x0 := (hb2.cell (p := ⟨w.heap.size, 0, none⟩) (by simp)).trans x0
      replace x1 := (hb2.cell (p := ⟨w.heap.size, 1, none⟩) (by simp)).trans x1
      replace x2 := (hb2.cell (p := ⟨w.heap.size, 2, none⟩) (by simp)).trans x2
      replace x3 := (hb2.cell (p := ⟨w.heap.size, 3, none⟩) (by simp)).trans x3
      clear hA hbw hb2 hul
      go_wp2_with fail
      refine HC.out.mono ?_
      rintro e3 w3 ⟨a3, c3, f3, rfl, hc3, hs3, hf3, hb3⟩
      obtain ⟨d1, d2, hA3, hf3'⟩ := acc_new HA.out hb3 hf3
      obtain ⟨v', w4, hrun, hA4, hbel, hgr, b4, cap4, rfl, _⟩ := acc_push hA3 hs3 hc3 hf3' d1 d2 (by rw [upto_len]; omega)
      have HN4 := Lib.hid (And.intro (show Acc w4 28 (w.heap.size + 1) (.slice (some ⟨b4, 0, none⟩) ((upto L j).length + 1) cap4) (upto L (j + 1)) (f ++ f3) by rw [upto_succ]; exact hA4) (And.intro ((HW.out.1.trans (hb3.mono HW.out.1.size)).trans (hbel.mono (by omega))) (HW.out.2.trans ((hb3.mono (by have := HW.out.2.size; omega)).trans hbel))))
      rw [upto_len] at hrun HN4
      clear hc3 hs3 hf3 hb3 d1 d2 hA3 hf3' hA4 hbel hgr x0 x1 x2 x3
      go_wp2_with (refine append rfl (.tmp 26) (.tmp 30) 36 rfl (sv := .slice av j cv) (xv := .slice (some ⟨w3.heap.size, 0, none⟩) 1 1) rfl rfl hrun ?_)
      go_roundw
      case rel => exact ⟨j + 1, _, by omega, by go_num, HN4.out.1, HN4.out.2.1, HN4.out.2.2⟩
      case measure => simp [intOf]; omega
     ·obtain rfl : j = M := by omega
      obtain ⟨ad, cs, fss, e1, h1, _, hsub, hfr, _, _⟩ := HA.out.slice
      rw [upto_len] at e1 h1
      injection e1 with e2 _ e3
      subst e2 e3
      go_wp2_with fail
      go_ret2
      rw [hto.out, HF.out]
      exact ⟨_, _, fss, by rw [upto_len]; rfl, by rw [upto_len]; exact h1, hsub, hfr.mono (by omega), HW.out.1⟩
   ·have hto := Lib.hid (show toldD o n t k = false by simp [toldD, h300])
    have h3 : (300 : Int) < N := by omega
    clear hn hm hs hfs hft hN hNc
    go_enter Tryz.func57, Tryz.ntmps57
    go_wp2_with fail
    refine (HN.out _ (B2.out _ _)).mono ?_
    rintro e2 w2 ⟨rfl, hb2⟩
    have HB := Lib.hid ((B2.out _ _).trans hb2)
    clear hb2
    go_wp2_with fail
    go_ret2
    rw [hto.out, lays_no hto.out]
    exact ⟨_, 0, [], rfl, by simp, LLSub.nil _ _, Fresh.nil _ _, HB.out⟩
theorem lays_good {o n : Int} {t : ByteArray} {k : F} : ∀ x ∈ laysD o n t k, lv x = true := by
 intro x hx
 cases h : toldD o n t k with
 | false => rw [lays_no h] at hx; simp at hx
 | true =>
   rw [lays_yes h] at hx
   simp only [upto, List.mem_map, List.mem_range] at hx
   obtain ⟨i, _, rfl⟩ := hx
   exact pick_lv (DocC.many_yes (told_parts h).2.2.2).1 i
theorem lays_len (o n : Int) (t : ByteArray) (k : F) : (laysD o n t k).length ≤ 300 := by
 cases h : toldD o n t k with
 | false => rw [lays_no h]; simp
 | true => rw [lays_yes h, upto_len]; exact (told_parts h).2.2.1
theorem lays_pos {o n : Int} {t : ByteArray} {k : F} (h : toldD o n t k = true) : 0 < (laysD o n t k).length := by
 rw [lays_yes h, upto_len]; exact ctD_pos o k
end
end Go.Proofs.YtclifbjnooilmaaGreat.It
namespace Go.Proofs.YtclifbjnooilmaaGreat.It
open Go.RowKit Go.Shelf P1 LayL LayV LayM LayN LayC Cnt CntC Wid ChP Tr ChT ChC Rf
open Ls hiding Lay
attribute [local go_sem] Oper.semAt_some
section
variable (w : World) (o n : Int) (t : ByteArray) (k : F) (a : Option Addr) (cap : Nat) (fs : List Nat)
end
end Go.Proofs.YtclifbjnooilmaaGreat.It
namespace Go.Proofs.YtclifbjnooilmaaGreat.It
open Go.RowKit Go.Shelf P1 LayL LayV LayM LayN LayC Cnt CntC Wid ChP Tr ChT ChC Rf
open Ls hiding Lay
theorem least_take {f : Lay → Int} {ls : List Lay} {j : Nat} (h1 : 1 ≤ j) (hj : j < ls.length) : least f (ls.take (j + 1)) = if f ls[j] < f (least f (ls.take j)) then ls[j] else least f (ls.take j) := by
 cases ls with
 | nil => simp at hj
 | cons x ls =>
   obtain ⟨i, rfl⟩ : ∃ i, j = i + 1 := ⟨j - 1, by omega⟩
   have hi : i < ls.length := by simpa using hj
   rw [List.take_succ_cons, List.take_succ_cons, List.getElem_cons_succ, List.take_succ_eq_append_getElem hi, least_snoc]
theorem least_one {f : Lay → Int} {ls : List Lay} (h : 0 < ls.length) : least f (ls.take 1) = ls[0] := by
 cases ls with
 | nil => simp at h
 | cons x ls => rfl
theorem keepB {w2 w' w'' : World} {b i j : Nat} {u v : Value} {a a' : Option Addr} {l l' : Lay} {f f' : List Nat} (h : ((w'.cell? ⟨b, i, none⟩ = some u ∧ w'.cell? ⟨b, j, none⟩ = some v) ∧ b < w'.heap.size) ∧ (LaySub w' a l f ∧ LaySub w' a' l' f') ∧ Ext w2 w') (k : Ext w' w'') :
  ((w''.cell? ⟨b, i, none⟩ = some u ∧ w''.cell? ⟨b, j, none⟩ = some v) ∧ b < w''.heap.size) ∧ (LaySub w'' a l f ∧ LaySub w'' a' l' f') ∧ Ext w2 w'' :=
 ⟨⟨⟨(k.cell h.1.2).trans h.1.1.1, (k.cell h.1.2).trans h.1.1.2⟩, Nat.lt_of_lt_of_le h.1.2 k.size⟩, ⟨h.2.1.1.below h.2.1.1.lt k, h.2.1.2.below h.2.1.2.lt k⟩, h.2.2.trans k⟩
section
variable (w : World) (o n : Int) (t : ByteArray) (k : F) (a : Option Addr) (cap : Nat) (fs : List Nat)
end
end Go.Proofs.YtclifbjnooilmaaGreat.It
namespace Go.Proofs.YtclifbjnooilmaaGreat.It
open Go.RowKit Go.Shelf P1 LayL LayV LayM LayN LayC Cnt CntC Wid ChP Tr ChT ChC Rf
open Ls hiding Lay
attribute [local go_sem] Oper.semAt_some
section
variable (w : World) (o n : Int) (t : ByteArray) (k : F) (a : Option Addr) (cap : Nat) (fs : List Nat)
end
end Go.Proofs.YtclifbjnooilmaaGreat.It
namespace Go.Proofs.YtclifbjnooilmaaGreat.It
open Go.RowKit Go.Shelf P1 LayL LayV LayM LayN LayC Cnt CntC Wid ChP Tr ChT ChC Rf
open Ls hiding Lay
end Go.Proofs.YtclifbjnooilmaaGreat.It
namespace Go.Proofs.YtclifbjnooilmaaGreat.DocL
open Go.RowKit P1 CntC LayN OpenR ChP ChO It
open Ls hiding Lay
section
variable {w w' : World} {o n : Int} {t : ByteArray} {k : F} {a : Option Addr} {cap : Nat} {fs : List Nat}
end
end Go.Proofs.YtclifbjnooilmaaGreat.DocL
