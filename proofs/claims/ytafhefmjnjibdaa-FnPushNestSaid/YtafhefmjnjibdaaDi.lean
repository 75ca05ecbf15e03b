import Derived.Test.YtafhefmjnjibdaaLsS
/-
  DistinctLayouts of the program; HasLayout of both.
-/
set_option linter.unusedVariables false
set_option linter.unusedSimpArgs false
namespace Go.Proofs.Ytafhefmjnjibdaa.It
open Go.RowKit Go.Shelf P1 LayL LayV LayM LayN LayC Cnt CntC Wid ChP Tr ChT ChC Rf
open Ls hiding Lay
attribute [local go_sem] Oper.semAt_some

theorem dist_upto {L : Nat → Lay} (j : Nat) : dist (upto L (j + 1)) = if inL (dist (upto L j)) (L j) then dist (upto L j) else dist (upto L j) ++ [L j] := by rw [upto_succ, dist_snoc]

section
variable (w : World) (o n : Int) (t : ByteArray) (k : F) (a : Option Addr) (cap : Nat) (fs : List Nat)

set_option maxRecDepth 100000 in
set_option maxHeartbeats 6400000 in
theorem implDistinctLayouts (hs : SubAt w a k fs) (hfs : ∀ c ∈ fs, c < w.heap.size ∧ ∀ o, w.frozen? ⟨c, o, none⟩ = false) (hc : k.len ≤ cap) (hsz : t.size + k.size ≤ 2000000) (hft : k.Fits) (ht : t.size ≤ maxLen) :
    Calls Try.prog 44 #[.agg #[.int .i64 o, .int .i64 n, .string t, .slice a k.len cap]] w (LLOut w (dist (laysD o n t k)) (toldD o n t k)) := by
  have B1 := Lib.hid (show ∀ ob, Ext w (w.alloc ob) from fun ob => (Ext.refl w).alloc _)
  have HS := Lib.hid (fun (w1 : World) (hw1 : Ext w w1) => layoutsInOrder w1 o n t k a cap fs (hs.below (fun c hc => (hfs c hc).1) hw1) (fun c hc => ⟨Nat.lt_of_lt_of_le (hfs c hc).1 hw1.size, fun x => (hw1.frozen (hfs c hc).1).trans ((hfs c hc).2 x)⟩) hc hsz hft ht)
  clear hs hfs
  refine calls_marks Try.func44 rfl ?_
  simp only [Try.ntmps44, List.size_toArray, List.length_cons, List.length_nil, Nat.reduceAdd, Nat.reduceSub, Array.replicate_succ, Array.replicate_zero, List.push_toArray, List.append_toArray, List.nil_append, List.cons_append]
  go_wp2_with fail
  refine (HS.out _ (B1.out _)).mono ?_
  rintro e1 w1 (⟨hto, rfl, hb⟩ | ⟨hto, b, rfl, hat, hb⟩)
  · have H1 := Lib.hid (And.intro hto ((B1.out _).trans hb))
    clear hto hb
    go_wp2_with fail
    exact leave_none (results_tmp2 rfl _ _ _) (by rw [H1.out.1, lays_no H1.out.1]; exact ⟨none, 0, [], rfl, by simp [dist], LLSub.nil _ _, Fresh.nil _ _, H1.out.2⟩)
  · obtain ⟨p1, p2, p3, p4⟩ := told_parts hto
    have hG := fun (W : World) (hW : Ext w1 W) => gives p1 p2 hsz (by omega) (hat.keep (Keep.of_ext hW))
    have HLS := Lib.hid (lays_yes hto)
    have HGD := Lib.hid (fun (i : Nat) => pick_lv (DocC.many_yes p4).1 i)
    obtain ⟨L, hL⟩ : ∃ L : Nat → Lay, (fun i => pkD o n t k i) = L := ⟨_, rfl⟩
    have hgd2 : ∀ i, lv (L i) = true := by rw [← hL]; exact HGD.out
    rw [hL] at hG HLS
    obtain ⟨N, hN⟩ : ∃ N, ctD o k = N := ⟨_, rfl⟩
    rw [hN] at hG HLS p3
    have HG2 := Lib.hid hgd2
    have H1 := Lib.hid (And.intro hto ((B1.out _).trans hb))
    clear hto hb hat p1 p2 p4 HGD hL hN hgd2 HS
    go_wp2_with fail
    obtain ⟨W0, hW0⟩ : ∃ W0, w1.alloc (.cells #[.slice none 0 0] 34) = W0 := ⟨_, rfl⟩
    have hz : W0.heap.size = w1.heap.size + 1 := by rw [← hW0]; simp
    have hE0 : Ext w1 W0 := by rw [← hW0]; exact (Ext.refl w1).alloc _
    have hX0 : Boxed W0 w1.heap.size 34 (.slice none 0 0) := by rw [← hW0]; exact Boxed.new _ _ _
    try rw [hW0]
    clear hW0
    refine wpIn_wide.1 (rangeFunc_gives (n := 7) (gf := 105) (lb := #[.pointer (some ⟨b, 0, none⟩)]) rfl (enters_of Try.func105 (by kernel_rfl) rfl) (by omega) (hG W0 hE0) (fun c hc => by omega) (fun k args A W hX => by obtain ⟨a, cap, f, rfl, _⟩ := hX; rfl)
      (fun j A => (∃ v f, Boxed A w1.heap.size 34 v ∧ Acc A 38 (w1.heap.size + 1) v (dist (upto L j)) f) ∧ Below w1.heap.size w1 A)
      (fun _ _ => False)
      (fun j A B ⟨⟨v, f, h1, h2⟩, h3⟩ hA hT => ⟨⟨v, f, hT.boxed h1, hT.acc h2⟩, h3.trans (hT.below (by omega))⟩)
      (fun A B ⟨⟨v, f, h1, h2⟩, h3⟩ hE => ⟨⟨v, f, (hE.block _ h1.lt).trans h1, h2.ext hE⟩, h3.trans (hE.mono h3.size)⟩)
      (fun _ _ _ h => h.elim)
      ⟨⟨.slice none 0 0, [], hX0, Acc.start _ _ _ (by omega)⟩, hE0⟩
      (fun args => { tmps := #[.agg #[.int .i64 o, .int .i64 n, .string t, .slice a k.len cap], .pointer (some ⟨w.heap.size, 0, none⟩), .slice none 0 0, .bool false, .func (.func 105) #[] #[.pointer (some ⟨b, 0, none⟩)], .bool true, .pointer (some ⟨w1.heap.size, 0, none⟩), args.getD 0 undef, .tuple #[.func (.func 105) #[] #[.pointer (some ⟨b, 0, none⟩)], .bool true], .agg #[.int .i64 o, .int .i64 n, .string t, .slice a k.len cap], .tuple #[.func (.func 105) #[] #[.pointer (some ⟨b, 0, none⟩)], .bool true], .func (.func 105) #[] #[.pointer (some ⟨b, 0, none⟩)], .bool true, .bool true, .bool false, .func (.func 105) #[] #[.pointer (some ⟨b, 0, none⟩)], args.getD 0 undef, undef, undef, undef, undef, undef, undef, undef, undef, undef], defers := [] }) ?assign ?body ?done ?stop)
    case assign =>
      rintro l j args A W K ⟨a, cap, f, rfl, _⟩ hK
      gi_wp2_with fail
      exact hK
    case body =>
      rintro l j args A Wp W hj hz1 ⟨⟨v, f, h1, h2⟩, h3⟩ hE ⟨a, cap, f1, rfl, hc, hs, hf⟩ hT
      have hB : Boxed W w1.heap.size 34 v := hT.boxed ((hE.block _ h1.lt).trans h1)
      have hA : Acc W 38 (w1.heap.size + 1) v (dist (upto L j)) f := hT.acc (h2.ext hE)
      have hs' := hT.lay hs
      have hf' := hT.layFresh hs hf
      have hAz := h1.lt
      have hbW : Below w1.heap.size w1 W := (h3.trans (hE.mono h3.size)).trans (hT.below (by omega))
      have hzW : A.heap.size ≤ W.heap.size := by rw [hT.size]; exact hE.size
      have hdl := dist_len (upto L j)
      rw [upto_len] at hdl
      obtain ⟨av, cv, fd, rfl, hcv, hcm, hsub, hfr, _, _⟩ := hA.slice
      have hgu : ∀ x ∈ upto L j, lv x = true := fun x hx => by
        simp only [upto, List.mem_map] at hx
        obtain ⟨i, _, rfl⟩ := hx
        exact HG2.out i
      have hin := containsLayout (dist (upto L j)) (L j) (good_len (dist_good hgu)) W av cv fd hsub hcv (by omega) a cap f1 hs' hc (good_len (ls := [L j]) (by simpa using HG2.out j) _ (by simp))
      have hdt := dist_upto (L := L) j
      have hc1 := hB.cell
      cases hbb : inL (dist (upto L j)) (L j) with
      | true =>
        rw [hbb] at hin hdt
        have HIN := Lib.hid hin
        have HDT := Lib.hid hdt
        clear hin hdt hbb
        gi_wp2_with fail
        refine ⟨trivial, CallsIn.inRound l ((callsIn_wide.2 HIN.out).mono ?_)⟩
        rintro e3 w3 ⟨rfl, hb3⟩
        have hE3 : Ext W w3 := hb3
        gi_wp2_with fail
        exact ⟨keeps_of_ext hE3, Keep.of_ext hE3, ⟨_, f, (hE3.block _ hB.lt).trans hB, by rw [HDT.out]; exact hA.ext hE3⟩, hbW.trans (hE3.mono hbW.size)⟩
      | false =>
        rw [hbb] at hin hdt
        have HIN := Lib.hid hin
        have HDT := Lib.hid hdt
        clear hin hdt hbb
        gi_wp2_with fail
        refine ⟨trivial, CallsIn.inRound l ((callsIn_wide.2 HIN.out).mono ?_)⟩
        rintro e3 w3 ⟨rfl, hb3⟩
        have hE3 : Ext W w3 := hb3
        have hB3 : Boxed w3 w1.heap.size 34 (.slice av (dist (upto L j)).length cv) := (hE3.block _ hB.lt).trans hB
        have hA3 := hA.ext hE3
        obtain ⟨v', w', hrun, hA', hbel, hgr, b', cap', rfl, hbb⟩ := acc_push hA3 (hs'.below hs'.lt hE3) hc ((hf'.mono (by omega)).below (fun q hq => hs'.lt q hq) hE3)
          (fun q hq hm => by have h4 := (hf'.2 q hq).1; have h5 := h2.lt q hm; omega) (fun q hq hm => by have h4 := (hf'.2 q hm).1; have h5 := (h2.own_lt q hq).2; omega) (by omega)
        obtain ⟨g1, g2, g3, g4, g5⟩ := boxed_append hB3 hA3 rfl hA' hgr
        have hc3 := hB3.cell
        have hc4 := g1.cell
        have hc5 := g1.frozen
        gi_wp2_with (gi_at_builtin; refine appendIn rfl _ _ _ rfl (sv := .slice av (dist (upto L j)).length cv) (xv := .slice (some ⟨w3.heap.size, 0, none⟩) 1 1) rfl rfl hrun ?_)
        exact ⟨(keeps_of_ext hE3).trans g4, (Keep.of_ext hE3).trans (Keep.of_below g5 (fun c hc => by omega)), ⟨_, _, g2, by rw [HDT.out]; exact g3⟩, (hbW.trans (hE3.mono hbW.size)).trans g5⟩
    case done =>
      rintro D A W hD ⟨⟨v, f, h1, h2⟩, h3⟩ ⟨B, hE, hT⟩ hK
      have hB : Boxed W w1.heap.size 34 v := hT.boxed ((hE.block _ h1.lt).trans h1)
      have hA : Acc W 38 (w1.heap.size + 1) v (dist (upto L N)) f := hT.acc (h2.ext hE)
      have hbW : Below w1.heap.size w1 W := (h3.trans (hE.mono h3.size)).trans (hT.below (by omega))
      have hc1 := hB.cell
      obtain ⟨a, cap, fs, rfl, hcap, _, hsub, hfr, _, _⟩ := hA.slice
      go_wp2_with fail
      have hT2 : Turn w1.heap.size W (W.putObj D (.deferred none)) := turn_put _ hK rfl (by omega)
      have hs1 := H1.out.2.size
      exact leave_mark hK (results_tmp2 rfl _ _ _) (by rw [HLS.out, H1.out.1]; exact ⟨a, cap, fs, rfl, hcap, hT2.llsub hsub, (hT2.llfresh hsub hfr).mono (by omega), H1.out.2.trans (hbW.trans (hT2.below (Nat.le_refl _)))⟩)
    case stop =>
      rintro D c A W _ h _ _
      exact h.elim

end

end Go.Proofs.Ytafhefmjnjibdaa.It

