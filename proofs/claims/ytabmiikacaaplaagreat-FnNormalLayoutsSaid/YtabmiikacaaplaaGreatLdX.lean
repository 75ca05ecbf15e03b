import Derived.Test.YtabmiikacaaplaaGreatItX
import Derived.Test.YtabmiikacaaplaaGreatLwA
import Derived.Laws.Cover3
/-
  What it comes to to look for a layout in a list of layouts: containsLayout of the program, l3In of the model.
-/
set_option linter.unusedVariables false
set_option linter.unusedSimpArgs false
set_option maxRecDepth 100000
set_option maxHeartbeats 6400000
namespace Go.Proofs.YtabmiikacaaplaaGreat.It
open Go.RowKit P1 LayL LayV LayM LayN Ls

theorem inL_yes {ls : List Lay} {l : Lay} {k : Nat} (hk : k < ls.length) (h : ls[k] = l) : inL ls l = true := inL_iff.2 (h ▸ List.getElem_mem hk)
theorem inL_none {ls : List Lay} {l : Lay} (h : ∀ j, (hj : j < ls.length) → ls[j] ≠ l) : inL ls l = false := by
  cases hi : inL ls l with
  | false => rfl
  | true =>
    obtain ⟨j, hj, e⟩ := List.getElem_of_mem (inL_iff.1 hi)
    exact absurd e (h j hj)

theorem sameAs (x l : Lay) (w : World) (a : Option Addr) (cap : Nat) (fs : List Nat) (hs : LaySub w a x fs) (hc : x.length ≤ cap) (hx : x.length ≤ maxLen) (b : Nat) (a' : Option Addr) (cap' : Nat) (fs' : List Nat) (hs' : LaySub w a' l fs') (hc' : l.length ≤ cap') (hl : l.length ≤ maxLen) (hb : w.cell? ⟨b, 0, none⟩ = some (.slice a' l.length cap')) :
    Calls Tryz.prog 48 #[.slice a x.length cap, .pointer (some ⟨b, 0, none⟩)] w fun e w' => e = .returned (.bool (decide (x = l))) ∧ Below w.heap.size w w' := by
  have H := Lib.hid (LaySm.implLayoutSame x l w a cap fs hs a' cap' fs' hs' hc hc' hx hl)
  clear hs hs'
  go_enter Tryz.func48, Tryz.ntmps48
  go_wp2_with fail
  refine H.out.mono ?_
  rintro e1 w1 ⟨rfl, hb1⟩
  have H1 := Lib.hid hb1
  clear hb1 hb
  go_wp2_with fail
  go_ret
  exact ⟨rfl, H1.out⟩

theorem indexFunc (ls : List Lay) (l : Lay) (hg : ∀ x ∈ ls, x.length ≤ maxLen) (w : World) (a : Option Addr) (cap : Nat) (fs : List Nat) (hs : LLSub w a ls fs) (hc : ls.length ≤ cap) (hn : ls.length ≤ 1000000) (b : Nat) (a' : Option Addr) (cap' : Nat) (fs' : List Nat) (hs' : LaySub w a' l fs') (hc' : l.length ≤ cap') (hl : l.length ≤ maxLen) (hb : w.cell? ⟨b, 0, none⟩ = some (.slice a' l.length cap')) (hbw : b < w.heap.size) :
    Calls Tryz.prog 83 #[.slice a ls.length cap, .func (.func 48) #[] #[.pointer (some ⟨b, 0, none⟩)]] w fun e w' => ∃ r : Int, e = .returned (.int .i64 r) ∧ decide (0 ≤ r) = inL ls l ∧ Below w.heap.size w w' := by
  have HR := Lib.hid (show ∀ W, Below w.heap.size w W → ∀ k, (h : k < ls.length) → ∃ bb off a1 c1, a = some ⟨bb, off, none⟩ ∧ bb < W.heap.size ∧ W.cell? ⟨bb, off + k, none⟩ = some (.slice a1 ls[k].length c1) ∧ Calls Tryz.prog 48 #[.slice a1 ls[k].length c1, .pointer (some ⟨b, 0, none⟩)] W fun e w' => e = .returned (.bool (decide (ls[k] = l))) ∧ Below W.heap.size W w' from fun W hW k h => by
    obtain ⟨bb, off, a1, c1, f1, ha, hbb, hcell, hc1, hs1, _⟩ := (hs.below hs.lt hW).get h
    exact ⟨bb, off, a1, c1, ha, hbb, hcell, sameAs ls[k] l W a1 c1 f1 hs1 hc1 (hg _ (List.getElem_mem h)) b a' cap' fs' (hs'.below hs'.lt hW) hc' hl ((hW.cell (p := ⟨b, 0, none⟩) hbw).trans hb)⟩)
  obtain ⟨m, hm⟩ : ∃ m, ls.length = m := ⟨_, rfl⟩
  have HM := Lib.hid hm
  rw [hm] at hc hn ⊢
  clear hm hs hs' hb hg hc' hl
  go_enter Tryz.func83, Tryz.ntmps83
  go_wp2_with fail
  go_loopw [8] (fun i wr => ∃ (k : Nat), k ≤ m ∧ i = .int .i64 k ∧ Hid (∀ j, (hj : j < ls.length) → j < k → ls[j] ≠ l) ∧ Below w.heap.size w wr) (fun i _ => m - (intOf i).toNat)
  case atStart => exact ⟨0, Nat.zero_le _, rfl, Lib.hid (fun j _ (h : j < 0) => absurd h (Nat.not_lt_zero j)), Below.refl _ _⟩
  case round =>
    obtain ⟨k, hk, rfl, HN, hbk⟩ := hrel
    by_cases hkm : k < m
    · have hkl : k < ls.length := by rw [HM.out]; exact hkm
      obtain ⟨bb, off, a1, c1, rfl, hbb, hcell, hcall⟩ := HR.out wr hbk k hkl
      have HC := Lib.hid hcall
      obtain ⟨len1, hlen1⟩ : ∃ n, (ls[k]).length = n := ⟨_, rfl⟩
      rw [hlen1] at hcell HC
      by_cases he : ls[k] = l
      · rw [decide_eq_true he] at HC
        have HY := Lib.hid (inL_yes hkl he)
        have HB := Lib.hid hbk
        clear hcall hlen1 hbk
        go_wp2_with fail
        refine HC.out.mono ?_
        rintro e1 w1 ⟨rfl, hb1⟩
        have H1 := Lib.hid (HB.out.trans (hb1.mono HB.out.size))
        clear hb1 hcell hbb
        go_wp2_with fail
        go_ret
        exact ⟨_, rfl, by rw [HY.out]; simp, H1.out⟩
      · rw [decide_eq_false he] at HC
        have HE := Lib.hid he
        have HB := Lib.hid hbk
        clear hcall hlen1 hbk he
        go_wp2_with fail
        refine HC.out.mono ?_
        rintro e1 w1 ⟨rfl, hb1⟩
        have H1 := Lib.hid (HB.out.trans (hb1.mono HB.out.size))
        clear hb1 hcell hbb
        go_wp2_with fail
        go_roundw
        case rel => exact ⟨k + 1, by omega, by go_num, Lib.hid (fun j hj h => by
          by_cases hjk : j < k
          · exact HN.out j hj hjk
          · obtain rfl : j = k := by omega
            exact HE.out), H1.out⟩
        case measure => simp [intOf]; omega
    · have hF := Lib.hid (inL_none (fun j hj => HN.out j hj (by have := HM.out; omega)))
      go_wp2_with fail
      go_ret
      exact ⟨_, rfl, by rw [hF.out]; rfl, hbk⟩

theorem containsFunc (ls : List Lay) (l : Lay) (hg : ∀ x ∈ ls, x.length ≤ maxLen) (w : World) (a : Option Addr) (cap : Nat) (fs : List Nat) (hs : LLSub w a ls fs) (hc : ls.length ≤ cap) (hn : ls.length ≤ 1000000) (b : Nat) (a' : Option Addr) (cap' : Nat) (fs' : List Nat) (hs' : LaySub w a' l fs') (hc' : l.length ≤ cap') (hl : l.length ≤ maxLen) (hb : w.cell? ⟨b, 0, none⟩ = some (.slice a' l.length cap')) (hbw : b < w.heap.size) :
    Calls Tryz.prog 47 #[.slice a ls.length cap, .func (.func 48) #[] #[.pointer (some ⟨b, 0, none⟩)]] w fun e w' => e = .returned (.bool (inL ls l)) ∧ Below w.heap.size w w' := by
  have H := Lib.hid (indexFunc ls l hg w a cap fs hs hc hn b a' cap' fs' hs' hc' hl hb hbw)
  clear hs hs' hb hg hc' hl hc hn hbw
  go_enter Tryz.func47, Tryz.ntmps47
  go_wp2_with fail
  refine H.out.mono ?_
  rintro e1 w1 ⟨r, rfl, hr, hb1⟩
  have H1 := Lib.hid (And.intro hr hb1)
  clear hb1 hr
  go_wp2_with fail
  go_ret
  exact ⟨by rw [← H1.out.1]; rfl, H1.out.2⟩

theorem containsLayout (ls : List Lay) (l : Lay) (hg : ∀ x ∈ ls, x.length ≤ maxLen) (w : World) (a : Option Addr) (cap : Nat) (fs : List Nat) (hs : LLSub w a ls fs) (hc : ls.length ≤ cap) (hn : ls.length ≤ 1000000) (a' : Option Addr) (cap' : Nat) (fs' : List Nat) (hs' : LaySub w a' l fs') (hc' : l.length ≤ cap') (hl : l.length ≤ maxLen) :
    Calls Tryz.prog 20 #[.slice a ls.length cap, .slice a' l.length cap'] w fun e w' => e = .returned (.bool (inL ls l)) ∧ Below w.heap.size w w' := by
  have H := Lib.hid (fun (T : TypeId) => containsFunc ls l hg (w.alloc (.cells #[.slice a' l.length cap'] T)) a cap fs (hs.below hs.lt ((Ext.refl w).alloc _)) hc hn w.heap.size a' cap' fs' (hs'.below hs'.lt ((Ext.refl w).alloc _)) hc' hl (by rw [World.cell?_alloc_new]; rfl) (by simp))
  have B1 := Lib.hid (show ∀ ob, Ext w (w.alloc ob) from fun ob => (Ext.refl w).alloc _)
  obtain ⟨m, hm⟩ : ∃ m, ls.length = m := ⟨_, rfl⟩
  obtain ⟨m', hm'⟩ : ∃ m', l.length = m' := ⟨_, rfl⟩
  rw [hm, hm'] at H ⊢
  clear hs hs' hg hc' hl hc hn hm hm'
  go_enter Tryz.func20, Tryz.ntmps20
  go_wp2_with fail
  refine (H.out _).mono ?_
  rintro e1 w1 ⟨rfl, hb1⟩
  have H1 := Lib.hid ((B1.out _).trans hb1)
  clear hb1
  go_wp2_with fail
  go_ret
  exact ⟨rfl, H1.out⟩

end Go.Proofs.YtabmiikacaaplaaGreat.It

namespace Go.Proofs.YtabmiikacaaplaaGreat.It
open Go.RowKit Go.Shelf P1 LayL LayV LayM LayN LayC Cnt CntC Wid ChP Tr ChT ChC Rf
open Ls hiding Lay

theorem acc_push {W : World} {lo : Nat} {v : Value} {ls : List Lay} {f : List Nat} {a : Option Addr} {cap : Nat} {l : Lay} {f1 : List Nat} (hA : Acc W 34 lo v ls f) (hs : LaySub W a l f1) (hc : l.length ≤ cap) (hf : Fresh lo W f1) (hd : ∀ q ∈ f1, q ∉ f) (ho : ∀ q, v.ownBlock = some q → q ∉ f1) (hl : ls.length + 1 ≤ 1099511627776) :
    ∃ v' w', (Builtin.append_ #[29, 29] 29 #[v, .slice (some ⟨W.heap.size, 0, none⟩) 1 1]).run Tryz.prog (W.alloc (.cells #[.slice a l.length cap] 34)) = .ok v' w' ∧ Acc w' 34 lo v' (ls ++ [l]) (f ++ f1) ∧ Below lo W w' ∧ (W.alloc (.cells #[.slice a l.length cap] 34)).grownBy w' v.ownBlock ∧ ∃ b cap', v' = .slice (some ⟨b, 0, none⟩) (ls.length + 1) cap' ∧ (some b = v.ownBlock ∨ b = W.heap.size + 1) := by
  obtain ⟨i0, hi, hz0, hz1, hz2⟩ := info_parts infoE
  have hE : Ext W (W.alloc (.cells #[.slice a l.length cap] 34)) := (Ext.refl W).alloc _
  obtain ⟨vs, _, _, _, _, hlo⟩ := id hA
  obtain ⟨v', w', h1, h2, h3, h4, b, cap', h5, h6⟩ := Acc.append (P := Tryz.prog) (t := 29) (ty := 29) (c := 1) (p := ⟨W.heap.size, 0, none⟩) Tryz.underlying29 hi hz0 hz1 hz2 (by rfl) (hA.ext hE) (by rw [World.cell?_alloc_new]; rfl) hc (hs.below hs.lt hE) (hf.below (fun q hq => hs.lt q hq) hE) hd ho hl
  exact ⟨v', w', h1, h2, (hE.mono hlo).trans h3, h4, b, cap', h5, by simpa using h6⟩

section
variable (w : World) (o n : Int) (t : ByteArray) (k : F) (a : Option Addr) (cap : Nat) (fs : List Nat)
theorem lays_good {o n : Int} {t : ByteArray} {k : F} : ∀ x ∈ laysD o n t k, lv x = true := by
  intro x hx
  cases h : toldD o n t k with
  | false => rw [lays_no h] at hx; simp at hx
  | true =>
    rw [lays_yes h] at hx
    simp only [upto, List.mem_map, List.mem_range] at hx
    obtain ⟨i, _, rfl⟩ := hx
    exact pick_lv (DocC.many_yes (told_parts h).2.2.2).1 i
theorem lays_len (o n : Int) (t : ByteArray) (k : F) : (laysD o n t k).length ≤ 300 := by
  cases h : toldD o n t k with
  | false => rw [lays_no h]; simp
  | true => rw [lays_yes h, upto_len]; exact (told_parts h).2.2.1
theorem good_len {ls : List Lay} (h : ∀ x ∈ ls, lv x = true) : ∀ x ∈ ls, x.length ≤ maxLen := fun x hx => by have := (lv_len (h x hx)).2; unfold maxLen; omega
theorem dist_good {ls : List Lay} (h : ∀ x ∈ ls, lv x = true) : ∀ x ∈ dist ls, lv x = true := fun x hx => h x ((dist_mem ls x).1 hx)
end

end Go.Proofs.YtabmiikacaaplaaGreat.It

namespace Go.Proofs.YtabmiikacaaplaaGreat.It
open Go.RowKit Go.Shelf P1 LayL LayV LayM LayN LayC Cnt CntC Wid ChP Tr ChT ChC Rf
open Ls hiding Lay
attribute [local go_sem] Oper.semAt_some

theorem dist_upto {L : Nat → Lay} (j : Nat) : dist (upto L (j + 1)) = if inL (dist (upto L j)) (L j) then dist (upto L j) else dist (upto L j) ++ [L j] := by rw [upto_succ, dist_snoc]

section
variable (w : World) (o n : Int) (t : ByteArray) (k : F) (a : Option Addr) (cap : Nat) (fs : List Nat)

theorem implDistinctLayouts (hs : SubAt w a k fs) (hfs : ∀ c ∈ fs, c < w.heap.size ∧ ∀ o, w.frozen? ⟨c, o, none⟩ = false) (hc : k.len ≤ cap) (hsz : t.size + k.size ≤ 2000000) (hft : k.Fits) (ht : t.size ≤ maxLen) :
    Calls Tryz.prog 7 #[.agg #[.int .i64 o, .int .i64 n, .string t, .slice a k.len cap]] w (LLOut w (dist (laysD o n t k)) (toldD o n t k)) := by
  have B1 := Lib.hid (show ∀ ob, Ext w (w.alloc ob) from fun ob => (Ext.refl w).alloc _)
  have HS := Lib.hid (fun (w1 : World) (hw1 : Ext w w1) => layoutsInOrder w1 o n t k a cap fs (hs.below (fun c hc => (hfs c hc).1) hw1) (fun c hc => ⟨Nat.lt_of_lt_of_le (hfs c hc).1 hw1.size, fun x => (hw1.frozen (hfs c hc).1).trans ((hfs c hc).2 x)⟩) hc hsz hft ht)
  clear hs hfs
  refine calls_marks Tryz.func7 rfl ?_
  simp only [Tryz.ntmps7, List.size_toArray, List.length_cons, List.length_nil, Nat.reduceAdd, Nat.reduceSub, Array.replicate_succ, Array.replicate_zero, List.push_toArray, List.append_toArray, List.nil_append, List.cons_append]
  go_wp2_with fail
  refine (HS.out _ (B1.out _)).mono ?_
  rintro e1 w1 (⟨hto, rfl, hb⟩ | ⟨hto, b, rfl, hat, hb⟩)
  · have H1 := Lib.hid (And.intro hto ((B1.out _).trans hb))
    clear hto hb
    go_wp2_with fail
    exact leave_none (results_tmp2 rfl _ _ _) (by rw [H1.out.1, lays_no H1.out.1]; exact ⟨none, 0, [], rfl, by simp [dist], LLSub.nil _ _, Fresh.nil _ _, H1.out.2⟩)
  · obtain ⟨p1, p2, p3, p4⟩ := told_parts hto
    have hG := fun (W : World) (hW : Ext w1 W) => gives p1 p2 hsz (by omega) (hat.keep (Keep.of_ext hW))
    have HLS := Lib.hid (lays_yes hto)
    have HGD := Lib.hid (fun (i : Nat) => pick_lv (DocC.many_yes p4).1 i)
    obtain ⟨L, hL⟩ : ∃ L : Nat → Lay, (fun i => pkD o n t k i) = L := ⟨_, rfl⟩
    have hgd2 : ∀ i, lv (L i) = true := by rw [← hL]; exact HGD.out
    rw [hL] at hG HLS
    obtain ⟨N, hN⟩ : ∃ N, ctD o k = N := ⟨_, rfl⟩
    rw [hN] at hG HLS p3
    have HG2 := Lib.hid hgd2
    have H1 := Lib.hid (And.intro hto ((B1.out _).trans hb))
    clear hto hb hat p1 p2 p4 HGD hL hN hgd2 HS
    go_wp2_with fail
    obtain ⟨W0, hW0⟩ : ∃ W0, w1.alloc (.cells #[.slice none 0 0] 29) = W0 := ⟨_, rfl⟩
    have hz : W0.heap.size = w1.heap.size + 1 := by rw [← hW0]; simp
    have hE0 : Ext w1 W0 := by rw [← hW0]; exact (Ext.refl w1).alloc _
    have hX0 : Boxed W0 w1.heap.size 29 (.slice none 0 0) := by rw [← hW0]; exact Boxed.new _ _ _
    try rw [hW0]
    clear hW0
    refine wpIn_wide.1 (rangeFunc_gives (n := 7) (gf := 45) (lb := #[.pointer (some ⟨b, 0, none⟩)]) rfl (enters_of Tryz.func45 (by kernel_rfl) rfl) (by omega) (hG W0 hE0) (fun c hc => by omega) (fun k args A W hX => by obtain ⟨a, cap, f, rfl, _⟩ := hX; rfl)
      (fun j A => (∃ v f, Boxed A w1.heap.size 29 v ∧ Acc A 34 (w1.heap.size + 1) v (dist (upto L j)) f) ∧ Below w1.heap.size w1 A)
      (fun _ _ => False)
      (fun j A B ⟨⟨v, f, h1, h2⟩, h3⟩ hA hT => ⟨⟨v, f, hT.boxed h1, hT.acc h2⟩, h3.trans (hT.below (by omega))⟩)
      (fun A B ⟨⟨v, f, h1, h2⟩, h3⟩ hE => ⟨⟨v, f, (hE.block _ h1.lt).trans h1, h2.ext hE⟩, h3.trans (hE.mono h3.size)⟩)
      (fun _ _ _ h => h.elim)
      ⟨⟨.slice none 0 0, [], hX0, Acc.start _ _ _ (by omega)⟩, hE0⟩
      (fun args => { tmps := #[.agg #[.int .i64 o, .int .i64 n, .string t, .slice a k.len cap], .pointer (some ⟨w.heap.size, 0, none⟩), .slice none 0 0, .bool false, .func (.func 45) #[] #[.pointer (some ⟨b, 0, none⟩)], .bool true, .pointer (some ⟨w1.heap.size, 0, none⟩), args.getD 0 undef, .tuple #[.func (.func 45) #[] #[.pointer (some ⟨b, 0, none⟩)], .bool true], .agg #[.int .i64 o, .int .i64 n, .string t, .slice a k.len cap], .tuple #[.func (.func 45) #[] #[.pointer (some ⟨b, 0, none⟩)], .bool true], .func (.func 45) #[] #[.pointer (some ⟨b, 0, none⟩)], .bool true, .bool true, .bool false, .func (.func 45) #[] #[.pointer (some ⟨b, 0, none⟩)], args.getD 0 undef, undef, undef, undef, undef, undef, undef, undef, undef, undef], defers := [] }) ?assign ?body ?done ?stop)
    case assign =>
      rintro l j args A W K ⟨a, cap, f, rfl, _⟩ hK
      gi_wp2_with fail
      exact hK
    case body =>
      rintro l j args A Wp W hj hz1 ⟨⟨v, f, h1, h2⟩, h3⟩ hE ⟨a, cap, f1, rfl, hc, hs, hf⟩ hT
      have hB : Boxed W w1.heap.size 29 v := hT.boxed ((hE.block _ h1.lt).trans h1)
      have hA : Acc W 34 (w1.heap.size + 1) v (dist (upto L j)) f := hT.acc (h2.ext hE)
      have hs' := hT.lay hs
      have hf' := hT.layFresh hs hf
      have hAz := h1.lt
      have hbW : Below w1.heap.size w1 W := (h3.trans (hE.mono h3.size)).trans (hT.below (by omega))
      have hzW : A.heap.size ≤ W.heap.size := by rw [hT.size]; exact hE.size
      have hdl := dist_len (upto L j)
      rw [upto_len] at hdl
      obtain ⟨av, cv, fd, rfl, hcv, hcm, hsub, hfr, _, _⟩ := hA.slice
      have hgu : ∀ x ∈ upto L j, lv x = true := fun x hx => by
        simp only [upto, List.mem_map] at hx
        obtain ⟨i, _, rfl⟩ := hx
        exact HG2.out i
      have hin := containsLayout (dist (upto L j)) (L j) (good_len (dist_good hgu)) W av cv fd hsub hcv (by omega) a cap f1 hs' hc (good_len (ls := [L j]) (by simpa using HG2.out j) _ (by simp))
      have hdt := dist_upto (L := L) j
      have hc1 := hB.cell
      cases hbb : inL (dist (upto L j)) (L j) with
      | true =>
        rw [hbb] at hin hdt
        have HIN := Lib.hid hin
        have HDT := Lib.hid hdt
        clear hin hdt hbb
        gi_wp2_with fail
        refine ⟨trivial, CallsIn.inRound l ((callsIn_wide.2 HIN.out).mono ?_)⟩
        rintro e3 w3 ⟨rfl, hb3⟩
        have hE3 : Ext W w3 := hb3
        gi_wp2_with fail
        exact ⟨keeps_of_ext hE3, Keep.of_ext hE3, ⟨_, f, (hE3.block _ hB.lt).trans hB, by rw [HDT.out]; exact hA.ext hE3⟩, hbW.trans (hE3.mono hbW.size)⟩
      | false =>
        rw [hbb] at hin hdt
        have HIN := Lib.hid hin
        have HDT := Lib.hid hdt
        clear hin hdt hbb
        gi_wp2_with fail
        refine ⟨trivial, CallsIn.inRound l ((callsIn_wide.2 HIN.out).mono ?_)⟩
        rintro e3 w3 ⟨rfl, hb3⟩
        have hE3 : Ext W w3 := hb3
        have hB3 : Boxed w3 w1.heap.size 29 (.slice av (dist (upto L j)).length cv) := (hE3.block _ hB.lt).trans hB
        have hA3 := hA.ext hE3
        obtain ⟨v', w', hrun, hA', hbel, hgr, b', cap', rfl, hbb⟩ := acc_push hA3 (hs'.below hs'.lt hE3) hc ((hf'.mono (by omega)).below (fun q hq => hs'.lt q hq) hE3)
          (fun q hq hm => by have h4 := (hf'.2 q hq).1; have h5 := h2.lt q hm; omega) (fun q hq hm => by have h4 := (hf'.2 q hm).1; have h5 := (h2.own_lt q hq).2; omega) (by omega)
        obtain ⟨g1, g2, g3, g4, g5⟩ := boxed_append hB3 hA3 rfl hA' hgr
        have hc3 := hB3.cell
        have hc4 := g1.cell
        have hc5 := g1.frozen
        gi_wp2_with (gi_at_builtin; refine appendIn rfl _ _ _ rfl (sv := .slice av (dist (upto L j)).length cv) (xv := .slice (some ⟨w3.heap.size, 0, none⟩) 1 1) rfl rfl hrun ?_)
        exact ⟨(keeps_of_ext hE3).trans g4, (Keep.of_ext hE3).trans (Keep.of_below g5 (fun c hc => by omega)), ⟨_, _, g2, by rw [HDT.out]; exact g3⟩, (hbW.trans (hE3.mono hbW.size)).trans g5⟩
    case done =>
      rintro D A W hD ⟨⟨v, f, h1, h2⟩, h3⟩ ⟨B, hE, hT⟩ hK
      have hB : Boxed W w1.heap.size 29 v := hT.boxed ((hE.block _ h1.lt).trans h1)
      have hA : Acc W 34 (w1.heap.size + 1) v (dist (upto L N)) f := hT.acc (h2.ext hE)
      have hbW : Below w1.heap.size w1 W := (h3.trans (hE.mono h3.size)).trans (hT.below (by omega))
      have hc1 := hB.cell
      obtain ⟨a, cap, fs, rfl, hcap, _, hsub, hfr, _, _⟩ := hA.slice
      go_wp2_with fail
      have hT2 : Turn w1.heap.size W (W.putObj D (.deferred none)) := turn_put _ hK rfl (by omega)
      have hs1 := H1.out.2.size
      exact leave_mark hK (results_tmp2 rfl _ _ _) (by rw [HLS.out, H1.out.1]; exact ⟨a, cap, fs, rfl, hcap, hT2.llsub hsub, (hT2.llfresh hsub hfr).mono (by omega), H1.out.2.trans (hbW.trans (hT2.below (Nat.le_refl _)))⟩)
    case stop =>
      rintro D c A W _ h _ _
      exact h.elim

theorem implHasLayout (hs : SubAt w a k fs) (hfs : ∀ c ∈ fs, c < w.heap.size ∧ ∀ o, w.frozen? ⟨c, o, none⟩ = false) (hc : k.len ≤ cap) (hsz : t.size + k.size ≤ 2000000) (hft : k.Fits) (ht : t.size ≤ maxLen) (l : Lay) (al : Option Addr) (cl : Nat) (fl : List Nat) (hl : LaySub w al l fl) (hcl : l.length ≤ cl) (hln : l.length ≤ maxLen) :
    Calls Tryz.prog 9 #[.agg #[.int .i64 o, .int .i64 n, .string t, .slice a k.len cap], .slice al l.length cl] w fun e w' => e = .returned (.bool (inL (laysD o n t k) l)) ∧ Below w.heap.size w w' := by
  have B1 := Lib.hid (show ∀ ob, Ext w (w.alloc ob) from fun ob => (Ext.refl w).alloc _)
  have HS := Lib.hid (fun (w1 : World) (hw1 : Ext w w1) => implLayoutsOf w1 o n t k a cap fs (hs.below (fun c hc => (hfs c hc).1) hw1) (fun c hc => ⟨Nat.lt_of_lt_of_le (hfs c hc).1 hw1.size, fun x => (hw1.frozen (hfs c hc).1).trans ((hfs c hc).2 x)⟩) hc hsz hft ht)
  have HC := Lib.hid (fun (W : World) (hW : Ext w W) (av : Option Addr) (cv : Nat) (fv : List Nat) (h1 : LLSub W av (laysD o n t k) fv) (h2 : (laysD o n t k).length ≤ cv) => containsLayout (laysD o n t k) l (good_len lays_good) W av cv fv h1 h2 (by have := lays_len o n t k; omega) al cl fl (hl.below hl.lt hW) hcl hln)
  have HNO := Lib.hid (fun h : toldD o n t k = false => lays_no h)
  obtain ⟨ls, hls⟩ : ∃ ls, laysD o n t k = ls := ⟨_, rfl⟩
  obtain ⟨ok, hok⟩ : ∃ ok, toldD o n t k = ok := ⟨_, rfl⟩
  rw [hls, hok] at HS HNO
  rw [hls] at HC ⊢
  obtain ⟨m, hm⟩ : ∃ m, l.length = m := ⟨_, rfl⟩
  rw [hm] at HC ⊢
  clear hs hfs hls hok hl hcl hln hm
  go_enter Tryz.func9, Tryz.ntmps9
  go_wp2_with fail
  refine (HS.out _ (B1.out _)).mono ?_
  rintro e2 w2 ⟨a2, c2, f2, rfl, hc2, hs2, hf2, hb2⟩
  have HB := Lib.hid ((B1.out _).trans hb2)
  cases ok with
  | false =>
    obtain rfl := HNO.out rfl
    clear hb2 hs2 hf2 hc2
    go_wp2_with fail
    go_ret
    exact ⟨rfl, HB.out⟩
  | true =>
    have HCC := Lib.hid (HC.out w2 HB.out a2 c2 f2 hs2 hc2)
    clear hb2 hs2 hf2 hc2
    go_wp2_with fail
    refine HCC.out.mono ?_
    rintro e3 w3 ⟨rfl, hb3⟩
    have H3 := Lib.hid (HB.out.trans hb3)
    clear hb3
    go_wp2_with fail
    go_ret
    exact ⟨rfl, H3.out⟩

end

end Go.Proofs.YtabmiikacaaplaaGreat.It

namespace Go.Proofs.YtabmiikacaaplaaGreat.It
open Go.RowKit Go.Shelf P1 LayL LayV LayM LayN LayC Cnt CntC Wid ChP Tr ChT ChC Rf
open Ls hiding Lay
section
variable (w : World) (o n : Int) (t : ByteArray) (k : F) (a : Option Addr) (cap : Nat) (fs : List Nat)
end

end Go.Proofs.YtabmiikacaaplaaGreat.It

namespace Go.Proofs.YtabmiikacaaplaaGreat.It
open Go.RowKit Go.Shelf P1 LayL LayV LayM LayN LayC Cnt CntC Wid ChP Tr ChT ChC Rf
open Ls hiding Lay
attribute [local go_sem] Oper.semAt_some

theorem nil_eq (w : World) : (binOp BinOp.eql 34 (.slice none 0 0) (.slice none 0 0)).run Tryz.prog w = .ok (.bool true) w := by
  have h := run_equal_slice_nil (P := Tryz.prog) w _ _ none 0 0 Tryz.underlying34
  simp only [binOp, Sem.run_bind, Sem.run_pure, h, Result.andThen_ok]; rfl
section
variable (w : World) (o n : Int) (t : ByteArray) (k : F) (a : Option Addr) (cap : Nat) (fs : List Nat)
end

end Go.Proofs.YtabmiikacaaplaaGreat.It

namespace Go.Proofs.YtabmiikacaaplaaGreat.It
open Go.RowKit Go.Shelf P1 LayL LayV LayM LayN LayC Cnt CntC Wid ChP Tr ChT ChC Rf
open Ls hiding Lay
end Go.Proofs.YtabmiikacaaplaaGreat.It

namespace Go.Proofs.YtabmiikacaaplaaGreat.DocL
open Go.RowKit P1 CntC LayN OpenR ChP ChO It
open Ls hiding Lay
structure LLIs (w : World) (X : List Ls.Lay) (a : Option Addr) (c : Nat) : Prop where
  sub : ∃ fs, LLSub w a X fs
  cap_le : X.length ≤ c
  good : ∀ x ∈ X, lv x = true
  few : X.length ≤ 300
theorem LLIs.ext {w w' : World} {X : List Ls.Lay} {a : Option Addr} {c : Nat} (h : LLIs w X a c) (e : Ext w w') : LLIs w' X a c := by
  obtain ⟨fs, hs⟩ := h.sub
  exact ⟨⟨fs, hs.below hs.lt e⟩, h.cap_le, h.good, h.few⟩
theorem LLIs.get {w : World} {X : List Ls.Lay} {a : Option Addr} {c : Nat} (h : LLIs w X a c) {k : Nat} (hk : k < X.length) : ∃ (b off : Nat) (a1 : Option Addr) (c1 : Nat), a = some ⟨b, off, none⟩ ∧ b < w.heap.size ∧ w.cell? ⟨b, off + k, none⟩ = some (.slice a1 X[k].length c1) ∧ DocO.LayIs w X[k] a1 c1 := by
  obtain ⟨fs, hs⟩ := h.sub
  obtain ⟨b, off, a1, c1, f1, ha, hb, hcell, hcl, hsub, _⟩ := hs.get hk
  exact ⟨b, off, a1, c1, ha, hb, hcell, ⟨f1, hsub⟩, hcl, .inr (h.good _ (List.getElem_mem hk))⟩

def LOut (w : World) (X : List Ls.Lay) (V : Bool) (e : Ending) (w' : World) : Prop := ∃ (a : Option Addr) (c : Nat), e = .returned (.tuple #[.slice a X.length c, .bool V]) ∧ LLIs w' X a c ∧ Ext w w'
theorem LOut.of {w w' : World} {X : List Ls.Lay} {V : Bool} {e : Ending} (h : LLOut w X V e w') (g : ∀ x ∈ X, lv x = true) (f : X.length ≤ 300) : LOut w X V e w' := by
  obtain ⟨a, c, fs, rfl, h1, h2, _, h4⟩ := h
  exact ⟨a, c, rfl, ⟨⟨fs, h2⟩, h1, g, f⟩, h4⟩
theorem dist_few (o n : Int) (t : ByteArray) (k : F) : (dist (laysD o n t k)).length ≤ 300 := by
  have := dist_len (laysD o n t k); have := lays_len o n t k; omega

section
variable {w w' : World} {o n : Int} {t : ByteArray} {k : F} {a : Option Addr} {cap : Nat} {fs : List Nat}
theorem implDist (h : DocK.Doc0 w n t k a cap fs) (o : Int) : Calls Tryz.prog 7 #[.agg #[.int .i64 o, .int .i64 n, .string t, .slice a k.len cap]] w (LOut w (dist (laysD o n t k)) (toldD o n t k)) :=
  (implDistinctLayouts w o n t k a cap fs h.sub h.ok h.cap_le (by have := h.size; omega) h.fits h.tfit).mono fun e w' g => LOut.of g (dist_good lays_good) (dist_few o n t k)
theorem implHas (h : DocK.Doc0 w n t k a cap fs) (o : Int) {X : Ls.Lay} {al : Option Addr} {cl : Nat} (hl : DocO.LayIs w X al cl) : Calls Tryz.prog 9 #[.agg #[.int .i64 o, .int .i64 n, .string t, .slice a k.len cap], .slice al X.length cl] w fun e w' => e = .returned (.bool (inL (laysD o n t k) X)) ∧ Ext w w' := by
  obtain ⟨fl, hs⟩ := hl.sub
  exact implHasLayout w o n t k a cap fs h.sub h.ok h.cap_le (by have := h.size; omega) h.fits h.tfit X al cl fl hs hl.cap_le hl.fits.2
end
end Go.Proofs.YtabmiikacaaplaaGreat.DocL

