import Derived.Test.YtcpbhkgdeaanmaaItX
import Derived.Test.YtcpbhkgdeaanmaaLyB
import Derived.Test.YtcpbhkgdeaanmaaLwA
import Derived.Deep.RegionHeld3
import Derived.BigQuiet
import Derived.Test.YtcpbhkgdeaanmaaRfX
import Derived.Laws.Cover3
import Derived.Test.YtcpbhkgdeaanmaaDocC
/-
  What it comes to to look for a layout in a list of layouts: containsLayout of the program, l3In of the model.
-/
set_option linter.unusedVariables false
set_option linter.unusedSimpArgs false
namespace Go.Proofs.Ytcpbhkgdeaanmaa.It
open Go.RowKit P1 LayL LayV LayM LayN Ls

theorem inL_yes {ls : List Lay} {l : Lay} {k : Nat} (hk : k < ls.length) (h : ls[k] = l) : inL ls l = true := inL_iff.2 (h ▸ List.getElem_mem hk)
theorem inL_none {ls : List Lay} {l : Lay} (h : ∀ j, (hj : j < ls.length) → ls[j] ≠ l) : inL ls l = false := by
  cases hi : inL ls l with
  | false => rfl
  | true =>
    obtain ⟨j, hj, e⟩ := List.getElem_of_mem (inL_iff.1 hi)
    exact absurd e (h j hj)

set_option maxRecDepth 100000 in
set_option maxHeartbeats 1600000 in
theorem sameAs (x l : Lay) (w : World) (a : Option Addr) (cap : Nat) (fs : List Nat) (hs : LaySub w a x fs) (hc : x.length ≤ cap) (hx : x.length ≤ maxLen) (b : Nat) (a' : Option Addr) (cap' : Nat) (fs' : List Nat) (hs' : LaySub w a' l fs') (hc' : l.length ≤ cap') (hl : l.length ≤ maxLen) (hb : w.cell? ⟨b, 0, none⟩ = some (.slice a' l.length cap')) :
    Calls Try.prog 108 #[.slice a x.length cap, .pointer (some ⟨b, 0, none⟩)] w fun e w' => e = .returned (.bool (decide (x = l))) ∧ Below w.heap.size w w' := by
  have H := Lib.hid (LaySm.implLayoutSame x l w a cap fs hs a' cap' fs' hs' hc hc' hx hl)
  clear hs hs'
  go_enter Try.func108, Try.ntmps108
  go_wp2_with fail
  refine H.out.mono ?_
  rintro e1 w1 ⟨rfl, hb1⟩
  have H1 := Lib.hid hb1
  clear hb1 hb
  go_wp2_with fail
  go_ret
  exact ⟨rfl, H1.out⟩

set_option maxRecDepth 100000 in
set_option maxHeartbeats 3200000 in
theorem indexFunc (ls : List Lay) (l : Lay) (hg : ∀ x ∈ ls, x.length ≤ maxLen) (w : World) (a : Option Addr) (cap : Nat) (fs : List Nat) (hs : LLSub w a ls fs) (hc : ls.length ≤ cap) (hn : ls.length ≤ 1000000) (b : Nat) (a' : Option Addr) (cap' : Nat) (fs' : List Nat) (hs' : LaySub w a' l fs') (hc' : l.length ≤ cap') (hl : l.length ≤ maxLen) (hb : w.cell? ⟨b, 0, none⟩ = some (.slice a' l.length cap')) (hbw : b < w.heap.size) :
    Calls Try.prog 143 #[.slice a ls.length cap, .func (.func 108) #[] #[.pointer (some ⟨b, 0, none⟩)]] w fun e w' => ∃ r : Int, e = .returned (.int .i64 r) ∧ decide (0 ≤ r) = inL ls l ∧ Below w.heap.size w w' := by
  have HR := Lib.hid (show ∀ W, Below w.heap.size w W → ∀ k, (h : k < ls.length) → ∃ bb off a1 c1, a = some ⟨bb, off, none⟩ ∧ bb < W.heap.size ∧ W.cell? ⟨bb, off + k, none⟩ = some (.slice a1 ls[k].length c1) ∧ Calls Try.prog 108 #[.slice a1 ls[k].length c1, .pointer (some ⟨b, 0, none⟩)] W fun e w' => e = .returned (.bool (decide (ls[k] = l))) ∧ Below W.heap.size W w' from fun W hW k h => by
    obtain ⟨bb, off, a1, c1, f1, ha, hbb, hcell, hc1, hs1, _⟩ := (hs.below hs.lt hW).get h
    exact ⟨bb, off, a1, c1, ha, hbb, hcell, sameAs ls[k] l W a1 c1 f1 hs1 hc1 (hg _ (List.getElem_mem h)) b a' cap' fs' (hs'.below hs'.lt hW) hc' hl ((hW.cell (p := ⟨b, 0, none⟩) hbw).trans hb)⟩)
  obtain ⟨m, hm⟩ : ∃ m, ls.length = m := ⟨_, rfl⟩
  have HM := Lib.hid hm
  rw [hm] at hc hn ⊢
  clear hm hs hs' hb hg hc' hl
  go_enter Try.func143, Try.ntmps143
  go_wp2_with fail
  go_loopw [8] (fun i wr => ∃ (k : Nat), k ≤ m ∧ i = .int .i64 k ∧ Hid (∀ j, (hj : j < ls.length) → j < k → ls[j] ≠ l) ∧ Below w.heap.size w wr) (fun i _ => m - (intOf i).toNat)
  case atStart => exact ⟨0, Nat.zero_le _, rfl, Lib.hid (fun j _ (h : j < 0) => absurd h (Nat.not_lt_zero j)), Below.refl _ _⟩
  case round =>
    obtain ⟨k, hk, rfl, HN, hbk⟩ := hrel
    by_cases hkm : k < m
    · have hkl : k < ls.length := by rw [HM.out]; exact hkm
      obtain ⟨bb, off, a1, c1, rfl, hbb, hcell, hcall⟩ := HR.out wr hbk k hkl
      have HC := Lib.hid hcall
      obtain ⟨len1, hlen1⟩ : ∃ n, (ls[k]).length = n := ⟨_, rfl⟩
      rw [hlen1] at hcell HC
      by_cases he : ls[k] = l
      · rw [decide_eq_true he] at HC
        have HY := Lib.hid (inL_yes hkl he)
        have HB := Lib.hid hbk
        clear hcall hlen1 hbk
        go_wp2_with fail
        refine HC.out.mono ?_
        rintro e1 w1 ⟨rfl, hb1⟩
        have H1 := Lib.hid (HB.out.trans (hb1.mono HB.out.size))
        clear hb1 hcell hbb
        go_wp2_with fail
        go_ret
        exact ⟨_, rfl, by rw [HY.out]; simp, H1.out⟩
      · rw [decide_eq_false he] at HC
        have HE := Lib.hid he
        have HB := Lib.hid hbk
        clear hcall hlen1 hbk he
        go_wp2_with fail
        refine HC.out.mono ?_
        rintro e1 w1 ⟨rfl, hb1⟩
        have H1 := Lib.hid (HB.out.trans (hb1.mono HB.out.size))
        clear hb1 hcell hbb
        go_wp2_with fail
        go_roundw
        case rel => exact ⟨k + 1, by omega, by go_num, Lib.hid (fun j hj h => by
          by_cases hjk : j < k
          · exact HN.out j hj hjk
          · obtain rfl : j = k := by omega
            exact HE.out), H1.out⟩
        case measure => simp [intOf]; omega
    · have hF := Lib.hid (inL_none (fun j hj => HN.out j hj (by have := HM.out; omega)))
      go_wp2_with fail
      go_ret
      exact ⟨_, rfl, by rw [hF.out]; rfl, hbk⟩

set_option maxRecDepth 100000 in
theorem containsFunc (ls : List Lay) (l : Lay) (hg : ∀ x ∈ ls, x.length ≤ maxLen) (w : World) (a : Option Addr) (cap : Nat) (fs : List Nat) (hs : LLSub w a ls fs) (hc : ls.length ≤ cap) (hn : ls.length ≤ 1000000) (b : Nat) (a' : Option Addr) (cap' : Nat) (fs' : List Nat) (hs' : LaySub w a' l fs') (hc' : l.length ≤ cap') (hl : l.length ≤ maxLen) (hb : w.cell? ⟨b, 0, none⟩ = some (.slice a' l.length cap')) (hbw : b < w.heap.size) :
    Calls Try.prog 107 #[.slice a ls.length cap, .func (.func 108) #[] #[.pointer (some ⟨b, 0, none⟩)]] w fun e w' => e = .returned (.bool (inL ls l)) ∧ Below w.heap.size w w' := by
  have H := Lib.hid (indexFunc ls l hg w a cap fs hs hc hn b a' cap' fs' hs' hc' hl hb hbw)
  clear hs hs' hb hg hc' hl hc hn hbw
  go_enter Try.func107, Try.ntmps107
  go_wp2_with fail
  refine H.out.mono ?_
  rintro e1 w1 ⟨r, rfl, hr, hb1⟩
  have H1 := Lib.hid (And.intro hr hb1)
  clear hb1 hr
  go_wp2_with fail
  go_ret
  exact ⟨by rw [← H1.out.1]; rfl, H1.out.2⟩

set_option maxRecDepth 100000 in
theorem containsLayout (ls : List Lay) (l : Lay) (hg : ∀ x ∈ ls, x.length ≤ maxLen) (w : World) (a : Option Addr) (cap : Nat) (fs : List Nat) (hs : LLSub w a ls fs) (hc : ls.length ≤ cap) (hn : ls.length ≤ 1000000) (a' : Option Addr) (cap' : Nat) (fs' : List Nat) (hs' : LaySub w a' l fs') (hc' : l.length ≤ cap') (hl : l.length ≤ maxLen) :
    Calls Try.prog 69 #[.slice a ls.length cap, .slice a' l.length cap'] w fun e w' => e = .returned (.bool (inL ls l)) ∧ Below w.heap.size w w' := by
  have H := Lib.hid (fun (T : TypeId) => containsFunc ls l hg (w.alloc (.cells #[.slice a' l.length cap'] T)) a cap fs (hs.below hs.lt ((Ext.refl w).alloc _)) hc hn w.heap.size a' cap' fs' (hs'.below hs'.lt ((Ext.refl w).alloc _)) hc' hl (by rw [World.cell?_alloc_new]; rfl) (by simp))
  have B1 := Lib.hid (show ∀ ob, Ext w (w.alloc ob) from fun ob => (Ext.refl w).alloc _)
  obtain ⟨m, hm⟩ : ∃ m, ls.length = m := ⟨_, rfl⟩
  obtain ⟨m', hm'⟩ : ∃ m', l.length = m' := ⟨_, rfl⟩
  rw [hm, hm'] at H ⊢
  clear hs hs' hg hc' hl hc hn hm hm'
  go_enter Try.func69, Try.ntmps69
  go_wp2_with fail
  refine (H.out _).mono ?_
  rintro e1 w1 ⟨rfl, hb1⟩
  have H1 := Lib.hid ((B1.out _).trans hb1)
  clear hb1
  go_wp2_with fail
  go_ret
  exact ⟨rfl, H1.out⟩

end Go.Proofs.Ytcpbhkgdeaanmaa.It

/-
  LayoutsOf and DistinctLayouts of the model.
-/
set_option linter.unusedVariables false
set_option linter.unusedSimpArgs false
namespace Go.Proofs.Ytcpbhkgdeaanmaa.It
open Go.RowKit Go.Shelf P1 LayL LayV LayM LayN LayC Cnt CntC Wid ChP Tr ChT ChC Rf
open Ls hiding Lay

theorem acc_push {W : World} {lo : Nat} {v : Value} {ls : List Lay} {f : List Nat} {a : Option Addr} {cap : Nat} {l : Lay} {f1 : List Nat} (hA : Acc W 38 lo v ls f) (hs : LaySub W a l f1) (hc : l.length ≤ cap) (hf : Fresh lo W f1) (hd : ∀ q ∈ f1, q ∉ f) (ho : ∀ q, v.ownBlock = some q → q ∉ f1) (hl : ls.length + 1 ≤ 1099511627776) :
    ∃ v' w', (Builtin.append_ #[34, 34] 34 #[v, .slice (some ⟨W.heap.size, 0, none⟩) 1 1]).run Try.prog (W.alloc (.cells #[.slice a l.length cap] 38)) = .ok v' w' ∧ Acc w' 38 lo v' (ls ++ [l]) (f ++ f1) ∧ Below lo W w' ∧ (W.alloc (.cells #[.slice a l.length cap] 38)).grownBy w' v.ownBlock ∧ ∃ b cap', v' = .slice (some ⟨b, 0, none⟩) (ls.length + 1) cap' ∧ (some b = v.ownBlock ∨ b = W.heap.size + 1) := by
  obtain ⟨i0, hi, hz0, hz1, hz2⟩ := info_parts infoE
  have hE : Ext W (W.alloc (.cells #[.slice a l.length cap] 38)) := (Ext.refl W).alloc _
  obtain ⟨vs, _, _, _, _, hlo⟩ := id hA
  obtain ⟨v', w', h1, h2, h3, h4, b, cap', h5, h6⟩ := Acc.append (P := Try.prog) (t := 34) (ty := 34) (c := 1) (p := ⟨W.heap.size, 0, none⟩) Try.underlying34 hi hz0 hz1 hz2 (by rfl) (hA.ext hE) (by rw [World.cell?_alloc_new]; rfl) hc (hs.below hs.lt hE) (hf.below (fun q hq => hs.lt q hq) hE) hd ho hl
  exact ⟨v', w', h1, h2, (hE.mono hlo).trans h3, h4, b, cap', h5, by simpa using h6⟩

section
variable (w : World) (o n : Int) (t : ByteArray) (k : F) (a : Option Addr) (cap : Nat) (fs : List Nat)
theorem lays_good {o n : Int} {t : ByteArray} {k : F} : ∀ x ∈ laysD o n t k, lv x = true := by
  intro x hx
  cases h : toldD o n t k with
  | false => rw [lays_no h] at hx; simp at hx
  | true =>
    rw [lays_yes h] at hx
    simp only [upto, List.mem_map, List.mem_range] at hx
    obtain ⟨i, _, rfl⟩ := hx
    exact pick_lv (DocC.many_yes (told_parts h).2.2.2).1 i
theorem lays_len (o n : Int) (t : ByteArray) (k : F) : (laysD o n t k).length ≤ 300 := by
  cases h : toldD o n t k with
  | false => rw [lays_no h]; simp
  | true => rw [lays_yes h, upto_len]; exact (told_parts h).2.2.1
theorem good_len {ls : List Lay} (h : ∀ x ∈ ls, lv x = true) : ∀ x ∈ ls, x.length ≤ maxLen := fun x hx => by have := (lv_len (h x hx)).2; unfold maxLen; omega
theorem dist_good {ls : List Lay} (h : ∀ x ∈ ls, lv x = true) : ∀ x ∈ dist ls, lv x = true := fun x hx => h x ((dist_mem ls x).1 hx)
end

end Go.Proofs.Ytcpbhkgdeaanmaa.It

/-
  DistinctLayouts of the program; HasLayout of both.
-/
set_option linter.unusedVariables false
set_option linter.unusedSimpArgs false
namespace Go.Proofs.Ytcpbhkgdeaanmaa.It
open Go.RowKit Go.Shelf P1 LayL LayV LayM LayN LayC Cnt CntC Wid ChP Tr ChT ChC Rf
open Ls hiding Lay
attribute [local go_sem] Oper.semAt_some

theorem dist_upto {L : Nat → Lay} (j : Nat) : dist (upto L (j + 1)) = if inL (dist (upto L j)) (L j) then dist (upto L j) else dist (upto L j) ++ [L j] := by rw [upto_succ, dist_snoc]

section
variable (w : World) (o n : Int) (t : ByteArray) (k : F) (a : Option Addr) (cap : Nat) (fs : List Nat)

set_option maxRecDepth 100000 in
set_option maxHeartbeats 6400000 in
theorem implDistinctLayouts (hs : SubAt w a k fs) (hfs : ∀ c ∈ fs, c < w.heap.size ∧ ∀ o, w.frozen? ⟨c, o, none⟩ = false) (hc : k.len ≤ cap) (hsz : t.size + k.size ≤ 2000000) (hft : k.Fits) (ht : t.size ≤ maxLen) :
    Calls Try.prog 35 #[.agg #[.int .i64 o, .int .i64 n, .string t, .slice a k.len cap]] w (LLOut w (dist (laysD o n t k)) (toldD o n t k)) := by
  have B1 := Lib.hid (show ∀ ob, Ext w (w.alloc ob) from fun ob => (Ext.refl w).alloc _)
  have HS := Lib.hid (fun (w1 : World) (hw1 : Ext w w1) => layoutsInOrder w1 o n t k a cap fs (hs.below (fun c hc => (hfs c hc).1) hw1) (fun c hc => ⟨Nat.lt_of_lt_of_le (hfs c hc).1 hw1.size, fun x => (hw1.frozen (hfs c hc).1).trans ((hfs c hc).2 x)⟩) hc hsz hft ht)
  clear hs hfs
  refine calls_marks Try.func35 rfl ?_
  simp only [Try.ntmps35, List.size_toArray, List.length_cons, List.length_nil, Nat.reduceAdd, Nat.reduceSub, Array.replicate_succ, Array.replicate_zero, List.push_toArray, List.append_toArray, List.nil_append, List.cons_append]
  go_wp2_with fail
  refine (HS.out _ (B1.out _)).mono ?_
  rintro e1 w1 (⟨hto, rfl, hb⟩ | ⟨hto, b, rfl, hat, hb⟩)
  · have H1 := Lib.hid (And.intro hto ((B1.out _).trans hb))
    clear hto hb
    go_wp2_with fail
    exact leave_none (results_tmp2 rfl _ _ _) (by rw [H1.out.1, lays_no H1.out.1]; exact ⟨none, 0, [], rfl, by simp [dist], LLSub.nil _ _, Fresh.nil _ _, H1.out.2⟩)
  · obtain ⟨p1, p2, p3, p4⟩ := told_parts hto
    have hG := fun (W : World) (hW : Ext w1 W) => gives p1 p2 hsz (by omega) (hat.keep (Keep.of_ext hW))
    have HLS := Lib.hid (lays_yes hto)
    have HGD := Lib.hid (fun (i : Nat) => pick_lv (DocC.many_yes p4).1 i)
    obtain ⟨L, hL⟩ : ∃ L : Nat → Lay, (fun i => pkD o n t k i) = L := ⟨_, rfl⟩
    have hgd2 : ∀ i, lv (L i) = true := by rw [← hL]; exact HGD.out
    rw [hL] at hG HLS
    obtain ⟨N, hN⟩ : ∃ N, ctD o k = N := ⟨_, rfl⟩
    rw [hN] at hG HLS p3
    have HG2 := Lib.hid hgd2
    have H1 := Lib.hid (And.intro hto ((B1.out _).trans hb))
    clear hto hb hat p1 p2 p4 HGD hL hN hgd2 HS
    go_wp2_with fail
    obtain ⟨W0, hW0⟩ : ∃ W0, w1.alloc (.cells #[.slice none 0 0] 34) = W0 := ⟨_, rfl⟩
    have hz : W0.heap.size = w1.heap.size + 1 := by rw [← hW0]; simp
    have hE0 : Ext w1 W0 := by rw [← hW0]; exact (Ext.refl w1).alloc _
    have hX0 : Boxed W0 w1.heap.size 34 (.slice none 0 0) := by rw [← hW0]; exact Boxed.new _ _ _
    try rw [hW0]
    clear hW0
    refine wpIn_wide.1 (rangeFunc_gives (n := 7) (gf := 96) (lb := #[.pointer (some ⟨b, 0, none⟩)]) rfl (enters_of Try.func96 (by kernel_rfl) rfl) (by omega) (hG W0 hE0) (fun c hc => by omega) (fun k args A W hX => by obtain ⟨a, cap, f, rfl, _⟩ := hX; rfl)
      (fun j A => (∃ v f, Boxed A w1.heap.size 34 v ∧ Acc A 38 (w1.heap.size + 1) v (dist (upto L j)) f) ∧ Below w1.heap.size w1 A)
      (fun _ _ => False)
      (fun j A B ⟨⟨v, f, h1, h2⟩, h3⟩ hA hT => ⟨⟨v, f, hT.boxed h1, hT.acc h2⟩, h3.trans (hT.below (by omega))⟩)
      (fun A B ⟨⟨v, f, h1, h2⟩, h3⟩ hE => ⟨⟨v, f, (hE.block _ h1.lt).trans h1, h2.ext hE⟩, h3.trans (hE.mono h3.size)⟩)
      (fun _ _ _ h => h.elim)
      ⟨⟨.slice none 0 0, [], hX0, Acc.start _ _ _ (by omega)⟩, hE0⟩
      (fun args => { tmps := #[.agg #[.int .i64 o, .int .i64 n, .string t, .slice a k.len cap], .pointer (some ⟨w.heap.size, 0, none⟩), .slice none 0 0, .bool false, .func (.func 96) #[] #[.pointer (some ⟨b, 0, none⟩)], .bool true, .pointer (some ⟨w1.heap.size, 0, none⟩), args.getD 0 undef, .tuple #[.func (.func 96) #[] #[.pointer (some ⟨b, 0, none⟩)], .bool true], .agg #[.int .i64 o, .int .i64 n, .string t, .slice a k.len cap], .tuple #[.func (.func 96) #[] #[.pointer (some ⟨b, 0, none⟩)], .bool true], .func (.func 96) #[] #[.pointer (some ⟨b, 0, none⟩)], .bool true, .bool true, .bool false, .func (.func 96) #[] #[.pointer (some ⟨b, 0, none⟩)], args.getD 0 undef, undef, undef, undef, undef, undef, undef, undef, undef, undef], defers := [] }) ?assign ?body ?done ?stop)
    case assign =>
      rintro l j args A W K ⟨a, cap, f, rfl, _⟩ hK
      gi_wp2_with fail
      exact hK
    case body =>
      rintro l j args A Wp W hj hz1 ⟨⟨v, f, h1, h2⟩, h3⟩ hE ⟨a, cap, f1, rfl, hc, hs, hf⟩ hT
      have hB : Boxed W w1.heap.size 34 v := hT.boxed ((hE.block _ h1.lt).trans h1)
      have hA : Acc W 38 (w1.heap.size + 1) v (dist (upto L j)) f := hT.acc (h2.ext hE)
      have hs' := hT.lay hs
      have hf' := hT.layFresh hs hf
      have hAz := h1.lt
      have hbW : Below w1.heap.size w1 W := (h3.trans (hE.mono h3.size)).trans (hT.below (by omega))
      have hzW : A.heap.size ≤ W.heap.size := by rw [hT.size]; exact hE.size
      have hdl := dist_len (upto L j)
      rw [upto_len] at hdl
      obtain ⟨av, cv, fd, rfl, hcv, hcm, hsub, hfr, _, _⟩ := hA.slice
      have hgu : ∀ x ∈ upto L j, lv x = true := fun x hx => by
        simp only [upto, List.mem_map] at hx
        obtain ⟨i, _, rfl⟩ := hx
        exact HG2.out i
      have hin := containsLayout (dist (upto L j)) (L j) (good_len (dist_good hgu)) W av cv fd hsub hcv (by omega) a cap f1 hs' hc (good_len (ls := [L j]) (by simpa using HG2.out j) _ (by simp))
      have hdt := dist_upto (L := L) j
      have hc1 := hB.cell
      cases hbb : inL (dist (upto L j)) (L j) with
      | true =>
        rw [hbb] at hin hdt
        have HIN := Lib.hid hin
        have HDT := Lib.hid hdt
        clear hin hdt hbb
        gi_wp2_with fail
        refine ⟨trivial, CallsIn.inRound l ((callsIn_wide.2 HIN.out).mono ?_)⟩
        rintro e3 w3 ⟨rfl, hb3⟩
        have hE3 : Ext W w3 := hb3
        gi_wp2_with fail
        exact ⟨keeps_of_ext hE3, Keep.of_ext hE3, ⟨_, f, (hE3.block _ hB.lt).trans hB, by rw [HDT.out]; exact hA.ext hE3⟩, hbW.trans (hE3.mono hbW.size)⟩
      | false =>
        rw [hbb] at hin hdt
        have HIN := Lib.hid hin
        have HDT := Lib.hid hdt
        clear hin hdt hbb
        gi_wp2_with fail
        refine ⟨trivial, CallsIn.inRound l ((callsIn_wide.2 HIN.out).mono ?_)⟩
        rintro e3 w3 ⟨rfl, hb3⟩
        have hE3 : Ext W w3 := hb3
        have hB3 : Boxed w3 w1.heap.size 34 (.slice av (dist (upto L j)).length cv) := (hE3.block _ hB.lt).trans hB
        have hA3 := hA.ext hE3
        obtain ⟨v', w', hrun, hA', hbel, hgr, b', cap', rfl, hbb⟩ := acc_push hA3 (hs'.below hs'.lt hE3) hc ((hf'.mono (by omega)).below (fun q hq => hs'.lt q hq) hE3)
          (fun q hq hm => by have h4 := (hf'.2 q hq).1; have h5 := h2.lt q hm; omega) (fun q hq hm => by have h4 := (hf'.2 q hm).1; have h5 := (h2.own_lt q hq).2; omega) (by omega)
        obtain ⟨g1, g2, g3, g4, g5⟩ := boxed_append hB3 hA3 rfl hA' hgr
        have hc3 := hB3.cell
        have hc4 := g1.cell
        have hc5 := g1.frozen
        gi_wp2_with (gi_at_builtin; refine appendIn rfl _ _ _ rfl (sv := .slice av (dist (upto L j)).length cv) (xv := .slice (some ⟨w3.heap.size, 0, none⟩) 1 1) rfl rfl hrun ?_)
        exact ⟨(keeps_of_ext hE3).trans g4, (Keep.of_ext hE3).trans (Keep.of_below g5 (fun c hc => by omega)), ⟨_, _, g2, by rw [HDT.out]; exact g3⟩, (hbW.trans (hE3.mono hbW.size)).trans g5⟩
    case done =>
      rintro D A W hD ⟨⟨v, f, h1, h2⟩, h3⟩ ⟨B, hE, hT⟩ hK
      have hB : Boxed W w1.heap.size 34 v := hT.boxed ((hE.block _ h1.lt).trans h1)
      have hA : Acc W 38 (w1.heap.size + 1) v (dist (upto L N)) f := hT.acc (h2.ext hE)
      have hbW : Below w1.heap.size w1 W := (h3.trans (hE.mono h3.size)).trans (hT.below (by omega))
      have hc1 := hB.cell
      obtain ⟨a, cap, fs, rfl, hcap, _, hsub, hfr, _, _⟩ := hA.slice
      go_wp2_with fail
      have hT2 : Turn w1.heap.size W (W.putObj D (.deferred none)) := turn_put _ hK rfl (by omega)
      have hs1 := H1.out.2.size
      exact leave_mark hK (results_tmp2 rfl _ _ _) (by rw [HLS.out, H1.out.1]; exact ⟨a, cap, fs, rfl, hcap, hT2.llsub hsub, (hT2.llfresh hsub hfr).mono (by omega), H1.out.2.trans (hbW.trans (hT2.below (Nat.le_refl _)))⟩)
    case stop =>
      rintro D c A W _ h _ _
      exact h.elim

end

end Go.Proofs.Ytcpbhkgdeaanmaa.It

/-
  Narrowest and Shortest of the model.
-/
set_option linter.unusedVariables false
set_option linter.unusedSimpArgs false
namespace Go.Proofs.Ytcpbhkgdeaanmaa.It
open Go.RowKit Go.Shelf P1 LayL LayV LayM LayN LayC Cnt CntC Wid ChP Tr ChT ChC Rf
open Ls hiding Lay
section
variable (w : World) (o n : Int) (t : ByteArray) (k : F) (a : Option Addr) (cap : Nat) (fs : List Nat)
end

end Go.Proofs.Ytcpbhkgdeaanmaa.It

/-
  Narrowest and Shortest of the program.
-/
set_option linter.unusedVariables false
set_option linter.unusedSimpArgs false
namespace Go.Proofs.Ytcpbhkgdeaanmaa.It
open Go.RowKit Go.Shelf P1 LayL LayV LayM LayN LayC Cnt CntC Wid ChP Tr ChT ChC Rf
open Ls hiding Lay
attribute [local go_sem] Oper.semAt_some

theorem nil_eq (w : World) : (binOp BinOp.eql 38 (.slice none 0 0) (.slice none 0 0)).run Try.prog w = .ok (.bool true) w := by
  have h := run_equal_slice_nil (P := Try.prog) w _ _ none 0 0 Try.underlying38
  simp only [binOp, Sem.run_bind, Sem.run_pure, h, Result.andThen_ok]; rfl
section
variable (w : World) (o n : Int) (t : ByteArray) (k : F) (a : Option Addr) (cap : Nat) (fs : List Nat)
end

end Go.Proofs.Ytcpbhkgdeaanmaa.It

/-
  The extreme layouts of a document: what they are; plain.
-/
set_option linter.unusedVariables false
set_option linter.unusedSimpArgs false
namespace Go.Proofs.Ytcpbhkgdeaanmaa.It
open Go.RowKit Go.Shelf P1 LayL LayV LayM LayN LayC Cnt CntC Wid ChP Tr ChT ChC Rf
open Ls hiding Lay
end Go.Proofs.Ytcpbhkgdeaanmaa.It

/-
  Lists of layouts that stay while a law goes on: what the functions over all layouts come to at a document that stays.
-/
set_option linter.unusedVariables false
set_option linter.unusedSimpArgs false
namespace Go.Proofs.Ytcpbhkgdeaanmaa.DocL
open Go.RowKit P1 CntC LayN OpenR ChP ChO It
open Ls hiding Lay
structure LLIs (w : World) (X : List Ls.Lay) (a : Option Addr) (c : Nat) : Prop where
  sub : ∃ fs, LLSub w a X fs
  cap_le : X.length ≤ c
  good : ∀ x ∈ X, lv x = true
  few : X.length ≤ 300
theorem LLIs.ext {w w' : World} {X : List Ls.Lay} {a : Option Addr} {c : Nat} (h : LLIs w X a c) (e : Ext w w') : LLIs w' X a c := by
  obtain ⟨fs, hs⟩ := h.sub
  exact ⟨⟨fs, hs.below hs.lt e⟩, h.cap_le, h.good, h.few⟩
theorem LLIs.get {w : World} {X : List Ls.Lay} {a : Option Addr} {c : Nat} (h : LLIs w X a c) {k : Nat} (hk : k < X.length) : ∃ (b off : Nat) (a1 : Option Addr) (c1 : Nat), a = some ⟨b, off, none⟩ ∧ b < w.heap.size ∧ w.cell? ⟨b, off + k, none⟩ = some (.slice a1 X[k].length c1) ∧ DocO.LayIs w X[k] a1 c1 := by
  obtain ⟨fs, hs⟩ := h.sub
  obtain ⟨b, off, a1, c1, f1, ha, hb, hcell, hcl, hsub, _⟩ := hs.get hk
  exact ⟨b, off, a1, c1, ha, hb, hcell, ⟨f1, hsub⟩, hcl, .inr (h.good _ (List.getElem_mem hk))⟩

def LOut (w : World) (X : List Ls.Lay) (V : Bool) (e : Ending) (w' : World) : Prop := ∃ (a : Option Addr) (c : Nat), e = .returned (.tuple #[.slice a X.length c, .bool V]) ∧ LLIs w' X a c ∧ Ext w w'
theorem LOut.of {w w' : World} {X : List Ls.Lay} {V : Bool} {e : Ending} (h : LLOut w X V e w') (g : ∀ x ∈ X, lv x = true) (f : X.length ≤ 300) : LOut w X V e w' := by
  obtain ⟨a, c, fs, rfl, h1, h2, _, h4⟩ := h
  exact ⟨a, c, rfl, ⟨⟨fs, h2⟩, h1, g, f⟩, h4⟩
theorem dist_few (o n : Int) (t : ByteArray) (k : F) : (dist (laysD o n t k)).length ≤ 300 := by
  have := dist_len (laysD o n t k); have := lays_len o n t k; omega

section
variable {w w' : World} {o n : Int} {t : ByteArray} {k : F} {a : Option Addr} {cap : Nat} {fs : List Nat}
theorem implLays (h : DocK.Doc0 w n t k a cap fs) (o : Int) : Calls Try.prog 22 #[.agg #[.int .i64 o, .int .i64 n, .string t, .slice a k.len cap]] w (LOut w (laysD o n t k) (toldD o n t k)) :=
  (implLayoutsOf w o n t k a cap fs h.sub h.ok h.cap_le (by have := h.size; omega) h.fits h.tfit).mono fun e w' g => LOut.of g lays_good (lays_len o n t k)
theorem implDist (h : DocK.Doc0 w n t k a cap fs) (o : Int) : Calls Try.prog 35 #[.agg #[.int .i64 o, .int .i64 n, .string t, .slice a k.len cap]] w (LOut w (dist (laysD o n t k)) (toldD o n t k)) :=
  (implDistinctLayouts w o n t k a cap fs h.sub h.ok h.cap_le (by have := h.size; omega) h.fits h.tfit).mono fun e w' g => LOut.of g (dist_good lays_good) (dist_few o n t k)
end

set_option maxRecDepth 100000 in
set_option maxHeartbeats 1600000 in
theorem daSame {w : World} {X : List Ls.Lay} {a a' : Option Addr} {cap cap' : Nat} (h : LLIs w X a cap) (h' : LLIs w X a' cap') :
    Calls Try.prog 23 #[.slice a X.length cap, .slice a' X.length cap'] w fun e w' => e = .returned (.bool true) ∧ Ext w w' := by
  have HR := Lib.hid h
  have HR' := Lib.hid h'
  have hc := h.cap_le
  have hc' := h'.cap_le
  have hf := h.few
  obtain ⟨m, hm⟩ : ∃ m, X.length = m := ⟨_, rfl⟩
  rw [hm] at hc hc' hf ⊢
  have HM := Lib.hid hm
  have hmm : ((m : Int) != (m : Int)) = false := by simp
  clear hm h h'
  go_enter Try.func23, Try.ntmps23
  go_wp2_with fail
  go_loopw [5] (fun i wr => ∃ k : Nat, k ≤ m ∧ i = .int .i64 k ∧ Ext w wr) (fun i _ => m - (intOf i).toNat)
  case atStart => exact ⟨0, by omega, rfl, Ext.refl _⟩
  case round =>
    obtain ⟨k, hk, rfl, hbw⟩ := hrel
    by_cases hkm : k < m
    · have hkl : k < X.length := by rw [HM.out]; exact hkm
      obtain ⟨b, off, a1, c1, rfl, hb, hcell, hlay⟩ := (HR.out.ext hbw).get hkl
      obtain ⟨b', off', a1', c1', rfl, hb', hcell', hlay'⟩ := (HR'.out.ext hbw).get hkl
      obtain ⟨l, hlv⟩ : ∃ l, X[k] = l := ⟨_, rfl⟩
      rw [hlv] at hcell hlay hcell' hlay'
      have i0 : (0 : Int) ≤ (k : Int) := Int.natCast_nonneg _
      have i1 : (k : Int) < (m : Int) := by omega
      have HD := Lib.hid (fun (W : World) (e : Ext wr W) => DocO.LayIs.same (hlay.ext e) (hlay'.ext e))
      clear hlv hlay hlay'
      go_wp2_with fail
      go_still_tail 8, (by kernel_rfl)
      go_wp2_with (go_at_call 28; refine (HD.out _ (by first | exact Ext.refl _ | exact (Ext.refl _).drew)).mono ?_; rintro e w' ⟨rfl, hb1⟩)
      go_roundw
      case rel => exact ⟨k + 1, by omega, by go_num, hbw.trans ((Ext.refl _).drew.trans hb1)⟩
      case measure => simp [intOf]; omega
    · go_wp2_with fail
      go_ret
      exact ⟨rfl, hbw⟩

end Go.Proofs.Ytcpbhkgdeaanmaa.DocL

