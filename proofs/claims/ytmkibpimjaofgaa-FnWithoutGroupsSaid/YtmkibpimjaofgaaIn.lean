import Derived.Test.YtmkibpimjaofgaaItX
import Derived.Test.YtmkibpimjaofgaaLyB
/-
  What it comes to to look for a layout in a list of layouts: containsLayout of the program, l3In of the model.
-/
set_option linter.unusedVariables false
set_option linter.unusedSimpArgs false
namespace Go.Proofs.Ytmkibpimjaofgaa.It
open Go.RowKit P1 LayL LayV LayM LayN Ls

theorem inL_yes {ls : List Lay} {l : Lay} {k : Nat} (hk : k < ls.length) (h : ls[k] = l) : inL ls l = true := inL_iff.2 (h ▸ List.getElem_mem hk)
theorem inL_none {ls : List Lay} {l : Lay} (h : ∀ j, (hj : j < ls.length) → ls[j] ≠ l) : inL ls l = false := by
  cases hi : inL ls l with
  | false => rfl
  | true =>
    obtain ⟨j, hj, e⟩ := List.getElem_of_mem (inL_iff.1 hi)
    exact absurd e (h j hj)

set_option maxRecDepth 100000 in
set_option maxHeartbeats 1600000 in
theorem sameAs (x l : Lay) (w : World) (a : Option Addr) (cap : Nat) (fs : List Nat) (hs : LaySub w a x fs) (hc : x.length ≤ cap) (hx : x.length ≤ maxLen) (b : Nat) (a' : Option Addr) (cap' : Nat) (fs' : List Nat) (hs' : LaySub w a' l fs') (hc' : l.length ≤ cap') (hl : l.length ≤ maxLen) (hb : w.cell? ⟨b, 0, none⟩ = some (.slice a' l.length cap')) :
    Calls Try.prog 138 #[.slice a x.length cap, .pointer (some ⟨b, 0, none⟩)] w fun e w' => e = .returned (.bool (decide (x = l))) ∧ Below w.heap.size w w' := by
  have H := Lib.hid (LaySm.implLayoutSame x l w a cap fs hs a' cap' fs' hs' hc hc' hx hl)
  clear hs hs'
  go_enter Try.func138, Try.ntmps138
  go_wp2_with fail
  refine H.out.mono ?_
  rintro e1 w1 ⟨rfl, hb1⟩
  have H1 := Lib.hid hb1
  clear hb1 hb
  go_wp2_with fail
  go_ret
  exact ⟨rfl, H1.out⟩

set_option maxRecDepth 100000 in
set_option maxHeartbeats 3200000 in
theorem indexFunc (ls : List Lay) (l : Lay) (hg : ∀ x ∈ ls, x.length ≤ maxLen) (w : World) (a : Option Addr) (cap : Nat) (fs : List Nat) (hs : LLSub w a ls fs) (hc : ls.length ≤ cap) (hn : ls.length ≤ 1000000) (b : Nat) (a' : Option Addr) (cap' : Nat) (fs' : List Nat) (hs' : LaySub w a' l fs') (hc' : l.length ≤ cap') (hl : l.length ≤ maxLen) (hb : w.cell? ⟨b, 0, none⟩ = some (.slice a' l.length cap')) (hbw : b < w.heap.size) :
    Calls Try.prog 121 #[.slice a ls.length cap, .func (.func 138) #[] #[.pointer (some ⟨b, 0, none⟩)]] w fun e w' => ∃ r : Int, e = .returned (.int .i64 r) ∧ decide (0 ≤ r) = inL ls l ∧ Below w.heap.size w w' := by
  have HR := Lib.hid (show ∀ W, Below w.heap.size w W → ∀ k, (h : k < ls.length) → ∃ bb off a1 c1, a = some ⟨bb, off, none⟩ ∧ bb < W.heap.size ∧ W.cell? ⟨bb, off + k, none⟩ = some (.slice a1 ls[k].length c1) ∧ Calls Try.prog 138 #[.slice a1 ls[k].length c1, .pointer (some ⟨b, 0, none⟩)] W fun e w' => e = .returned (.bool (decide (ls[k] = l))) ∧ Below W.heap.size W w' from fun W hW k h => by
    obtain ⟨bb, off, a1, c1, f1, ha, hbb, hcell, hc1, hs1, _⟩ := (hs.below hs.lt hW).get h
    exact ⟨bb, off, a1, c1, ha, hbb, hcell, sameAs ls[k] l W a1 c1 f1 hs1 hc1 (hg _ (List.getElem_mem h)) b a' cap' fs' (hs'.below hs'.lt hW) hc' hl ((hW.cell (p := ⟨b, 0, none⟩) hbw).trans hb)⟩)
  obtain ⟨m, hm⟩ : ∃ m, ls.length = m := ⟨_, rfl⟩
  have HM := Lib.hid hm
  rw [hm] at hc hn ⊢
  clear hm hs hs' hb hg hc' hl
  go_enter Try.func121, Try.ntmps121
  go_wp2_with fail
  go_loopw [8] (fun i wr => ∃ (k : Nat), k ≤ m ∧ i = .int .i64 k ∧ Hid (∀ j, (hj : j < ls.length) → j < k → ls[j] ≠ l) ∧ Below w.heap.size w wr) (fun i _ => m - (intOf i).toNat)
  case atStart => exact ⟨0, Nat.zero_le _, rfl, Lib.hid (fun j _ (h : j < 0) => absurd h (Nat.not_lt_zero j)), Below.refl _ _⟩
  case round =>
    obtain ⟨k, hk, rfl, HN, hbk⟩ := hrel
    by_cases hkm : k < m
    · have hkl : k < ls.length := by rw [HM.out]; exact hkm
      obtain ⟨bb, off, a1, c1, rfl, hbb, hcell, hcall⟩ := HR.out wr hbk k hkl
      have HC := Lib.hid hcall
      obtain ⟨len1, hlen1⟩ : ∃ n, (ls[k]).length = n := ⟨_, rfl⟩
      rw [hlen1] at hcell HC
      by_cases he : ls[k] = l
      · rw [decide_eq_true he] at HC
        have HY := Lib.hid (inL_yes hkl he)
        have HB := Lib.hid hbk
        clear hcall hlen1 hbk
        go_wp2_with fail
        refine HC.out.mono ?_
        rintro e1 w1 ⟨rfl, hb1⟩
        have H1 := Lib.hid (HB.out.trans (hb1.mono HB.out.size))
        clear hb1 hcell hbb
        go_wp2_with fail
        go_ret
        exact ⟨_, rfl, by rw [HY.out]; simp, H1.out⟩
      · rw [decide_eq_false he] at HC
        have HE := Lib.hid he
        have HB := Lib.hid hbk
        clear hcall hlen1 hbk he
        go_wp2_with fail
        refine HC.out.mono ?_
        rintro e1 w1 ⟨rfl, hb1⟩
        have H1 := Lib.hid (HB.out.trans (hb1.mono HB.out.size))
        clear hb1 hcell hbb
        go_wp2_with fail
        go_roundw
        case rel => exact ⟨k + 1, by omega, by go_num, Lib.hid (fun j hj h => by
          by_cases hjk : j < k
          · exact HN.out j hj hjk
          · obtain rfl : j = k := by omega
            exact HE.out), H1.out⟩
        case measure => simp [intOf]; omega
    · have hF := Lib.hid (inL_none (fun j hj => HN.out j hj (by have := HM.out; omega)))
      go_wp2_with fail
      go_ret
      exact ⟨_, rfl, by rw [hF.out]; rfl, hbk⟩

set_option maxRecDepth 100000 in
theorem containsFunc (ls : List Lay) (l : Lay) (hg : ∀ x ∈ ls, x.length ≤ maxLen) (w : World) (a : Option Addr) (cap : Nat) (fs : List Nat) (hs : LLSub w a ls fs) (hc : ls.length ≤ cap) (hn : ls.length ≤ 1000000) (b : Nat) (a' : Option Addr) (cap' : Nat) (fs' : List Nat) (hs' : LaySub w a' l fs') (hc' : l.length ≤ cap') (hl : l.length ≤ maxLen) (hb : w.cell? ⟨b, 0, none⟩ = some (.slice a' l.length cap')) (hbw : b < w.heap.size) :
    Calls Try.prog 137 #[.slice a ls.length cap, .func (.func 138) #[] #[.pointer (some ⟨b, 0, none⟩)]] w fun e w' => e = .returned (.bool (inL ls l)) ∧ Below w.heap.size w w' := by
  have H := Lib.hid (indexFunc ls l hg w a cap fs hs hc hn b a' cap' fs' hs' hc' hl hb hbw)
  clear hs hs' hb hg hc' hl hc hn hbw
  go_enter Try.func137, Try.ntmps137
  go_wp2_with fail
  refine H.out.mono ?_
  rintro e1 w1 ⟨r, rfl, hr, hb1⟩
  have H1 := Lib.hid (And.intro hr hb1)
  clear hb1 hr
  go_wp2_with fail
  go_ret
  exact ⟨by rw [← H1.out.1]; rfl, H1.out.2⟩

set_option maxRecDepth 100000 in
theorem containsLayout (ls : List Lay) (l : Lay) (hg : ∀ x ∈ ls, x.length ≤ maxLen) (w : World) (a : Option Addr) (cap : Nat) (fs : List Nat) (hs : LLSub w a ls fs) (hc : ls.length ≤ cap) (hn : ls.length ≤ 1000000) (a' : Option Addr) (cap' : Nat) (fs' : List Nat) (hs' : LaySub w a' l fs') (hc' : l.length ≤ cap') (hl : l.length ≤ maxLen) :
    Calls Try.prog 92 #[.slice a ls.length cap, .slice a' l.length cap'] w fun e w' => e = .returned (.bool (inL ls l)) ∧ Below w.heap.size w w' := by
  have H := Lib.hid (fun (T : TypeId) => containsFunc ls l hg (w.alloc (.cells #[.slice a' l.length cap'] T)) a cap fs (hs.below hs.lt ((Ext.refl w).alloc _)) hc hn w.heap.size a' cap' fs' (hs'.below hs'.lt ((Ext.refl w).alloc _)) hc' hl (by rw [World.cell?_alloc_new]; rfl) (by simp))
  have B1 := Lib.hid (show ∀ ob, Ext w (w.alloc ob) from fun ob => (Ext.refl w).alloc _)
  obtain ⟨m, hm⟩ : ∃ m, ls.length = m := ⟨_, rfl⟩
  obtain ⟨m', hm'⟩ : ∃ m', l.length = m' := ⟨_, rfl⟩
  rw [hm, hm'] at H ⊢
  clear hs hs' hg hc' hl hc hn hm hm'
  go_enter Try.func92, Try.ntmps92
  go_wp2_with fail
  refine (H.out _).mono ?_
  rintro e1 w1 ⟨rfl, hb1⟩
  have H1 := Lib.hid ((B1.out _).trans hb1)
  clear hb1
  go_wp2_with fail
  go_ret
  exact ⟨rfl, H1.out⟩

set_option maxRecDepth 100000 in
set_option maxHeartbeats 3200000 in
theorem l3In (ls : List Lay) (l : Lay) (hg : ∀ x ∈ ls, x.length ≤ maxLen) (w : World) (a : Option Addr) (cap : Nat) (fs : List Nat) (hs : LLSub w a ls fs) (hc : ls.length ≤ cap) (hn : ls.length ≤ 1000000) (a' : Option Addr) (cap' : Nat) (fs' : List Nat) (hs' : LaySub w a' l fs') (hc' : l.length ≤ cap') (hl : l.length ≤ maxLen) :
    Calls Try.prog 71 #[.slice a ls.length cap, .slice a' l.length cap'] w fun e w' => e = .returned (.bool (inL ls l)) ∧ Below w.heap.size w w' := by
  have HR := Lib.hid (show ∀ W, Below w.heap.size w W → ∀ k, (h : k < ls.length) → ∃ bb off a1 c1, a = some ⟨bb, off, none⟩ ∧ bb < W.heap.size ∧ W.cell? ⟨bb, off + k, none⟩ = some (.slice a1 ls[k].length c1) ∧ Calls Try.prog 61 #[.slice a1 ls[k].length c1, .slice a' l.length cap'] W fun e w' => e = .returned (.bool (decide (ls[k] = l))) ∧ Below W.heap.size W w' from fun W hW k h => by
    obtain ⟨bb, off, a1, c1, f1, ha, hbb, hcell, hc1, hs1, _⟩ := (hs.below hs.lt hW).get h
    exact ⟨bb, off, a1, c1, ha, hbb, hcell, LaySm.specLayoutSame ls[k] l W a1 c1 f1 hs1 a' cap' fs' (hs'.below hs'.lt hW) hc1 hc' (hg _ (List.getElem_mem h)) hl⟩)
  obtain ⟨m, hm⟩ : ∃ m, ls.length = m := ⟨_, rfl⟩
  have HM := Lib.hid hm
  obtain ⟨m', hm'⟩ : ∃ m', l.length = m' := ⟨_, rfl⟩
  rw [hm'] at HR hc' hl ⊢
  rw [hm] at hc hn ⊢
  clear hm hs hs' hg hc' hl hm'
  go_enter Try.func71, Try.ntmps71
  go_wp2_with fail
  go_loopw [5] (fun i wr => ∃ (k : Nat), k ≤ m ∧ i = .int .i64 k ∧ Hid (∀ j, (hj : j < ls.length) → j < k → ls[j] ≠ l) ∧ Below w.heap.size w wr) (fun i _ => m - (intOf i).toNat)
  case atStart => exact ⟨0, Nat.zero_le _, rfl, Lib.hid (fun j _ (h : j < 0) => absurd h (Nat.not_lt_zero j)), Below.refl _ _⟩
  case round =>
    obtain ⟨k, hk, rfl, HN, hbk⟩ := hrel
    by_cases hkm : k < m
    · have hkl : k < ls.length := by rw [HM.out]; exact hkm
      obtain ⟨bb, off, a1, c1, rfl, hbb, hcell, hcall⟩ := HR.out wr hbk k hkl
      have HC := Lib.hid hcall
      obtain ⟨len1, hlen1⟩ : ∃ n, (ls[k]).length = n := ⟨_, rfl⟩
      rw [hlen1] at hcell HC
      by_cases he : ls[k] = l
      · rw [decide_eq_true he] at HC
        have HY := Lib.hid (inL_yes hkl he)
        have HB := Lib.hid hbk
        clear hcall hlen1 hbk
        go_wp2_with fail
        refine HC.out.mono ?_
        rintro e1 w1 ⟨rfl, hb1⟩
        have H1 := Lib.hid (HB.out.trans (hb1.mono HB.out.size))
        clear hb1 hcell hbb
        go_wp2_with fail
        go_ret
        exact ⟨by rw [HY.out]; rfl, H1.out⟩
      · rw [decide_eq_false he] at HC
        have HE := Lib.hid he
        have HB := Lib.hid hbk
        clear hcall hlen1 hbk he
        go_wp2_with fail
        refine HC.out.mono ?_
        rintro e1 w1 ⟨rfl, hb1⟩
        have H1 := Lib.hid (HB.out.trans (hb1.mono HB.out.size))
        clear hb1 hcell hbb
        go_wp2_with fail
        go_roundw
        case rel => exact ⟨k + 1, by omega, by go_num, Lib.hid (fun j hj h => by
          by_cases hjk : j < k
          · exact HN.out j hj hjk
          · obtain rfl : j = k := by omega
            exact HE.out), H1.out⟩
        case measure => simp [intOf]; omega
    · have hF := Lib.hid (inL_none (fun j hj => HN.out j hj (by have := HM.out; omega)))
      go_wp2_with fail
      go_ret
      exact ⟨by rw [hF.out]; rfl, hbk⟩

end Go.Proofs.Ytmkibpimjaofgaa.It

