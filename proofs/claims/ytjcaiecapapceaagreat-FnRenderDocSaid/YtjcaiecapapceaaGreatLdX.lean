import Derived.Test.YtjcaiecapapceaaGreatItX
import Derived.Laws.Cover3
/-
 What it comes to to look for a layout in a list of layouts: containsLayout of the program, l3In of the model.
-/
set_option linter.unusedVariables false
set_option linter.unusedSimpArgs false
set_option maxRecDepth 100000
set_option maxHeartbeats 3200000
namespace Go.Proofs.YtjcaiecapapceaaGreat.It
open Go.RowKit P1 LayL LayV LayM LayN Ls
theorem inL_yes {ls : List Lay} {l : Lay} {k : Nat} (hk : k < ls.length) (h : ls[k] = l) : inL ls l = true := inL_iff.2 (h ▸ List.getElem_mem hk)
theorem inL_none {ls : List Lay} {l : Lay} (h : ∀ j, (hj : j < ls.length) → ls[j] ≠ l) : inL ls l = false := by
 cases hi : inL ls l with
 | false => rfl
 | true =>
   obtain ⟨j, hj, e⟩ := List.getElem_of_mem (inL_iff.1 hi)
   exact absurd e (h j hj)
theorem sameAs (x l : Lay) (w : World) (a : Option Addr) (cap : Nat) (fs : List Nat) (hs : LaySub w a x fs) (hc : x.length ≤ cap) (hx : x.length ≤ maxLen) (b : Nat) (a' : Option Addr) (cap' : Nat) (fs' : List Nat) (hs' : LaySub w a' l fs') (hc' : l.length ≤ cap') (hl : l.length ≤ maxLen) (hb : w.cell? ⟨b, 0, none⟩ = some (.slice a' l.length cap')) :
  Calls Tryz.prog 96 #[.slice a x.length cap, .pointer (some ⟨b, 0, none⟩)] w fun e w' => e = .returned (.bool (decide (x = l))) ∧ Below w.heap.size w w' := by
 have H := Lib.hid (LaySm.implLayoutSame x l w a cap fs hs a' cap' fs' hs' hc hc' hx hl)
 clear hs hs'
 go_enter Tryz.func96, Tryz.ntmps96
 go_wp2_with fail
 refine H.out.mono ?_
 rintro e1 w1 ⟨rfl, hb1⟩
 have H1 := Lib.hid hb1
 clear hb1 hb
 go_wp2_with fail
 go_ret
 exact ⟨rfl, H1.out⟩
theorem indexFunc (ls : List Lay) (l : Lay) (hg : ∀ x ∈ ls, x.length ≤ maxLen) (w : World) (a : Option Addr) (cap : Nat) (fs : List Nat) (hs : LLSub w a ls fs) (hc : ls.length ≤ cap) (hn : ls.length ≤ 1000000) (b : Nat) (a' : Option Addr) (cap' : Nat) (fs' : List Nat) (hs' : LaySub w a' l fs') (hc' : l.length ≤ cap') (hl : l.length ≤ maxLen) (hb : w.cell? ⟨b, 0, none⟩ = some (.slice a' l.length cap')) (hbw : b < w.heap.size) :
  Calls Tryz.prog 117 #[.slice a ls.length cap, .func (.func 96) #[] #[.pointer (some ⟨b, 0, none⟩)]] w fun e w' => ∃ r : Int, e = .returned (.int .i64 r) ∧ decide (0 ≤ r) = inL ls l ∧ Below w.heap.size w w' := by
 have HR := Lib.hid (show ∀ W, Below w.heap.size w W → ∀ k, (h : k < ls.length) → ∃ bb off a1 c1, a = some ⟨bb, off, none⟩ ∧ bb < W.heap.size ∧ W.cell? ⟨bb, off + k, none⟩ = some (.slice a1 ls[k].length c1) ∧ Calls Tryz.prog 96 #[.slice a1 ls[k].length c1, .pointer (some ⟨b, 0, none⟩)] W fun e w' => e = .returned (.bool (decide (ls[k] = l))) ∧ Below W.heap.size W w' from fun W hW k h => by
  obtain ⟨bb, off, a1, c1, f1, ha, hbb, hcell, hc1, hs1, _⟩ := (hs.below hs.lt hW).get h
  exact ⟨bb, off, a1, c1, ha, hbb, hcell, sameAs ls[k] l W a1 c1 f1 hs1 hc1 (hg _ (List.getElem_mem h)) b a' cap' fs' (hs'.below hs'.lt hW) hc' hl ((hW.cell (p := ⟨b, 0, none⟩) hbw).trans hb)⟩)
 obtain ⟨m, hm⟩ : ∃ m, ls.length = m := ⟨_, rfl⟩
 have HM := Lib.hid hm
 rw [hm] at hc hn ⊢
 clear hm hs hs' hb hg hc' hl
 go_enter Tryz.func117, Tryz.ntmps117
 go_wp2_with fail
 go_loopw [8] (fun i wr => ∃ (k : Nat), k ≤ m ∧ i = .int .i64 k ∧ Hid (∀ j, (hj : j < ls.length) → j < k → ls[j] ≠ l) ∧ Below w.heap.size w wr) (fun i _ => m - (intOf i).toNat)
 case atStart => exact ⟨0, Nat.zero_le _, rfl, Lib.hid (fun j _ (h : j < 0) => absurd h (Nat.not_lt_zero j)), Below.refl _ _⟩
 case round =>
  obtain ⟨k, hk, rfl, HN, hbk⟩ := hrel
  by_cases hkm : k < m
  ·have hkl : k < ls.length := by rw [HM.out]; exact hkm
   obtain ⟨bb, off, a1, c1, rfl, hbb, hcell, hcall⟩ := HR.out wr hbk k hkl
   have HC := Lib.hid hcall
   obtain ⟨len1, hlen1⟩ : ∃ n, (ls[k]).length = n := ⟨_, rfl⟩
   rw [hlen1] at hcell HC
   by_cases he : ls[k] = l
   ·rw [decide_eq_true he] at HC
    have HY := Lib.hid (inL_yes hkl he)
    have HB := Lib.hid hbk
    clear hcall hlen1 hbk
    go_wp2_with fail
    refine HC.out.mono ?_
    rintro e1 w1 ⟨rfl, hb1⟩
    have H1 := Lib.hid (HB.out.trans (hb1.mono HB.out.size))
    clear hb1 hcell hbb
    go_wp2_with fail
    go_ret
    exact ⟨_, rfl, by rw [HY.out]; simp, H1.out⟩
   ·rw [decide_eq_false he] at HC
    have HE := Lib.hid he
    have HB := Lib.hid hbk
    clear hcall hlen1 hbk he
    go_wp2_with fail
    refine HC.out.mono ?_
    rintro e1 w1 ⟨rfl, hb1⟩
    have H1 := Lib.hid (HB.out.trans (hb1.mono HB.out.size))
    clear hb1 hcell hbb
    go_wp2_with fail
    go_roundw
    case rel => exact ⟨k + 1, by omega, by go_num, Lib.hid (fun j hj h => by
     by_cases hjk : j < k
     ·exact HN.out j hj hjk
     ·obtain rfl : j = k := by omega
      exact HE.out), H1.out⟩
    case measure => simp [intOf]; omega
  ·have hF := Lib.hid (inL_none (fun j hj => HN.out j hj (by have := HM.out; omega)))
   go_wp2_with fail
   go_ret
   exact ⟨_, rfl, by rw [hF.out]; rfl, hbk⟩
theorem containsFunc (ls : List Lay) (l : Lay) (hg : ∀ x ∈ ls, x.length ≤ maxLen) (w : World) (a : Option Addr) (cap : Nat) (fs : List Nat) (hs : LLSub w a ls fs) (hc : ls.length ≤ cap) (hn : ls.length ≤ 1000000) (b : Nat) (a' : Option Addr) (cap' : Nat) (fs' : List Nat) (hs' : LaySub w a' l fs') (hc' : l.length ≤ cap') (hl : l.length ≤ maxLen) (hb : w.cell? ⟨b, 0, none⟩ = some (.slice a' l.length cap')) (hbw : b < w.heap.size) :
  Calls Tryz.prog 95 #[.slice a ls.length cap, .func (.func 96) #[] #[.pointer (some ⟨b, 0, none⟩)]] w fun e w' => e = .returned (.bool (inL ls l)) ∧ Below w.heap.size w w' := by
 have H := Lib.hid (indexFunc ls l hg w a cap fs hs hc hn b a' cap' fs' hs' hc' hl hb hbw)
 clear hs hs' hb hg hc' hl hc hn hbw
 go_enter Tryz.func95, Tryz.ntmps95
 go_wp2_with fail
 refine H.out.mono ?_
 rintro e1 w1 ⟨r, rfl, hr, hb1⟩
 have H1 := Lib.hid (And.intro hr hb1)
 clear hb1 hr
 go_wp2_with fail
 go_ret
 exact ⟨by rw [← H1.out.1]; rfl, H1.out.2⟩
theorem containsLayout (ls : List Lay) (l : Lay) (hg : ∀ x ∈ ls, x.length ≤ maxLen) (w : World) (a : Option Addr) (cap : Nat) (fs : List Nat) (hs : LLSub w a ls fs) (hc : ls.length ≤ cap) (hn : ls.length ≤ 1000000) (a' : Option Addr) (cap' : Nat) (fs' : List Nat) (hs' : LaySub w a' l fs') (hc' : l.length ≤ cap') (hl : l.length ≤ maxLen) :
  Calls Tryz.prog 48 #[.slice a ls.length cap, .slice a' l.length cap'] w fun e w' => e = .returned (.bool (inL ls l)) ∧ Below w.heap.size w w' := by
 have H := Lib.hid (fun (T : TypeId) => containsFunc ls l hg (w.alloc (.cells #[.slice a' l.length cap'] T)) a cap fs (hs.below hs.lt ((Ext.refl w).alloc _)) hc hn w.heap.size a' cap' fs' (hs'.below hs'.lt ((Ext.refl w).alloc _)) hc' hl (by rw [World.cell?_alloc_new]; rfl) (by simp))
 have B1 := Lib.hid (show ∀ ob, Ext w (w.alloc ob) from fun ob => (Ext.refl w).alloc _)
 obtain ⟨m, hm⟩ : ∃ m, ls.length = m := ⟨_, rfl⟩
 obtain ⟨m', hm'⟩ : ∃ m', l.length = m' := ⟨_, rfl⟩
 rw [hm, hm'] at H ⊢
 clear hs hs' hg hc' hl hc hn hm hm'
 go_enter Tryz.func48, Tryz.ntmps48
 go_wp2_with fail
 refine (H.out _).mono ?_
 rintro e1 w1 ⟨rfl, hb1⟩
 have H1 := Lib.hid ((B1.out _).trans hb1)
 clear hb1
 go_wp2_with fail
 go_ret
 exact ⟨rfl, H1.out⟩
end Go.Proofs.YtjcaiecapapceaaGreat.It
namespace Go.Proofs.YtjcaiecapapceaaGreat.It
open Go.RowKit Go.Shelf P1 LayL LayV LayM LayN LayC Cnt CntC Wid ChP Tr ChT ChC Rf
open Ls hiding Lay
section
variable (w : World) (o n : Int) (t : ByteArray) (k : F) (a : Option Addr) (cap : Nat) (fs : List Nat)
theorem lays_good {o n : Int} {t : ByteArray} {k : F} : ∀ x ∈ laysD o n t k, lv x = true := by
 intro x hx
 cases h : toldD o n t k with
 | false => rw [lays_no h] at hx; simp at hx
 | true =>
   rw [lays_yes h] at hx
   simp only [upto, List.mem_map, List.mem_range] at hx
   obtain ⟨i, _, rfl⟩ := hx
   exact pick_lv (DocC.many_yes (told_parts h).2.2.2).1 i
theorem lays_len (o n : Int) (t : ByteArray) (k : F) : (laysD o n t k).length ≤ 300 := by
 cases h : toldD o n t k with
 | false => rw [lays_no h]; simp
 | true => rw [lays_yes h, upto_len]; exact (told_parts h).2.2.1
theorem good_len {ls : List Lay} (h : ∀ x ∈ ls, lv x = true) : ∀ x ∈ ls, x.length ≤ maxLen := fun x hx => by have := (lv_len (h x hx)).2; unfold maxLen; omega
end
end Go.Proofs.YtjcaiecapapceaaGreat.It
namespace Go.Proofs.YtjcaiecapapceaaGreat.It
open Go.RowKit Go.Shelf P1 LayL LayV LayM LayN LayC Cnt CntC Wid ChP Tr ChT ChC Rf
open Ls hiding Lay
attribute [local go_sem] Oper.semAt_some
section
variable (w : World) (o n : Int) (t : ByteArray) (k : F) (a : Option Addr) (cap : Nat) (fs : List Nat)
theorem implHasLayout (hs : SubAt w a k fs) (hfs : ∀ c ∈ fs, c < w.heap.size ∧ ∀ o, w.frozen? ⟨c, o, none⟩ = false) (hc : k.len ≤ cap) (hsz : t.size + k.size ≤ 2000000) (hft : k.Fits) (ht : t.size ≤ maxLen) (l : Lay) (al : Option Addr) (cl : Nat) (fl : List Nat) (hl : LaySub w al l fl) (hcl : l.length ≤ cl) (hln : l.length ≤ maxLen) :
  Calls Tryz.prog 18 #[.agg #[.int .i64 o, .int .i64 n, .string t, .slice a k.len cap], .slice al l.length cl] w fun e w' => e = .returned (.bool (inL (laysD o n t k) l)) ∧ Below w.heap.size w w' := by
 have B1 := Lib.hid (show ∀ ob, Ext w (w.alloc ob) from fun ob => (Ext.refl w).alloc _)
 have HS := Lib.hid (fun (w1 : World) (hw1 : Ext w w1) => implLayoutsOf w1 o n t k a cap fs (hs.below (fun c hc => (hfs c hc).1) hw1) (fun c hc => ⟨Nat.lt_of_lt_of_le (hfs c hc).1 hw1.size, fun x => (hw1.frozen (hfs c hc).1).trans ((hfs c hc).2 x)⟩) hc hsz hft ht)
 have HC := Lib.hid (fun (W : World) (hW : Ext w W) (av : Option Addr) (cv : Nat) (fv : List Nat) (h1 : LLSub W av (laysD o n t k) fv) (h2 : (laysD o n t k).length ≤ cv) => containsLayout (laysD o n t k) l (good_len lays_good) W av cv fv h1 h2 (by have := lays_len o n t k; omega) al cl fl (hl.below hl.lt hW) hcl hln)
 have HNO := Lib.hid (fun h : toldD o n t k = false => lays_no h)
 obtain ⟨ls, hls⟩ : ∃ ls, laysD o n t k = ls := ⟨_, rfl⟩
 obtain ⟨ok, hok⟩ : ∃ ok, toldD o n t k = ok := ⟨_, rfl⟩
 rw [hls, hok] at HS HNO
 rw [hls] at HC ⊢
 obtain ⟨m, hm⟩ : ∃ m, l.length = m := ⟨_, rfl⟩
 rw [hm] at HC ⊢
 clear hs hfs hls hok hl hcl hln hm
 go_enter Tryz.func18, Tryz.ntmps18
 go_wp2_with fail
 refine (HS.out _ (B1.out _)).mono ?_
 rintro e2 w2 ⟨a2, c2, f2, rfl, hc2, hs2, hf2, hb2⟩
 have HB := Lib.hid ((B1.out _).trans hb2)
 cases ok with
 | false =>
   obtain rfl := HNO.out rfl
   clear hb2 hs2 hf2 hc2
   go_wp2_with fail
   go_ret
   exact ⟨rfl, HB.out⟩
 | true =>
   have HCC := Lib.hid (HC.out w2 HB.out a2 c2 f2 hs2 hc2)
   clear hb2 hs2 hf2 hc2
   go_wp2_with fail
   refine HCC.out.mono ?_
   rintro e3 w3 ⟨rfl, hb3⟩
   have H3 := Lib.hid (HB.out.trans hb3)
   clear hb3
   go_wp2_with fail
   go_ret
   exact ⟨rfl, H3.out⟩
end
end Go.Proofs.YtjcaiecapapceaaGreat.It
namespace Go.Proofs.YtjcaiecapapceaaGreat.It
open Go.RowKit Go.Shelf P1 LayL LayV LayM LayN LayC Cnt CntC Wid ChP Tr ChT ChC Rf
open Ls hiding Lay
section
variable (w : World) (o n : Int) (t : ByteArray) (k : F) (a : Option Addr) (cap : Nat) (fs : List Nat)
end
end Go.Proofs.YtjcaiecapapceaaGreat.It
namespace Go.Proofs.YtjcaiecapapceaaGreat.It
open Go.RowKit Go.Shelf P1 LayL LayV LayM LayN LayC Cnt CntC Wid ChP Tr ChT ChC Rf
open Ls hiding Lay
attribute [local go_sem] Oper.semAt_some
section
variable (w : World) (o n : Int) (t : ByteArray) (k : F) (a : Option Addr) (cap : Nat) (fs : List Nat)
end
end Go.Proofs.YtjcaiecapapceaaGreat.It
namespace Go.Proofs.YtjcaiecapapceaaGreat.It
open Go.RowKit Go.Shelf P1 LayL LayV LayM LayN LayC Cnt CntC Wid ChP Tr ChT ChC Rf
open Ls hiding Lay
end Go.Proofs.YtjcaiecapapceaaGreat.It
namespace Go.Proofs.YtjcaiecapapceaaGreat.DocL
open Go.RowKit P1 CntC LayN OpenR ChP ChO It
open Ls hiding Lay
structure LLIs (w : World) (X : List Ls.Lay) (a : Option Addr) (c : Nat) : Prop where
 sub : ∃ fs, LLSub w a X fs
 cap_le : X.length ≤ c
 good : ∀ x ∈ X, lv x = true
 few : X.length ≤ 300
def LOut (w : World) (X : List Ls.Lay) (V : Bool) (e : Ending) (w' : World) : Prop := ∃ (a : Option Addr) (c : Nat), e = .returned (.tuple #[.slice a X.length c, .bool V]) ∧ LLIs w' X a c ∧ Ext w w'
theorem LOut.of {w w' : World} {X : List Ls.Lay} {V : Bool} {e : Ending} (h : LLOut w X V e w') (g : ∀ x ∈ X, lv x = true) (f : X.length ≤ 300) : LOut w X V e w' := by
 obtain ⟨a, c, fs, rfl, h1, h2, _, h4⟩ := h
 exact ⟨a, c, rfl, ⟨⟨fs, h2⟩, h1, g, f⟩, h4⟩
section
variable {w w' : World} {o n : Int} {t : ByteArray} {k : F} {a : Option Addr} {cap : Nat} {fs : List Nat}
theorem implLays (h : DocK.Doc0 w n t k a cap fs) (o : Int) : Calls Tryz.prog 15 #[.agg #[.int .i64 o, .int .i64 n, .string t, .slice a k.len cap]] w (LOut w (laysD o n t k) (toldD o n t k)) :=
 (implLayoutsOf w o n t k a cap fs h.sub h.ok h.cap_le (by have := h.size; omega) h.fits h.tfit).mono fun e w' g => LOut.of g lays_good (lays_len o n t k)
theorem implHas (h : DocK.Doc0 w n t k a cap fs) (o : Int) {X : Ls.Lay} {al : Option Addr} {cl : Nat} (hl : DocO.LayIs w X al cl) : Calls Tryz.prog 18 #[.agg #[.int .i64 o, .int .i64 n, .string t, .slice a k.len cap], .slice al X.length cl] w fun e w' => e = .returned (.bool (inL (laysD o n t k) X)) ∧ Ext w w' := by
 obtain ⟨fl, hs⟩ := hl.sub
 exact implHasLayout w o n t k a cap fs h.sub h.ok h.cap_le (by have := h.size; omega) h.fits h.tfit X al cl fl hs hl.cap_le hl.fits.2
end
end Go.Proofs.YtjcaiecapapceaaGreat.DocL
