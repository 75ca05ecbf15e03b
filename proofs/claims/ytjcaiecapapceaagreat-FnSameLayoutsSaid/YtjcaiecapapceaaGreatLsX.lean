import Derived.Test.YtjcaiecapapceaaGreatRfX
import Derived.Test.YtjcaiecapapceaaGreatDocC
import Derived.Test.YtjcaiecapapceaaGreatLwA
import Derived.Laws.Cover3
/-
 The program's iterator over the layouts of a document's choices.
-/
set_option linter.unusedVariables false
set_option linter.unusedSimpArgs false
set_option maxRecDepth 100000
set_option maxHeartbeats 6400000
namespace Go.Proofs.YtjcaiecapapceaaGreat.It
open Go.RowKit P1 LayL LayV LayM LayN LayC Cnt CntC Wid ChP Tr ChT ChC Rf
attribute [local go_sem] Oper.semAt_some
def AtD (B0 : Nat) (w : World) (b : Nat) (o n : Int) (t : ByteArray) (k : F) : Prop := b < B0 ∧ b < w.heap.size ∧ ∃ (a : Option Addr) (cap : Nat) (a' : Option Addr) (cap' : Nat),
 (w.cell? ⟨b, 0, none⟩ = some (.int .i64 o) ∧ w.cell? ⟨b, 1, none⟩ = some (.int .i64 n) ∧ w.cell? ⟨b, 2, none⟩ = some (.string t) ∧ w.cell? ⟨b, 3, none⟩ = some (.slice a k.len cap) ∧ w.cell? ⟨b, 4, none⟩ = some (.int .i64 (ctD o k : Int)) ∧ w.cell? ⟨b, 5, none⟩ = some (.bool (!noD o k)) ∧ w.cell? ⟨b, 6, none⟩ = some (.slice a' k.len cap')) ∧ DocIn (fun c => c < B0) w k a cap ∧ TreeSub (fun c => c < B0) w a' k
theorem AtD.keep {B0 : Nat} {w w' : World} {b : Nat} {o n : Int} {t : ByteArray} {k : F} (h : AtD B0 w b o n t k) (e : Keep (fun c => c < B0) w w') : AtD B0 w' b o n t k := by
 obtain ⟨hB, hb, a, cap, a', cap', ⟨h0, h1, h2, h3, h4, h5, h6⟩, g1, g2⟩ := h
 have q : ∀ i, w'.cell? ⟨b, i, none⟩ = w.cell? ⟨b, i, none⟩ := fun i => World.cell?_of_block (w := w) (e.2 b hB hb)
 have s : Stay (fun c => c < B0) (fun c => c < B0) w w' := ⟨fun c h1 h2 => ⟨e.2 c h1 h2, h1⟩, e.1⟩
 exact ⟨hB, Nat.lt_of_lt_of_le hb e.1, a, cap, a', cap', ⟨(q _).trans h0, (q _).trans h1, (q _).trans h2, (q _).trans h3, (q _).trans h4, (q _).trans h5, (q _).trans h6⟩, g1.stay s, g2.stay s⟩
theorem AtD.at {B0 : Nat} {w : World} {b : Nat} {o n : Int} {t : ByteArray} {k : F} (h : AtD B0 w b o n t k) : ChL.At w b 0 o n t k := by
 obtain ⟨hB, hb, a, cap, a', cap', ⟨h0, h1, h2, h3, h4, h5, h6⟩, g1, g2⟩ := h
 have s : Stay (fun c => c < B0) (fun _ => True) w w := Stay.imp w (fun _ _ _ => trivial)
 exact ⟨hb, a, cap, a', cap', ⟨h0, h1, h2, h3, h4, h5, h6⟩, g1.stay s, g2.stay s⟩
theorem AtD.of {w : World} {b : Nat} {o n : Int} {t : ByteArray} {k : F} (h : ChL.At w b 0 o n t k) : AtD w.heap.size w b o n t k := by
 obtain ⟨hb, a, cap, a', cap', ⟨h0, h1, h2, h3, h4, h5, h6⟩, g1, g2⟩ := h
 have s : Stay (fun _ => True) (fun c => c < w.heap.size) w w := Stay.imp w (fun _ _ h => h)
 exact ⟨hb, hb, a, cap, a', cap', ⟨h0, h1, h2, h3, h4, h5, h6⟩, g1.stay s, g2.stay s⟩
theorem AtD.count {B0 : Nat} {w : World} {b : Nat} {o n : Int} {t : ByteArray} {k : F} (h : AtD B0 w b o n t k) : w.cell? ⟨b, 4, none⟩ = some (.int .i64 (ctD o k : Int)) ∧ b < w.heap.size := by
 obtain ⟨hB, hb, a, cap, a', cap', ⟨h0, h1, h2, h3, h4, h5, h6⟩, g1, g2⟩ := h
 exact ⟨h4, hb⟩
def XL (L : Nat → Ls.Lay) (k : Nat) (args : Array Value) (A W : World) : Prop := ∃ (a : Option Addr) (cap : Nat) (f : List Nat), args = #[.slice a (L k).length cap] ∧ (L k).length ≤ cap ∧ LaySub W a (L k) f ∧ Fresh A.heap.size W f
theorem gives {o n : Int} {t : ByteArray} {k : F} (hv : okD 40 o n t k = true) (hcnt : 1 + k.cnt ≤ 80) (hsz : t.size + k.size ≤ 2000000) (hct : ctD o k ≤ 100000) {B0 b : Nat} {w0 : World} (hat : AtD B0 w0 b o n t k) :
  Gives Tryz.prog 91 #[.pointer (some ⟨b, 0, none⟩)] (XL (fun i => pkD o n t k i)) (fun c => c < B0) (ctD o k) w0 := by
 intro m l J Jx W hm hW hY h0
 have HL := Lib.hid (fun (i : Nat) (hi : i < ctD o k) (w : World) (h : AtD B0 w b o n t k) => ChL.layS_all 40 (by omega) o n t k hv hcnt hsz hct i hi w b 0 h.at)
 have HA := Lib.hid (show ∀ w, Keep (fun c => c < B0) W w → AtD B0 w b o n t k from fun w h => (hat.keep (Keep.of_ext hW)).keep h)
 obtain ⟨c4, hb⟩ := (HA.out W (Keep.refl _ _)).count
 obtain ⟨N, hN⟩ : ∃ N, ctD o k = N := ⟨_, rfl⟩
 rw [hN] at HL hY c4 hct ⊢
 clear hN hv hcnt hsz hat hW
 have HY := Lib.hid hY
 clear hY
 refine callsIn_of_wp Tryz.func91 rfl trivial ?_ rfl
 simp only [Tryz.ntmps91, List.size_toArray, List.length_cons, List.length_nil, Nat.reduceAdd, Nat.reduceSub, Array.replicate_succ, Array.replicate_zero, List.push_toArray, List.append_toArray, List.nil_append, List.cons_append]
 gi_wp2_with fail
 gi_loopw [6] (fun i wr => ∃ (j : Nat) (A : World), j ≤ N ∧ i = .int .i64 j ∧ J j A ∧ Ext A wr ∧ Keep (fun c => c < B0) W wr) (fun i _ => N - (intOf i).toNat)
 case atStart => exact ⟨0, W, Nat.zero_le _, rfl, h0, Ext.refl _, Keep.refl _ _⟩
 case round =>
  obtain ⟨j, A, hj, rfl, hJ, hA, hK⟩ := hrel
  by_cases hjN : j < N
  ·have hLj := HL.out j hjN wr (HA.out wr hK)
   have HLj := Lib.hid hLj
   clear hLj c4 hb
   gi_wp2_with fail
   refine ⟨trivial, (callsIn_wide.2 HLj.out).mono ?_⟩
   rintro e1 w2 ⟨a, cap, f, rfl, hc, hs, hf, hb2⟩
   have hA2 : Ext A w2 := hA.trans hb2
   obtain ⟨fn, tmps, assign, body, hy, hR⟩ := HY.out j _ A w2 hjN hJ hA2 ⟨a, cap, f, rfl, hc, hs, hf.mono hA.size⟩
   have HR := Lib.hid hR
   have HK2 := Lib.hid (hK.trans (Keep.of_ext hb2))
   clear hc hs hf hb2 hR
   gi_wp2_with fail
   refine HR.out.mono ?_
   rintro e W3 (⟨rfl, hJ3, hk3⟩ | ⟨rfl, hJx3⟩)
   ·have HK3 := Lib.hid (HK2.out.trans hk3)
    have HJ3 := Lib.hid hJ3
    clear hJ3 hk3 hy hJ hA hA2
    gi_wp2_with fail
    go_roundw
    case rel => exact ⟨j + 1, W3, by omega, by go_num, HJ3.out, Ext.refl _, HK3.out⟩
    case measure => simp [intOf]; omega
   ·have HJ3 := Lib.hid hJx3
    clear hJx3 hy hJ hA hA2
    gi_wp2_with fail
    refine bodyPost_ret (results_none rfl _ _ _) rfl ?_
    exact ⟨⟨_, rfl⟩, .inr ⟨_, HJ3.out, Ext.refl _⟩⟩
  ·obtain rfl : j = N := by omega
   gi_wp2_with fail
   go_end0
   exact ⟨⟨_, rfl⟩, .inl ⟨A, hJ, hA⟩⟩
end Go.Proofs.YtjcaiecapapceaaGreat.It
namespace Go.Proofs.YtjcaiecapapceaaGreat.It
open Go.RowKit Go.Shelf P1 LayL LayV LayM LayN LayC Cnt CntC Wid ChP Tr ChT ChC Rf
attribute [local go_sem] Oper.semAt_some
def LLOut (w : World) (ls : List Ls.Lay) (ok : Bool) (e : Ending) (w' : World) : Prop := ∃ (a : Option Addr) (cap : Nat) (fs : List Nat), e = .returned (.tuple #[.slice a ls.length cap, .bool ok]) ∧ ls.length ≤ cap ∧ Ls.LLSub w' a ls fs ∧ Fresh w.heap.size w' fs ∧ Below w.heap.size w w'
def LLNew (w : World) (ls : List Ls.Lay) (e : Ending) (w' : World) : Prop := ∃ (a : Option Addr) (cap : Nat) (fs : List Nat), e = .returned (.slice a ls.length cap) ∧ ls.length ≤ cap ∧ Ls.LLSub w' a ls fs ∧ Fresh w.heap.size w' fs ∧ Below w.heap.size w w'
theorem infoE : (Tryz.prog.info? 28).map (fun i => (i.zero, i.size, i.bytes)) = some (some (.slice none 0 0), 1, 24) := by kernel_rfl
def upto (L : Nat → Ls.Lay) (j : Nat) : List Ls.Lay := (List.range j).map L
theorem upto_succ (L : Nat → Ls.Lay) (j : Nat) : upto L (j + 1) = upto L j ++ [L j] := by simp [upto, List.range_succ]
theorem upto_len (L : Nat → Ls.Lay) (j : Nat) : (upto L j).length = j := by simp [upto]
theorem appendSeq {gf : Nat} {lb : Array Value} (eg : Enters Tryz.prog gf) {L : Nat → Ls.Lay} {B0 N : Nat} (hN : N ≤ 1000000) (w : World) (hB0 : B0 ≤ w.heap.size) (hG : ∀ W, Ext w W → Gives Tryz.prog gf lb (XL L) (fun c => c < B0) N W) :
  Calls Tryz.prog 93 #[.slice none 0 0, .func (.func gf) #[] lb] w (LLNew w (upto L N)) := by
 refine calls_marks Tryz.func93 rfl ?_
 simp only [Tryz.ntmps93, List.size_toArray, List.length_cons, List.length_nil, Nat.reduceAdd, Nat.reduceSub, Array.replicate_succ, Array.replicate_zero, List.push_toArray, List.append_toArray, List.nil_append, List.cons_append]
 obtain ⟨i0, hi, hz0, hz1', hz2⟩ := info_parts infoE
 go_wp2_with fail
 obtain ⟨W0, hW0⟩ : ∃ W0, w.alloc (.cells #[.slice none 0 0] 32) = W0 := ⟨_, rfl⟩
 have hz : W0.heap.size = w.heap.size + 1 := by rw [← hW0]; simp
 have hE0 : Ext w W0 := by rw [← hW0]; exact (Ext.refl w).alloc _
 have hX0 : Boxed W0 w.heap.size 32 (.slice none 0 0) := by rw [← hW0]; exact Boxed.new _ _ _
 try rw [hW0]
 clear hW0
 refine wpIn_wide.1 (rangeFunc_gives (n := 7) (gf := gf) (lb := lb) rfl eg (by omega) (hG W0 hE0) (fun c hc => by omega) (fun k args A W hX => by obtain ⟨a, cap, f, rfl, _⟩ := hX; rfl)
  (fun j A => (∃ v f, Boxed A w.heap.size 32 v ∧ Ls.Acc A 28 (w.heap.size + 1) v (upto L j) f) ∧ Below w.heap.size w A)
  (fun _ _ => False)
  (fun j A B ⟨⟨v, f, h1, h2⟩, h3⟩ hA hT => ⟨⟨v, f, hT.boxed h1, hT.acc h2⟩, h3.trans (hT.below (by omega))⟩)
  (fun A B ⟨⟨v, f, h1, h2⟩, h3⟩ hE => ⟨⟨v, f, (hE.block _ h1.lt).trans h1, h2.ext hE⟩, h3.trans (hE.mono h3.size)⟩)
  (fun _ _ _ h => h.elim)
  ⟨⟨.slice none 0 0, [], hX0, Ls.Acc.start _ _ _ (by omega)⟩, hE0⟩
  (fun args => { tmps := #[.slice none 0 0, .func (.func gf) #[] lb, .pointer (some ⟨w.heap.size, 0, none⟩), undef, .slice none 0 0, args.getD 0 undef, .func (.func gf) #[] lb, args.getD 0 undef, undef, undef, undef, undef, undef], defers := [] }) ?assign ?body ?done ?stop)
 case assign =>
  rintro l j args A W K ⟨a, cap, f, rfl, _⟩ hK
  gi_wp2_with fail
  exact hK
 case body =>
  rintro l j args A Wp W hj hz1 ⟨⟨v, f, h1, h2⟩, h3⟩ hE ⟨a, cap, f1, rfl, hc, hs, hf⟩ hT
  have hB : Boxed W w.heap.size 32 v := hT.boxed ((hE.block _ h1.lt).trans h1)
  have hA : Ls.Acc W 28 (w.heap.size + 1) v (upto L j) f := hT.acc (h2.ext hE)
  have hs' := hT.lay hs
  have hf' := hT.layFresh hs hf
  have hAz := h1.lt
  have hbW : Below w.heap.size w W := (h3.trans (hE.mono h3.size)).trans (hT.below (by omega))
  have hzW : A.heap.size ≤ W.heap.size := by rw [hT.size]; exact hE.size
  have hu := upto_len L j
  have hx : (W.alloc (.cells #[.slice a (L j).length cap] 28)).cell? ⟨W.heap.size, 0, none⟩ = some (.slice a (L j).length cap) := by rw [World.cell?_alloc_new]; rfl
  have hEW : Ext W (W.alloc (.cells #[.slice a (L j).length cap] 28)) := (Ext.refl W).alloc _
  obtain ⟨v', w', hrun, hA', hbel, hgr, b, cap', rfl, hbb⟩ := Ls.Acc.append (P := Tryz.prog) (t := 32) (ty := 32) (c := 1) Tryz.underlying32 hi hz0 hz1' hz2 (by rfl) (hA.ext hEW) hx hc (hs'.below hs'.lt hEW) ((hf'.mono (by omega)).below (fun q hq => hs'.lt q hq) hEW)
   (fun q hq hm => by have h4 := (hf'.2 q hq).1; have h5 := h2.lt q hm; omega) (fun q hq hm => by have h4 := (hf'.2 q hm).1; have h5 := (h2.own_lt q hq).2; omega) (by omega)
  obtain ⟨g1, g2, g3, g4, g5⟩ := boxed_append hB hA rfl hA' hgr
  have hc1 := hB.cell
  have hc2 := g1.cell
  have hc3 := g1.frozen
  gi_wp2_with (gi_at_builtin; refine appendIn rfl _ _ _ rfl (sv := v) (xv := .slice (some ⟨W.heap.size, 0, none⟩) 1 1) rfl rfl hrun ?_)
  rw [hu] at g2 g3 g4 g5
  exact ⟨g4, Keep.of_below g5 (fun c hc => by omega), ⟨_, _, g2, by rw [upto_succ]; exact g3⟩, hbW.trans g5⟩
 case done =>
  rintro D A W hD ⟨⟨v, f, h1, h2⟩, h3⟩ ⟨B, hE, hT⟩ hK
  have hB : Boxed W w.heap.size 32 v := hT.boxed ((hE.block _ h1.lt).trans h1)
  have hA : Ls.Acc W 28 (w.heap.size + 1) v (upto L N) f := hT.acc (h2.ext hE)
  have hbW : Below w.heap.size w W := (h3.trans (hE.mono h3.size)).trans (hT.below (by omega))
  have hc1 := hB.cell
  obtain ⟨a, cap, fs, rfl, hcap, _, hsub, hfr, _, _⟩ := hA.slice
  go_wp2_with fail
  have hDl := (Array.getElem?_eq_some_iff.1 hK).1
  have hT2 : Turn w.heap.size W (W.putObj D (.deferred none)) := turn_put _ hK rfl (by omega)
  exact leave_mark hK (results_tmp rfl _ _ _) ⟨a, cap, fs, rfl, hcap, hT2.llsub hsub, (hT2.llfresh hsub hfr).mono (by omega), hbW.trans (hT2.below (Nat.le_refl _))⟩
 case stop =>
  rintro D c A W _ h _ _
  exact h.elim
theorem collect {gf : Nat} {lb : Array Value} (eg : Enters Tryz.prog gf) {L : Nat → Ls.Lay} {B0 N : Nat} (hN : N ≤ 1000000) (w : World) (hB0 : B0 ≤ w.heap.size) (hG : ∀ W, Ext w W → Gives Tryz.prog gf lb (XL L) (fun c => c < B0) N W) :
  Calls Tryz.prog 46 #[.func (.func gf) #[] lb] w (LLNew w (upto L N)) := by
 have H := Lib.hid (appendSeq eg hN w hB0 hG)
 clear hG
 go_enter Tryz.func46, Tryz.ntmps46
 go_wp2_with fail
 refine H.out.mono ?_
 rintro e1 w1 ⟨a, cap, fs, rfl, hc, hs, hf, hb⟩
 have H1 := Lib.hid (show LLNew w (upto L N) (.returned (.slice a (upto L N).length cap)) w1 from ⟨a, cap, fs, rfl, hc, hs, hf, hb⟩)
 clear hc hs hf hb
 go_wp2_with fail
 go_ret
 exact H1.out
def toldD (o n : Int) (t : ByteArray) (k : F) : Bool := manyD o n t k && decide (ctD o k ≤ 300)
def SeqOut (w : World) (o n : Int) (t : ByteArray) (k : F) (e : Ending) (w' : World) : Prop :=
 (toldD o n t k = false ∧ e = .returned (.tuple #[.nilFunc, .bool false]) ∧ Below w.heap.size w w') ∨
 (toldD o n t k = true ∧ ∃ b, e = .returned (.tuple #[.func (.func 91) #[] #[.pointer (some ⟨b, 0, none⟩)], .bool true]) ∧ AtD w'.heap.size w' b o n t k ∧ Below w.heap.size w w')
section
variable (w : World) (o n : Int) (t : ByteArray) (k : F) (a : Option Addr) (cap : Nat) (fs : List Nat)
theorem layoutsInOrder (hs : SubAt w a k fs) (hfs : ∀ c ∈ fs, c < w.heap.size ∧ ∀ o, w.frozen? ⟨c, o, none⟩ = false) (hc : k.len ≤ cap) (hsz : t.size + k.size ≤ 2000000) (hft : k.Fits) (ht : t.size ≤ maxLen) :
  Calls Tryz.prog 45 #[.agg #[.int .i64 o, .int .i64 n, .string t, .slice a k.len cap]] w (SeqOut w o n t k) := by
 have B1 := Lib.hid (show ∀ ob, Ext w (w.alloc ob) from fun ob => (Ext.refl w).alloc _)
 have HA := Lib.hid (show ∀ (W : World) ob, Below w.heap.size w W → Below w.heap.size w (W.alloc ob) from fun W ob h => h.alloc h.size ob)
 cases hm : manyD o n t k with
 | false =>
   have hn := fun (w1 : World) (hw1 : Ext w w1) => choicesN w1 o n t k a cap fs (hs.below (fun c hc => (hfs c hc).1) hw1) (fun c hc => ⟨Nat.lt_of_lt_of_le (hfs c hc).1 hw1.size, fun x => (hw1.frozen (hfs c hc).1).trans ((hfs c hc).2 x)⟩) hc (by omega) hft ht hm
   have HN := Lib.hid hn
   have hto := Lib.hid (show toldD o n t k = false by simp [toldD, hm])
   clear hn hm hs hfs hft
   go_enter Tryz.func45, Tryz.ntmps45
   go_wp2_with fail
   refine (HN.out _ (B1.out _)).mono ?_
   rintro e2 w2 ⟨ox, nx, tx, ax, lx, cx, xx, yx, ax', lx', cx', rfl, hb2⟩
   have HB := Lib.hid ((B1.out _).trans hb2)
   clear hb2
   go_wp2_with fail
   go_ret2
   exact .inl ⟨hto.out, rfl, HA.out _ _ HB.out⟩
 | true =>
   have hn := fun (w1 : World) (hw1 : Ext w w1) => choicesY w1 o n t k a cap fs (hs.below (fun c hc => (hfs c hc).1) hw1) (fun c hc => ⟨Nat.lt_of_lt_of_le (hfs c hc).1 hw1.size, fun x => (hw1.frozen (hfs c hc).1).trans ((hfs c hc).2 x)⟩) hc (by omega) hft ht hm
   have HN := Lib.hid hn
   have hdoc := fun (W : World) (hW : Ext w W) => (show DocIn (fun _ => True) W k a cap from ⟨hc, fs, hs.below (fun c hc => (hfs c hc).1) hW, fun c hc => ⟨trivial, Nat.lt_of_lt_of_le (hfs c hc).1 hW.size, fun x => (hW.frozen (hfs c hc).1).trans ((hfs c hc).2 x)⟩⟩)
   have HD := Lib.hid hdoc
   obtain ⟨N, hN⟩ : ∃ N, ctD o k = N := ⟨_, rfl⟩
   have HNN := Lib.hid hN
   by_cases h300 : N ≤ 300
   ·have hto := Lib.hid (show toldD o n t k = true by simp [toldD, hm, hN, h300])
    have h3 : ¬ ((300 : Int) < (N : Int)) := by omega
    clear hn hm hs hfs hft hdoc hN
    go_enter Tryz.func45, Tryz.ntmps45
    go_wp2_with fail
    refine (HN.out _ (B1.out _)).mono ?_
    rintro e2 w2 ⟨a', c', rfl, ht2, hb2⟩
    rw [HNN.out]
    have hBw : Ext w w2 := (B1.out _).trans hb2
    obtain ⟨hd, hhd⟩ : ∃ hd, (!noD o k) = hd := ⟨_, rfl⟩
    rw [hhd]
    have hBV : Ext w (w2.alloc (.cells #[.int .i64 o, .int .i64 n, .string t, .slice a k.len cap, .int .i64 (N : Int), .bool hd, .slice a' k.len c'] 120)) := hBw.alloc _
    have htV : TreeSub (fun _ => True) (w2.alloc (.cells #[.int .i64 o, .int .i64 n, .string t, .slice a k.len cap, .int .i64 (N : Int), .bool hd, .slice a' k.len c'] 120)) a' k := ht2.stay (Stay.below ((Below.refl _ _).alloc (Nat.le_refl _) _))
    have hat : ChL.At (w2.alloc (.cells #[.int .i64 o, .int .i64 n, .string t, .slice a k.len cap, .int .i64 (N : Int), .bool hd, .slice a' k.len c'] 120)) w2.heap.size 0 o n t k := ⟨by simp, a, cap, a', c', ⟨by rw [World.cell?_alloc_new]; rfl, by rw [World.cell?_alloc_new]; rfl, by rw [World.cell?_alloc_new]; rfl, by rw [World.cell?_alloc_new]; rfl, by rw [World.cell?_alloc_new, HNN.out]; rfl, by rw [World.cell?_alloc_new, hhd]; rfl, by rw [World.cell?_alloc_new]; rfl⟩, HD.out _ hBV, htV⟩
    have HAT := Lib.hid (And.intro (AtD.of hat) hBV)
    clear ht2 hb2 hBw hhd hBV htV hat
    go_wp2_with fail
    go_ret2
    exact .inr ⟨hto.out, w2.heap.size, rfl, HAT.out.1, HAT.out.2⟩
   ·have hto := Lib.hid (show toldD o n t k = false by simp [toldD, hm, hN]; omega)
    have h3 : (300 : Int) < (N : Int) := by omega
    clear hn hm hs hfs hft hdoc hN
    go_enter Tryz.func45, Tryz.ntmps45
    go_wp2_with fail
    refine (HN.out _ (B1.out _)).mono ?_
    rintro e2 w2 ⟨a', c', rfl, ht2, hb2⟩
    rw [HNN.out]
    have HB := Lib.hid ((B1.out _).trans hb2)
    clear hb2 ht2
    go_wp2_with fail
    go_ret2
    exact .inl ⟨hto.out, rfl, HA.out _ _ HB.out⟩
theorem told_parts {o n : Int} {t : ByteArray} {k : F} (h : toldD o n t k = true) : okD 40 o n t k = true ∧ 1 + k.cnt ≤ 80 ∧ ctD o k ≤ 300 ∧ manyD o n t k = true := by
 simp only [toldD, Bool.and_eq_true, decide_eq_true_eq] at h
 have := ChO.valid_parts h.1
 exact ⟨this.1, this.2.1, h.2, h.1⟩
def laysD (o n : Int) (t : ByteArray) (k : F) : List Ls.Lay := if toldD o n t k then upto (fun i => pkD o n t k i) (ctD o k) else []
theorem lays_no {o n : Int} {t : ByteArray} {k : F} (h : toldD o n t k = false) : laysD o n t k = [] := by simp [laysD, h]
theorem lays_yes {o n : Int} {t : ByteArray} {k : F} (h : toldD o n t k = true) : laysD o n t k = upto (fun i => pkD o n t k i) (ctD o k) := by simp [laysD, h]
theorem implLayoutsOf (hs : SubAt w a k fs) (hfs : ∀ c ∈ fs, c < w.heap.size ∧ ∀ o, w.frozen? ⟨c, o, none⟩ = false) (hc : k.len ≤ cap) (hsz : t.size + k.size ≤ 2000000) (hft : k.Fits) (ht : t.size ≤ maxLen) :
  Calls Tryz.prog 15 #[.agg #[.int .i64 o, .int .i64 n, .string t, .slice a k.len cap]] w (LLOut w (laysD o n t k) (toldD o n t k)) := by
 have B1 := Lib.hid (show ∀ ob, Ext w (w.alloc ob) from fun ob => (Ext.refl w).alloc _)
 have HS := Lib.hid (fun (w1 : World) (hw1 : Ext w w1) => layoutsInOrder w1 o n t k a cap fs (hs.below (fun c hc => (hfs c hc).1) hw1) (fun c hc => ⟨Nat.lt_of_lt_of_le (hfs c hc).1 hw1.size, fun x => (hw1.frozen (hfs c hc).1).trans ((hfs c hc).2 x)⟩) hc hsz hft ht)
 clear hs hfs
 go_enter Tryz.func15, Tryz.ntmps15
 go_wp2_with fail
 refine (HS.out _ (B1.out _)).mono ?_
 rintro e1 w1 (⟨hto, rfl, hb⟩ | ⟨hto, b, rfl, hat, hb⟩)
 ·have H1 := Lib.hid (And.intro hto ((B1.out _).trans hb))
  clear hto hb
  go_wp2_with fail
  go_ret2
  rw [H1.out.1, lays_no H1.out.1]
  exact ⟨none, 0, [], rfl, by simp, Ls.LLSub.nil _ _, Fresh.nil _ _, H1.out.2⟩
 ·obtain ⟨p1, p2, p3, p4⟩ := told_parts hto
  have hG := fun (W : World) (hW : Ext w1 W) => gives p1 p2 hsz (by omega) (hat.keep (Keep.of_ext hW))
  have HC := Lib.hid (collect (enters_of Tryz.func91 (by kernel_rfl) rfl) (L := fun i => pkD o n t k i) (B0 := w1.heap.size) (N := ctD o k) (by omega) w1 (Nat.le_refl _) hG)
  have H1 := Lib.hid (And.intro hto ((B1.out _).trans hb))
  clear hto hb hat hG p1 p2 p3 p4
  go_wp2_with fail
  refine HC.out.mono ?_
  rintro e2 w2 ⟨a2, c2, f2, rfl, hc2, hs2, hf2, hb2⟩
  have H2 := Lib.hid (And.intro hc2 (And.intro hs2 (And.intro (hf2.mono H1.out.2.size) (H1.out.2.trans hb2))))
  clear hc2 hs2 hf2 hb2
  go_wp2_with fail
  go_ret2
  rw [H1.out.1, lays_yes H1.out.1]
  exact ⟨a2, c2, f2, rfl, H2.out.1, H2.out.2.1, H2.out.2.2.1, H2.out.2.2.2⟩
end
end Go.Proofs.YtjcaiecapapceaaGreat.It
namespace Go.Proofs.YtjcaiecapapceaaGreat.It
open Go.RowKit P1 LayL LayV LayM LayN Ls
theorem inL_yes {ls : List Lay} {l : Lay} {k : Nat} (hk : k < ls.length) (h : ls[k] = l) : inL ls l = true := inL_iff.2 (h ▸ List.getElem_mem hk)
theorem inL_none {ls : List Lay} {l : Lay} (h : ∀ j, (hj : j < ls.length) → ls[j] ≠ l) : inL ls l = false := by
 cases hi : inL ls l with
 | false => rfl
 | true =>
   obtain ⟨j, hj, e⟩ := List.getElem_of_mem (inL_iff.1 hi)
   exact absurd e (h j hj)
theorem sameAs (x l : Lay) (w : World) (a : Option Addr) (cap : Nat) (fs : List Nat) (hs : LaySub w a x fs) (hc : x.length ≤ cap) (hx : x.length ≤ maxLen) (b : Nat) (a' : Option Addr) (cap' : Nat) (fs' : List Nat) (hs' : LaySub w a' l fs') (hc' : l.length ≤ cap') (hl : l.length ≤ maxLen) (hb : w.cell? ⟨b, 0, none⟩ = some (.slice a' l.length cap')) :
  Calls Tryz.prog 96 #[.slice a x.length cap, .pointer (some ⟨b, 0, none⟩)] w fun e w' => e = .returned (.bool (decide (x = l))) ∧ Below w.heap.size w w' := by
 have H := Lib.hid (LaySm.implLayoutSame x l w a cap fs hs a' cap' fs' hs' hc hc' hx hl)
 clear hs hs'
 go_enter Tryz.func96, Tryz.ntmps96
 go_wp2_with fail
 refine H.out.mono ?_
 rintro e1 w1 ⟨rfl, hb1⟩
 have H1 := Lib.hid hb1
 clear hb1 hb
 go_wp2_with fail
 go_ret
 exact ⟨rfl, H1.out⟩
theorem indexFunc (ls : List Lay) (l : Lay) (hg : ∀ x ∈ ls, x.length ≤ maxLen) (w : World) (a : Option Addr) (cap : Nat) (fs : List Nat) (hs : LLSub w a ls fs) (hc : ls.length ≤ cap) (hn : ls.length ≤ 1000000) (b : Nat) (a' : Option Addr) (cap' : Nat) (fs' : List Nat) (hs' : LaySub w a' l fs') (hc' : l.length ≤ cap') (hl : l.length ≤ maxLen) (hb : w.cell? ⟨b, 0, none⟩ = some (.slice a' l.length cap')) (hbw : b < w.heap.size) :
  Calls Tryz.prog 117 #[.slice a ls.length cap, .func (.func 96) #[] #[.pointer (some ⟨b, 0, none⟩)]] w fun e w' => ∃ r : Int, e = .returned (.int .i64 r) ∧ decide (0 ≤ r) = inL ls l ∧ Below w.heap.size w w' := by
 have HR := Lib.hid (show ∀ W, Below w.heap.size w W → ∀ k, (h : k < ls.length) → ∃ bb off a1 c1, a = some ⟨bb, off, none⟩ ∧ bb < W.heap.size ∧ W.cell? ⟨bb, off + k, none⟩ = some (.slice a1 ls[k].length c1) ∧ Calls Tryz.prog 96 #[.slice a1 ls[k].length c1, .pointer (some ⟨b, 0, none⟩)] W fun e w' => e = .returned (.bool (decide (ls[k] = l))) ∧ Below W.heap.size W w' from fun W hW k h => by
  obtain ⟨bb, off, a1, c1, f1, ha, hbb, hcell, hc1, hs1, _⟩ := (hs.below hs.lt hW).get h
  exact ⟨bb, off, a1, c1, ha, hbb, hcell, sameAs ls[k] l W a1 c1 f1 hs1 hc1 (hg _ (List.getElem_mem h)) b a' cap' fs' (hs'.below hs'.lt hW) hc' hl ((hW.cell (p := ⟨b, 0, none⟩) hbw).trans hb)⟩)
 obtain ⟨m, hm⟩ : ∃ m, ls.length = m := ⟨_, rfl⟩
 have HM := Lib.hid hm
 rw [hm] at hc hn ⊢
 clear hm hs hs' hb hg hc' hl
 go_enter Tryz.func117, Tryz.ntmps117
 go_wp2_with fail
 go_loopw [8] (fun i wr => ∃ (k : Nat), k ≤ m ∧ i = .int .i64 k ∧ Hid (∀ j, (hj : j < ls.length) → j < k → ls[j] ≠ l) ∧ Below w.heap.size w wr) (fun i _ => m - (intOf i).toNat)
 case atStart => exact ⟨0, Nat.zero_le _, rfl, Lib.hid (fun j _ (h : j < 0) => absurd h (Nat.not_lt_zero j)), Below.refl _ _⟩
 case round =>
  obtain ⟨k, hk, rfl, HN, hbk⟩ := hrel
  by_cases hkm : k < m
  ·have hkl : k < ls.length := by rw [HM.out]; exact hkm
   obtain ⟨bb, off, a1, c1, rfl, hbb, hcell, hcall⟩ := HR.out wr hbk k hkl
   have HC := Lib.hid hcall
   obtain ⟨len1, hlen1⟩ : ∃ n, (ls[k]).length = n := ⟨_, rfl⟩
   rw [hlen1] at hcell HC
   by_cases he : ls[k] = l
   ·rw [decide_eq_true he] at HC
    have HY := Lib.hid (inL_yes hkl he)
    have HB := Lib.hid hbk
    clear hcall hlen1 hbk
    go_wp2_with fail
    refine HC.out.mono ?_
    rintro e1 w1 ⟨rfl, hb1⟩
    have H1 := Lib.hid (HB.out.trans (hb1.mono HB.out.size))
    clear hb1 hcell hbb
    go_wp2_with fail
    go_ret
    exact ⟨_, rfl, by rw [HY.out]; simp, H1.out⟩
   ·rw [decide_eq_false he] at HC
    have HE := Lib.hid he
    have HB := Lib.hid hbk
    clear hcall hlen1 hbk he
    go_wp2_with fail
    refine HC.out.mono ?_
    rintro e1 w1 ⟨rfl, hb1⟩
    have H1 := Lib.hid (HB.out.trans (hb1.mono HB.out.size))
    clear hb1 hcell hbb
    go_wp2_with fail
    go_roundw
    case rel => exact ⟨k + 1, by omega, by go_num, Lib.hid (fun j hj h => by
     by_cases hjk : j < k
     ·exact HN.out j hj hjk
     ·obtain rfl : j = k := by omega
      exact HE.out), H1.out⟩
    case measure => simp [intOf]; omega
  ·have hF := Lib.hid (inL_none (fun j hj => HN.out j hj (by have := HM.out; omega)))
   go_wp2_with fail
   go_ret
   exact ⟨_, rfl, by rw [hF.out]; rfl, hbk⟩
theorem containsFunc (ls : List Lay) (l : Lay) (hg : ∀ x ∈ ls, x.length ≤ maxLen) (w : World) (a : Option Addr) (cap : Nat) (fs : List Nat) (hs : LLSub w a ls fs) (hc : ls.length ≤ cap) (hn : ls.length ≤ 1000000) (b : Nat) (a' : Option Addr) (cap' : Nat) (fs' : List Nat) (hs' : LaySub w a' l fs') (hc' : l.length ≤ cap') (hl : l.length ≤ maxLen) (hb : w.cell? ⟨b, 0, none⟩ = some (.slice a' l.length cap')) (hbw : b < w.heap.size) :
  Calls Tryz.prog 95 #[.slice a ls.length cap, .func (.func 96) #[] #[.pointer (some ⟨b, 0, none⟩)]] w fun e w' => e = .returned (.bool (inL ls l)) ∧ Below w.heap.size w w' := by
 have H := Lib.hid (indexFunc ls l hg w a cap fs hs hc hn b a' cap' fs' hs' hc' hl hb hbw)
 clear hs hs' hb hg hc' hl hc hn hbw
 go_enter Tryz.func95, Tryz.ntmps95
 go_wp2_with fail
 refine H.out.mono ?_
 rintro e1 w1 ⟨r, rfl, hr, hb1⟩
 have H1 := Lib.hid (And.intro hr hb1)
 clear hb1 hr
 go_wp2_with fail
 go_ret
 exact ⟨by rw [← H1.out.1]; rfl, H1.out.2⟩
theorem containsLayout (ls : List Lay) (l : Lay) (hg : ∀ x ∈ ls, x.length ≤ maxLen) (w : World) (a : Option Addr) (cap : Nat) (fs : List Nat) (hs : LLSub w a ls fs) (hc : ls.length ≤ cap) (hn : ls.length ≤ 1000000) (a' : Option Addr) (cap' : Nat) (fs' : List Nat) (hs' : LaySub w a' l fs') (hc' : l.length ≤ cap') (hl : l.length ≤ maxLen) :
  Calls Tryz.prog 48 #[.slice a ls.length cap, .slice a' l.length cap'] w fun e w' => e = .returned (.bool (inL ls l)) ∧ Below w.heap.size w w' := by
 have H := Lib.hid (fun (T : TypeId) => containsFunc ls l hg (w.alloc (.cells #[.slice a' l.length cap'] T)) a cap fs (hs.below hs.lt ((Ext.refl w).alloc _)) hc hn w.heap.size a' cap' fs' (hs'.below hs'.lt ((Ext.refl w).alloc _)) hc' hl (by rw [World.cell?_alloc_new]; rfl) (by simp))
 have B1 := Lib.hid (show ∀ ob, Ext w (w.alloc ob) from fun ob => (Ext.refl w).alloc _)
 obtain ⟨m, hm⟩ : ∃ m, ls.length = m := ⟨_, rfl⟩
 obtain ⟨m', hm'⟩ : ∃ m', l.length = m' := ⟨_, rfl⟩
 rw [hm, hm'] at H ⊢
 clear hs hs' hg hc' hl hc hn hm hm'
 go_enter Tryz.func48, Tryz.ntmps48
 go_wp2_with fail
 refine (H.out _).mono ?_
 rintro e1 w1 ⟨rfl, hb1⟩
 have H1 := Lib.hid ((B1.out _).trans hb1)
 clear hb1
 go_wp2_with fail
 go_ret
 exact ⟨rfl, H1.out⟩
theorem l3In (ls : List Lay) (l : Lay) (hg : ∀ x ∈ ls, x.length ≤ maxLen) (w : World) (a : Option Addr) (cap : Nat) (fs : List Nat) (hs : LLSub w a ls fs) (hc : ls.length ≤ cap) (hn : ls.length ≤ 1000000) (a' : Option Addr) (cap' : Nat) (fs' : List Nat) (hs' : LaySub w a' l fs') (hc' : l.length ≤ cap') (hl : l.length ≤ maxLen) :
  Calls Tryz.prog 72 #[.slice a ls.length cap, .slice a' l.length cap'] w fun e w' => e = .returned (.bool (inL ls l)) ∧ Below w.heap.size w w' := by
 have HR := Lib.hid (show ∀ W, Below w.heap.size w W → ∀ k, (h : k < ls.length) → ∃ bb off a1 c1, a = some ⟨bb, off, none⟩ ∧ bb < W.heap.size ∧ W.cell? ⟨bb, off + k, none⟩ = some (.slice a1 ls[k].length c1) ∧ Calls Tryz.prog 76 #[.slice a1 ls[k].length c1, .slice a' l.length cap'] W fun e w' => e = .returned (.bool (decide (ls[k] = l))) ∧ Below W.heap.size W w' from fun W hW k h => by
  obtain ⟨bb, off, a1, c1, f1, ha, hbb, hcell, hc1, hs1, _⟩ := (hs.below hs.lt hW).get h
  exact ⟨bb, off, a1, c1, ha, hbb, hcell, LaySm.specLayoutSame ls[k] l W a1 c1 f1 hs1 a' cap' fs' (hs'.below hs'.lt hW) hc1 hc' (hg _ (List.getElem_mem h)) hl⟩)
 obtain ⟨m, hm⟩ : ∃ m, ls.length = m := ⟨_, rfl⟩
 have HM := Lib.hid hm
 obtain ⟨m', hm'⟩ : ∃ m', l.length = m' := ⟨_, rfl⟩
 rw [hm'] at HR hc' hl ⊢
 rw [hm] at hc hn ⊢
 clear hm hs hs' hg hc' hl hm'
 go_enter Tryz.func72, Tryz.ntmps72
 go_wp2_with fail
 go_loopw [5] (fun i wr => ∃ (k : Nat), k ≤ m ∧ i = .int .i64 k ∧ Hid (∀ j, (hj : j < ls.length) → j < k → ls[j] ≠ l) ∧ Below w.heap.size w wr) (fun i _ => m - (intOf i).toNat)
 case atStart => exact ⟨0, Nat.zero_le _, rfl, Lib.hid (fun j _ (h : j < 0) => absurd h (Nat.not_lt_zero j)), Below.refl _ _⟩
 case round =>
  obtain ⟨k, hk, rfl, HN, hbk⟩ := hrel
  by_cases hkm : k < m
  ·have hkl : k < ls.length := by rw [HM.out]; exact hkm
   obtain ⟨bb, off, a1, c1, rfl, hbb, hcell, hcall⟩ := HR.out wr hbk k hkl
   have HC := Lib.hid hcall
   obtain ⟨len1, hlen1⟩ : ∃ n, (ls[k]).length = n := ⟨_, rfl⟩
   rw [hlen1] at hcell HC
   by_cases he : ls[k] = l
   ·rw [decide_eq_true he] at HC
    have HY := Lib.hid (inL_yes hkl he)
    have HB := Lib.hid hbk
    clear hcall hlen1 hbk
    go_wp2_with fail
    refine HC.out.mono ?_
    rintro e1 w1 ⟨rfl, hb1⟩
    have H1 := Lib.hid (HB.out.trans (hb1.mono HB.out.size))
    clear hb1 hcell hbb
    go_wp2_with fail
    go_ret
    exact ⟨by rw [HY.out]; rfl, H1.out⟩
   ·rw [decide_eq_false he] at HC
    have HE := Lib.hid he
    have HB := Lib.hid hbk
    clear hcall hlen1 hbk he
    go_wp2_with fail
    refine HC.out.mono ?_
    rintro e1 w1 ⟨rfl, hb1⟩
    have H1 := Lib.hid (HB.out.trans (hb1.mono HB.out.size))
    clear hb1 hcell hbb
    go_wp2_with fail
    go_roundw
    case rel => exact ⟨k + 1, by omega, by go_num, Lib.hid (fun j hj h => by
     by_cases hjk : j < k
     ·exact HN.out j hj hjk
     ·obtain rfl : j = k := by omega
      exact HE.out), H1.out⟩
    case measure => simp [intOf]; omega
  ·have hF := Lib.hid (inL_none (fun j hj => HN.out j hj (by have := HM.out; omega)))
   go_wp2_with fail
   go_ret
   exact ⟨by rw [hF.out]; rfl, hbk⟩
end Go.Proofs.YtjcaiecapapceaaGreat.It
namespace Go.Proofs.YtjcaiecapapceaaGreat.It
open Go.RowKit Go.Shelf P1 LayL LayV LayM LayN LayC Cnt CntC Wid ChP Tr ChT ChC Rf
open Ls hiding Lay
theorem acc_push {W : World} {lo : Nat} {v : Value} {ls : List Lay} {f : List Nat} {a : Option Addr} {cap : Nat} {l : Lay} {f1 : List Nat} (hA : Acc W 28 lo v ls f) (hs : LaySub W a l f1) (hc : l.length ≤ cap) (hf : Fresh lo W f1) (hd : ∀ q ∈ f1, q ∉ f) (ho : ∀ q, v.ownBlock = some q → q ∉ f1) (hl : ls.length + 1 ≤ 1099511627776) :
  ∃ v' w', (Builtin.append_ #[32, 32] 32 #[v, .slice (some ⟨W.heap.size, 0, none⟩) 1 1]).run Tryz.prog (W.alloc (.cells #[.slice a l.length cap] 28)) = .ok v' w' ∧ Acc w' 28 lo v' (ls ++ [l]) (f ++ f1) ∧ Below lo W w' ∧ (W.alloc (.cells #[.slice a l.length cap] 28)).grownBy w' v.ownBlock ∧ ∃ b cap', v' = .slice (some ⟨b, 0, none⟩) (ls.length + 1) cap' ∧ (some b = v.ownBlock ∨ b = W.heap.size + 1) := by
 obtain ⟨i0, hi, hz0, hz1, hz2⟩ := info_parts infoE
 have hE : Ext W (W.alloc (.cells #[.slice a l.length cap] 28)) := (Ext.refl W).alloc _
 obtain ⟨vs, _, _, _, _, hlo⟩ := id hA
 obtain ⟨v', w', h1, h2, h3, h4, b, cap', h5, h6⟩ := Acc.append (P := Tryz.prog) (t := 32) (ty := 32) (c := 1) (p := ⟨W.heap.size, 0, none⟩) Tryz.underlying32 hi hz0 hz1 hz2 (by rfl) (hA.ext hE) (by rw [World.cell?_alloc_new]; rfl) hc (hs.below hs.lt hE) (hf.below (fun q hq => hs.lt q hq) hE) hd ho hl
 exact ⟨v', w', h1, h2, (hE.mono hlo).trans h3, h4, b, cap', h5, by simpa using h6⟩
theorem acc_new {W W' : World} {lo : Nat} {v : Value} {ls : List Lay} {f : List Nat} (hA : Acc W 28 lo v ls f) (hE : Ext W W') {f1 : List Nat} (hf : Fresh W.heap.size W' f1) : (∀ q ∈ f1, q ∉ f) ∧ (∀ q, v.ownBlock = some q → q ∉ f1) ∧ Acc W' 28 lo v ls f ∧ Fresh lo W' f1 := by
 obtain ⟨vs, _, _, _, _, hlo⟩ := id hA
 exact ⟨fun q hq hm => by have h1 := (hf.2 q hq).1; have h2 := hA.lt q hm; omega, fun q hq hm => by have h1 := (hf.2 q hm).1; have h2 := (hA.own_lt q hq).2; omega, hA.ext hE, hf.mono hlo⟩
theorem acc_lit {W : World} {lo : Nat} {v : Value} {ls : List Lay} {f : List Nat} (hA : Acc W 28 lo v ls f) : ∃ (a : Option Addr) (cap : Nat), v = .slice a ls.length cap ∧ ls.length ≤ cap ∧ cap ≤ maxLen := by
 obtain ⟨a, cap, fs, h1, h2, h3, _⟩ := hA.slice
 exact ⟨a, cap, h1, h2, h3⟩
section
variable (w : World) (o n : Int) (t : ByteArray) (k : F) (a : Option Addr) (cap : Nat) (fs : List Nat)
theorem specLayoutsOf (hs : SubAt w a k fs) (hfs : ∀ c ∈ fs, c < w.heap.size) (hc : k.len ≤ cap) (hsz : t.size + k.size ≤ 2000000) (hft : k.Fits) (ht : t.size ≤ maxLen) :
  Calls Tryz.prog 68 #[.agg #[.int .i64 o, .int .i64 n, .string t, .slice a k.len cap]] w (LLOut w (laysD o n t k) (toldD o n t k)) := by
 have B2 := Lib.hid (show ∀ ob ob', Ext w ((w.alloc ob).alloc ob') from fun ob ob' => ((Ext.refl w).alloc _).alloc _)
 have hn := fun (w1 : World) (hw1 : Ext w w1) => ChS.specCountChoices w1 o n t k a cap fs (hs.below hfs hw1) (fun c hc => Nat.lt_of_lt_of_le (hfs c hc) hw1.size) hc (by omega) hft ht
 obtain ⟨N, hN⟩ : ∃ N : Int, ChS.ccN o n t k = N := ⟨_, rfl⟩
 rw [hN] at hn
 cases hm : manyD o n t k with
 | false =>
   have hto := Lib.hid (show toldD o n t k = false by simp [toldD, hm])
   rw [hm] at hn
   have HN := Lib.hid hn
   clear hn hm hs hfs hft hN
   go_enter Tryz.func68, Tryz.ntmps68
   go_wp2_with fail
   refine (HN.out _ (B2.out _ _)).mono ?_
   rintro e2 w2 ⟨rfl, hb2⟩
   have HB := Lib.hid ((B2.out _ _).trans hb2)
   clear hb2
   go_wp2_with fail
   go_ret2
   rw [hto.out, lays_no hto.out]
   exact ⟨_, 0, [], rfl, by simp, LLSub.nil _ _, Fresh.nil _ _, HB.out⟩
 | true =>
   obtain ⟨hv, hcnt, hct⟩ := ChO.valid_parts hm
   have hNc : N = (ctD o k : Int) := by rw [← hN]; simp [ChS.ccN, hm]
   rw [hm] at hn
   have HN := Lib.hid hn
   by_cases h300 : ctD o k ≤ 300
   ·have hto := Lib.hid (show toldD o n t k = true by simp [toldD, hm, h300])
    have hlay := fun (W : World) (hW : Ext w W) (j : Nat) (hj : j < ctD o k) => ChK.pickS_all 40 (by omega) o n t k hv hcnt (by omega) hct j hj W a cap fs (hs.below hfs hW) (fun c hc => Nat.lt_of_lt_of_le (hfs c hc) hW.size) hc
    have HF := Lib.hid (lays_yes hto.out)
    obtain ⟨L, hL⟩ : ∃ L : Nat → Lay, (fun i => pkD o n t k i) = L := ⟨_, rfl⟩
    have hlay2 : ∀ (W : World) (hW : Ext w W) (j : Nat) (hj : j < ctD o k), Calls Tryz.prog 120 #[.agg #[.int .i64 o, .int .i64 n, .string t, .slice a k.len cap], .int .i64 (j : Int)] W (RowsNew W (L j)) := by rw [← hL]; exact hlay
    rw [hL] at HF
    obtain ⟨M, hM⟩ : ∃ M, ctD o k = M := ⟨_, rfl⟩
    rw [hM] at hlay2 HF hNc h300
    have HL := Lib.hid hlay2
    subst hNc
    have h3 : ¬ ((300 : Int) < (M : Int)) := by omega
    clear hn hm hs hfs hft hv hlay hlay2 hL hct hN hM
    go_enter Tryz.func68, Tryz.ntmps68
    go_wp2_with fail
    refine (HN.out _ (B2.out _ _)).mono ?_
    rintro e2 w2 ⟨rfl, hb2⟩
    have hacc : Acc w2 28 (w.heap.size + 1) (.slice (some ⟨w.heap.size + 1, 0, none⟩) 0 0) [] [] := by
     have h := (Acc.made (w.alloc (.cells #[.int .i64 o, .int .i64 n, .string t, .slice a k.len cap] 25)) 28 (w.heap.size + 1) (by simp)).ext hb2
     simpa using h
    have hx : (w2.cell? ⟨w.heap.size, 0, none⟩ = some (.int .i64 o) ∧ w2.cell? ⟨w.heap.size, 1, none⟩ = some (.int .i64 n) ∧ w2.cell? ⟨w.heap.size, 2, none⟩ = some (.string t) ∧ w2.cell? ⟨w.heap.size, 3, none⟩ = some (.slice a k.len cap)) ∧ w.heap.size < w2.heap.size := by
     have hE : Ext (w.alloc (.cells #[.int .i64 o, .int .i64 n, .string t, .slice a k.len cap] 25)) w2 := ((Ext.refl _).alloc _).trans hb2
     have hlt : w.heap.size < (w.alloc (.cells #[.int .i64 o, .int .i64 n, .string t, .slice a k.len cap] 25)).heap.size := by simp
     refine ⟨⟨?_, ?_, ?_, ?_⟩, Nat.lt_of_lt_of_le hlt hE.size⟩ <;> (refine (hE.cell hlt).trans ?_; rw [World.cell?_alloc_new]; rfl)
    have HX := Lib.hid hx
    have HB := Lib.hid ((B2.out _ _).trans hb2)
    clear hb2 hx
    go_wp2_with fail
    go_loopw [7, 4] (fun i v wr => ∃ (j : Nat) (f : List Nat), j ≤ M ∧ i = .int .i64 j ∧ Acc wr 28 (w.heap.size + 1) v (upto L j) f ∧ Below w.heap.size w wr ∧ Below (w.heap.size + 1) w2 wr) (fun i _ _ => M - (intOf i).toNat)
    case atStart => exact ⟨0, [], Nat.zero_le _, rfl, hacc, HB.out, Below.refl _ _⟩
    case round =>
     clear hacc
     obtain ⟨j, f, hj, rfl, hA, hbw, hb2⟩ := hrel
     obtain ⟨av, cv, rfl, hcv, hcm⟩ := acc_lit hA
     have hul := upto_len L j
     rw [hul] at hA hcv ⊢
     have HA := Lib.hid hA
     have HW := Lib.hid (And.intro hbw hb2)
     by_cases hjM : j < M
     ·have HC := Lib.hid (HL.out wr hbw j hjM)
      obtain ⟨⟨x0, x1, x2, x3⟩, xl⟩ := HX.out
      replace x0 := (hb2.cell (p := ⟨w.heap.size, 0, none⟩) (by simp)).trans x0
      replace x1 := (hb2.cell (p := ⟨w.heap.size, 1, none⟩) (by simp)).trans x1
      replace x2 := (hb2.cell (p := ⟨w.heap.size, 2, none⟩) (by simp)).trans x2
      replace x3 := (hb2.cell (p := ⟨w.heap.size, 3, none⟩) (by simp)).trans x3
      clear hA hbw hb2 hul
      go_wp2_with fail
      refine HC.out.mono ?_
      rintro e3 w3 ⟨a3, c3, f3, rfl, hc3, hs3, hf3, hb3⟩
      obtain ⟨d1, d2, hA3, hf3'⟩ := acc_new HA.out hb3 hf3
      obtain ⟨v', w4, hrun, hA4, hbel, hgr, b4, cap4, rfl, _⟩ := acc_push hA3 hs3 hc3 hf3' d1 d2 (by rw [upto_len]; omega)
      have HN4 := Lib.hid (And.intro (show Acc w4 28 (w.heap.size + 1) (.slice (some ⟨b4, 0, none⟩) ((upto L j).length + 1) cap4) (upto L (j + 1)) (f ++ f3) by rw [upto_succ]; exact hA4) (And.intro ((HW.out.1.trans (hb3.mono HW.out.1.size)).trans (hbel.mono (by omega))) (HW.out.2.trans ((hb3.mono (by have := HW.out.2.size; omega)).trans hbel))))
      rw [upto_len] at hrun HN4
      clear hc3 hs3 hf3 hb3 d1 d2 hA3 hf3' hA4 hbel hgr x0 x1 x2 x3
      go_wp2_with (refine append rfl (.tmp 26) (.tmp 30) 32 rfl (sv := .slice av j cv) (xv := .slice (some ⟨w3.heap.size, 0, none⟩) 1 1) rfl rfl hrun ?_)
      go_roundw
      case rel => exact ⟨j + 1, _, by omega, by go_num, HN4.out.1, HN4.out.2.1, HN4.out.2.2⟩
      case measure => simp [intOf]; omega
     ·obtain rfl : j = M := by omega
      obtain ⟨ad, cs, fss, e1, h1, _, hsub, hfr, _, _⟩ := HA.out.slice
      rw [upto_len] at e1 h1
      injection e1 with e2 _ e3
      subst e2 e3
      go_wp2_with fail
      go_ret2
      rw [hto.out, HF.out]
      exact ⟨_, _, fss, by rw [upto_len]; rfl, by rw [upto_len]; exact h1, hsub, hfr.mono (by omega), HW.out.1⟩
   ·have hto := Lib.hid (show toldD o n t k = false by simp [toldD, h300])
    have h3 : (300 : Int) < N := by omega
    clear hn hm hs hfs hft hN hNc
    go_enter Tryz.func68, Tryz.ntmps68
    go_wp2_with fail
    refine (HN.out _ (B2.out _ _)).mono ?_
    rintro e2 w2 ⟨rfl, hb2⟩
    have HB := Lib.hid ((B2.out _ _).trans hb2)
    clear hb2
    go_wp2_with fail
    go_ret2
    rw [hto.out, lays_no hto.out]
    exact ⟨_, 0, [], rfl, by simp, LLSub.nil _ _, Fresh.nil _ _, HB.out⟩
theorem lays_good {o n : Int} {t : ByteArray} {k : F} : ∀ x ∈ laysD o n t k, lv x = true := by
 intro x hx
 cases h : toldD o n t k with
 | false => rw [lays_no h] at hx; simp at hx
 | true =>
   rw [lays_yes h] at hx
   simp only [upto, List.mem_map, List.mem_range] at hx
   obtain ⟨i, _, rfl⟩ := hx
   exact pick_lv (DocC.many_yes (told_parts h).2.2.2).1 i
theorem lays_len (o n : Int) (t : ByteArray) (k : F) : (laysD o n t k).length ≤ 300 := by
 cases h : toldD o n t k with
 | false => rw [lays_no h]; simp
 | true => rw [lays_yes h, upto_len]; exact (told_parts h).2.2.1
theorem good_len {ls : List Lay} (h : ∀ x ∈ ls, lv x = true) : ∀ x ∈ ls, x.length ≤ maxLen := fun x hx => by have := (lv_len (h x hx)).2; unfold maxLen; omega
theorem dist_good {ls : List Lay} (h : ∀ x ∈ ls, lv x = true) : ∀ x ∈ dist ls, lv x = true := fun x hx => h x ((dist_mem ls x).1 hx)
end
end Go.Proofs.YtjcaiecapapceaaGreat.It
namespace Go.Proofs.YtjcaiecapapceaaGreat.It
open Go.RowKit Go.Shelf P1 LayL LayV LayM LayN LayC Cnt CntC Wid ChP Tr ChT ChC Rf
open Ls hiding Lay
attribute [local go_sem] Oper.semAt_some
theorem dist_upto {L : Nat → Lay} (j : Nat) : dist (upto L (j + 1)) = if inL (dist (upto L j)) (L j) then dist (upto L j) else dist (upto L j) ++ [L j] := by rw [upto_succ, dist_snoc]
section
variable (w : World) (o n : Int) (t : ByteArray) (k : F) (a : Option Addr) (cap : Nat) (fs : List Nat)
theorem implDistinctLayouts (hs : SubAt w a k fs) (hfs : ∀ c ∈ fs, c < w.heap.size ∧ ∀ o, w.frozen? ⟨c, o, none⟩ = false) (hc : k.len ≤ cap) (hsz : t.size + k.size ≤ 2000000) (hft : k.Fits) (ht : t.size ≤ maxLen) :
  Calls Tryz.prog 29 #[.agg #[.int .i64 o, .int .i64 n, .string t, .slice a k.len cap]] w (LLOut w (dist (laysD o n t k)) (toldD o n t k)) := by
 have B1 := Lib.hid (show ∀ ob, Ext w (w.alloc ob) from fun ob => (Ext.refl w).alloc _)
 have HS := Lib.hid (fun (w1 : World) (hw1 : Ext w w1) => layoutsInOrder w1 o n t k a cap fs (hs.below (fun c hc => (hfs c hc).1) hw1) (fun c hc => ⟨Nat.lt_of_lt_of_le (hfs c hc).1 hw1.size, fun x => (hw1.frozen (hfs c hc).1).trans ((hfs c hc).2 x)⟩) hc hsz hft ht)
 clear hs hfs
 refine calls_marks Tryz.func29 rfl ?_
 simp only [Tryz.ntmps29, List.size_toArray, List.length_cons, List.length_nil, Nat.reduceAdd, Nat.reduceSub, Array.replicate_succ, Array.replicate_zero, List.push_toArray, List.append_toArray, List.nil_append, List.cons_append]
 go_wp2_with fail
 refine (HS.out _ (B1.out _)).mono ?_
 rintro e1 w1 (⟨hto, rfl, hb⟩ | ⟨hto, b, rfl, hat, hb⟩)
 ·have H1 := Lib.hid (And.intro hto ((B1.out _).trans hb))
  clear hto hb
  go_wp2_with fail
  exact leave_none (results_tmp2 rfl _ _ _) (by rw [H1.out.1, lays_no H1.out.1]; exact ⟨none, 0, [], rfl, by simp [dist], LLSub.nil _ _, Fresh.nil _ _, H1.out.2⟩)
 ·obtain ⟨p1, p2, p3, p4⟩ := told_parts hto
  have hG := fun (W : World) (hW : Ext w1 W) => gives p1 p2 hsz (by omega) (hat.keep (Keep.of_ext hW))
  have HLS := Lib.hid (lays_yes hto)
  have HGD := Lib.hid (fun (i : Nat) => pick_lv (DocC.many_yes p4).1 i)
  obtain ⟨L, hL⟩ : ∃ L : Nat → Lay, (fun i => pkD o n t k i) = L := ⟨_, rfl⟩
  have hgd2 : ∀ i, lv (L i) = true := by rw [← hL]; exact HGD.out
  rw [hL] at hG HLS
  obtain ⟨N, hN⟩ : ∃ N, ctD o k = N := ⟨_, rfl⟩
  rw [hN] at hG HLS p3
  have HG2 := Lib.hid hgd2
  have H1 := Lib.hid (And.intro hto ((B1.out _).trans hb))
  clear hto hb hat p1 p2 p4 HGD hL hN hgd2 HS
  go_wp2_with fail
  obtain ⟨W0, hW0⟩ : ∃ W0, w1.alloc (.cells #[.slice none 0 0] 32) = W0 := ⟨_, rfl⟩
  have hz : W0.heap.size = w1.heap.size + 1 := by rw [← hW0]; simp
  have hE0 : Ext w1 W0 := by rw [← hW0]; exact (Ext.refl w1).alloc _
  have hX0 : Boxed W0 w1.heap.size 32 (.slice none 0 0) := by rw [← hW0]; exact Boxed.new _ _ _
  try rw [hW0]
  clear hW0
  refine wpIn_wide.1 (rangeFunc_gives (n := 7) (gf := 91) (lb := #[.pointer (some ⟨b, 0, none⟩)]) rfl (enters_of Tryz.func91 (by kernel_rfl) rfl) (by omega) (hG W0 hE0) (fun c hc => by omega) (fun k args A W hX => by obtain ⟨a, cap, f, rfl, _⟩ := hX; rfl)
   (fun j A => (∃ v f, Boxed A w1.heap.size 32 v ∧ Acc A 28 (w1.heap.size + 1) v (dist (upto L j)) f) ∧ Below w1.heap.size w1 A)
   (fun _ _ => False)
   (fun j A B ⟨⟨v, f, h1, h2⟩, h3⟩ hA hT => ⟨⟨v, f, hT.boxed h1, hT.acc h2⟩, h3.trans (hT.below (by omega))⟩)
   (fun A B ⟨⟨v, f, h1, h2⟩, h3⟩ hE => ⟨⟨v, f, (hE.block _ h1.lt).trans h1, h2.ext hE⟩, h3.trans (hE.mono h3.size)⟩)
   (fun _ _ _ h => h.elim)
   ⟨⟨.slice none 0 0, [], hX0, Acc.start _ _ _ (by omega)⟩, hE0⟩
   (fun args => { tmps := #[.agg #[.int .i64 o, .int .i64 n, .string t, .slice a k.len cap], .pointer (some ⟨w.heap.size, 0, none⟩), .slice none 0 0, .bool false, .func (.func 91) #[] #[.pointer (some ⟨b, 0, none⟩)], .bool true, .pointer (some ⟨w1.heap.size, 0, none⟩), args.getD 0 undef, .tuple #[.func (.func 91) #[] #[.pointer (some ⟨b, 0, none⟩)], .bool true], .agg #[.int .i64 o, .int .i64 n, .string t, .slice a k.len cap], .tuple #[.func (.func 91) #[] #[.pointer (some ⟨b, 0, none⟩)], .bool true], .func (.func 91) #[] #[.pointer (some ⟨b, 0, none⟩)], .bool true, .bool true, .bool false, .func (.func 91) #[] #[.pointer (some ⟨b, 0, none⟩)], args.getD 0 undef, undef, undef, undef, undef, undef, undef, undef, undef, undef], defers := [] }) ?assign ?body ?done ?stop)
  case assign =>
   rintro l j args A W K ⟨a, cap, f, rfl, _⟩ hK
   gi_wp2_with fail
   exact hK
  case body =>
   rintro l j args A Wp W hj hz1 ⟨⟨v, f, h1, h2⟩, h3⟩ hE ⟨a, cap, f1, rfl, hc, hs, hf⟩ hT
   have hB : Boxed W w1.heap.size 32 v := hT.boxed ((hE.block _ h1.lt).trans h1)
   have hA : Acc W 28 (w1.heap.size + 1) v (dist (upto L j)) f := hT.acc (h2.ext hE)
   have hs' := hT.lay hs
   have hf' := hT.layFresh hs hf
   have hAz := h1.lt
   have hbW : Below w1.heap.size w1 W := (h3.trans (hE.mono h3.size)).trans (hT.below (by omega))
   have hzW : A.heap.size ≤ W.heap.size := by rw [hT.size]; exact hE.size
   have hdl := dist_len (upto L j)
   rw [upto_len] at hdl
   obtain ⟨av, cv, fd, rfl, hcv, hcm, hsub, hfr, _, _⟩ := hA.slice
   have hgu : ∀ x ∈ upto L j, lv x = true := fun x hx => by
    simp only [upto, List.mem_map] at hx
    obtain ⟨i, _, rfl⟩ := hx
    exact HG2.out i
   have hin := containsLayout (dist (upto L j)) (L j) (good_len (dist_good hgu)) W av cv fd hsub hcv (by omega) a cap f1 hs' hc (good_len (ls := [L j]) (by simpa using HG2.out j) _ (by simp))
   have hdt := dist_upto (L := L) j
   have hc1 := hB.cell
   cases hbb : inL (dist (upto L j)) (L j) with
   | true =>
     rw [hbb] at hin hdt
     have HIN := Lib.hid hin
     have HDT := Lib.hid hdt
     clear hin hdt hbb
     gi_wp2_with fail
     refine ⟨trivial, CallsIn.inRound l ((callsIn_wide.2 HIN.out).mono ?_)⟩
     rintro e3 w3 ⟨rfl, hb3⟩
     have hE3 : Ext W w3 := hb3
     gi_wp2_with fail
     exact ⟨keeps_of_ext hE3, Keep.of_ext hE3, ⟨_, f, (hE3.block _ hB.lt).trans hB, by rw [HDT.out]; exact hA.ext hE3⟩, hbW.trans (hE3.mono hbW.size)⟩
   | false =>
     rw [hbb] at hin hdt
     have HIN := Lib.hid hin
     have HDT := Lib.hid hdt
     clear hin hdt hbb
     gi_wp2_with fail
     refine ⟨trivial, CallsIn.inRound l ((callsIn_wide.2 HIN.out).mono ?_)⟩
     rintro e3 w3 ⟨rfl, hb3⟩
     have hE3 : Ext W w3 := hb3
     have hB3 : Boxed w3 w1.heap.size 32 (.slice av (dist (upto L j)).length cv) := (hE3.block _ hB.lt).trans hB
     have hA3 := hA.ext hE3
     obtain ⟨v', w', hrun, hA', hbel, hgr, b', cap', rfl, hbb⟩ := acc_push hA3 (hs'.below hs'.lt hE3) hc ((hf'.mono (by omega)).below (fun q hq => hs'.lt q hq) hE3)
      (fun q hq hm => by have h4 := (hf'.2 q hq).1; have h5 := h2.lt q hm; omega) (fun q hq hm => by have h4 := (hf'.2 q hm).1; have h5 := (h2.own_lt q hq).2; omega) (by omega)
     obtain ⟨g1, g2, g3, g4, g5⟩ := boxed_append hB3 hA3 rfl hA' hgr
     have hc3 := hB3.cell
     have hc4 := g1.cell
     have hc5 := g1.frozen
     gi_wp2_with (gi_at_builtin; refine appendIn rfl _ _ _ rfl (sv := .slice av (dist (upto L j)).length cv) (xv := .slice (some ⟨w3.heap.size, 0, none⟩) 1 1) rfl rfl hrun ?_)
     exact ⟨(keeps_of_ext hE3).trans g4, (Keep.of_ext hE3).trans (Keep.of_below g5 (fun c hc => by omega)), ⟨_, _, g2, by rw [HDT.out]; exact g3⟩, (hbW.trans (hE3.mono hbW.size)).trans g5⟩
  case done =>
   rintro D A W hD ⟨⟨v, f, h1, h2⟩, h3⟩ ⟨B, hE, hT⟩ hK
   have hB : Boxed W w1.heap.size 32 v := hT.boxed ((hE.block _ h1.lt).trans h1)
   have hA : Acc W 28 (w1.heap.size + 1) v (dist (upto L N)) f := hT.acc (h2.ext hE)
   have hbW : Below w1.heap.size w1 W := (h3.trans (hE.mono h3.size)).trans (hT.below (by omega))
   have hc1 := hB.cell
   obtain ⟨a, cap, fs, rfl, hcap, _, hsub, hfr, _, _⟩ := hA.slice
   go_wp2_with fail
   have hT2 : Turn w1.heap.size W (W.putObj D (.deferred none)) := turn_put _ hK rfl (by omega)
   have hs1 := H1.out.2.size
   exact leave_mark hK (results_tmp2 rfl _ _ _) (by rw [HLS.out, H1.out.1]; exact ⟨a, cap, fs, rfl, hcap, hT2.llsub hsub, (hT2.llfresh hsub hfr).mono (by omega), H1.out.2.trans (hbW.trans (hT2.below (Nat.le_refl _)))⟩)
  case stop =>
   rintro D c A W _ h _ _
   exact h.elim
end
end Go.Proofs.YtjcaiecapapceaaGreat.It
namespace Go.Proofs.YtjcaiecapapceaaGreat.It
open Go.RowKit Go.Shelf P1 LayL LayV LayM LayN LayC Cnt CntC Wid ChP Tr ChT ChC Rf
open Ls hiding Lay
section
variable (w : World) (o n : Int) (t : ByteArray) (k : F) (a : Option Addr) (cap : Nat) (fs : List Nat)
end
end Go.Proofs.YtjcaiecapapceaaGreat.It
namespace Go.Proofs.YtjcaiecapapceaaGreat.It
open Go.RowKit Go.Shelf P1 LayL LayV LayM LayN LayC Cnt CntC Wid ChP Tr ChT ChC Rf
open Ls hiding Lay
attribute [local go_sem] Oper.semAt_some
theorem nil_eq (w : World) : (binOp BinOp.eql 28 (.slice none 0 0) (.slice none 0 0)).run Tryz.prog w = .ok (.bool true) w := by
 have h := run_equal_slice_nil (P := Tryz.prog) w _ _ none 0 0 Tryz.underlying28
 simp only [binOp, Sem.run_bind, Sem.run_pure, h, Result.andThen_ok]; rfl
section
variable (w : World) (o n : Int) (t : ByteArray) (k : F) (a : Option Addr) (cap : Nat) (fs : List Nat)
end
end Go.Proofs.YtjcaiecapapceaaGreat.It
namespace Go.Proofs.YtjcaiecapapceaaGreat.It
open Go.RowKit Go.Shelf P1 LayL LayV LayM LayN LayC Cnt CntC Wid ChP Tr ChT ChC Rf
open Ls hiding Lay
end Go.Proofs.YtjcaiecapapceaaGreat.It
namespace Go.Proofs.YtjcaiecapapceaaGreat.DocL
open Go.RowKit P1 CntC LayN OpenR ChP ChO It
open Ls hiding Lay
structure LLIs (w : World) (X : List Ls.Lay) (a : Option Addr) (c : Nat) : Prop where
 sub : ∃ fs, LLSub w a X fs
 cap_le : X.length ≤ c
 good : ∀ x ∈ X, lv x = true
 few : X.length ≤ 300
def LOut (w : World) (X : List Ls.Lay) (V : Bool) (e : Ending) (w' : World) : Prop := ∃ (a : Option Addr) (c : Nat), e = .returned (.tuple #[.slice a X.length c, .bool V]) ∧ LLIs w' X a c ∧ Ext w w'
theorem LOut.of {w w' : World} {X : List Ls.Lay} {V : Bool} {e : Ending} (h : LLOut w X V e w') (g : ∀ x ∈ X, lv x = true) (f : X.length ≤ 300) : LOut w X V e w' := by
 obtain ⟨a, c, fs, rfl, h1, h2, _, h4⟩ := h
 exact ⟨a, c, rfl, ⟨⟨fs, h2⟩, h1, g, f⟩, h4⟩
theorem dist_few (o n : Int) (t : ByteArray) (k : F) : (dist (laysD o n t k)).length ≤ 300 := by
 have := dist_len (laysD o n t k); have := lays_len o n t k; omega
section
variable {w w' : World} {o n : Int} {t : ByteArray} {k : F} {a : Option Addr} {cap : Nat} {fs : List Nat}
theorem implLays (h : DocK.Doc0 w n t k a cap fs) (o : Int) : Calls Tryz.prog 15 #[.agg #[.int .i64 o, .int .i64 n, .string t, .slice a k.len cap]] w (LOut w (laysD o n t k) (toldD o n t k)) :=
 (implLayoutsOf w o n t k a cap fs h.sub h.ok h.cap_le (by have := h.size; omega) h.fits h.tfit).mono fun e w' g => LOut.of g lays_good (lays_len o n t k)
theorem implDist (h : DocK.Doc0 w n t k a cap fs) (o : Int) : Calls Tryz.prog 29 #[.agg #[.int .i64 o, .int .i64 n, .string t, .slice a k.len cap]] w (LOut w (dist (laysD o n t k)) (toldD o n t k)) :=
 (implDistinctLayouts w o n t k a cap fs h.sub h.ok h.cap_le (by have := h.size; omega) h.fits h.tfit).mono fun e w' g => LOut.of g (dist_good lays_good) (dist_few o n t k)
end
end Go.Proofs.YtjcaiecapapceaaGreat.DocL
