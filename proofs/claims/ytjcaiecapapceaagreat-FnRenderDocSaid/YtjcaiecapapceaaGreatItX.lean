import Derived.Test.YtjcaiecapapceaaGreatDocC
/-
 The program's iterator over the layouts of a document's choices.
-/
set_option linter.unusedVariables false
set_option linter.unusedSimpArgs false
set_option maxRecDepth 100000
set_option maxHeartbeats 3200000
namespace Go.Proofs.YtjcaiecapapceaaGreat.It
open Go.RowKit P1 LayL LayV LayM LayN LayC Cnt CntC Wid ChP Tr ChT ChC Rf
attribute [local go_sem] Oper.semAt_some
def AtD (B0 : Nat) (w : World) (b : Nat) (o n : Int) (t : ByteArray) (k : F) : Prop := b < B0 ∧ b < w.heap.size ∧ ∃ (a : Option Addr) (cap : Nat) (a' : Option Addr) (cap' : Nat),
 (w.cell? ⟨b, 0, none⟩ = some (.int .i64 o) ∧ w.cell? ⟨b, 1, none⟩ = some (.int .i64 n) ∧ w.cell? ⟨b, 2, none⟩ = some (.string t) ∧ w.cell? ⟨b, 3, none⟩ = some (.slice a k.len cap) ∧ w.cell? ⟨b, 4, none⟩ = some (.int .i64 (ctD o k : Int)) ∧ w.cell? ⟨b, 5, none⟩ = some (.bool (!noD o k)) ∧ w.cell? ⟨b, 6, none⟩ = some (.slice a' k.len cap')) ∧ DocIn (fun c => c < B0) w k a cap ∧ TreeSub (fun c => c < B0) w a' k
theorem AtD.keep {B0 : Nat} {w w' : World} {b : Nat} {o n : Int} {t : ByteArray} {k : F} (h : AtD B0 w b o n t k) (e : Keep (fun c => c < B0) w w') : AtD B0 w' b o n t k := by
 obtain ⟨hB, hb, a, cap, a', cap', ⟨h0, h1, h2, h3, h4, h5, h6⟩, g1, g2⟩ := h
 have q : ∀ i, w'.cell? ⟨b, i, none⟩ = w.cell? ⟨b, i, none⟩ := fun i => World.cell?_of_block (w := w) (e.2 b hB hb)
 have s : Stay (fun c => c < B0) (fun c => c < B0) w w' := ⟨fun c h1 h2 => ⟨e.2 c h1 h2, h1⟩, e.1⟩
 exact ⟨hB, Nat.lt_of_lt_of_le hb e.1, a, cap, a', cap', ⟨(q _).trans h0, (q _).trans h1, (q _).trans h2, (q _).trans h3, (q _).trans h4, (q _).trans h5, (q _).trans h6⟩, g1.stay s, g2.stay s⟩
theorem AtD.at {B0 : Nat} {w : World} {b : Nat} {o n : Int} {t : ByteArray} {k : F} (h : AtD B0 w b o n t k) : ChL.At w b 0 o n t k := by
 obtain ⟨hB, hb, a, cap, a', cap', ⟨h0, h1, h2, h3, h4, h5, h6⟩, g1, g2⟩ := h
 have s : Stay (fun c => c < B0) (fun _ => True) w w := Stay.imp w (fun _ _ _ => trivial)
 exact ⟨hb, a, cap, a', cap', ⟨h0, h1, h2, h3, h4, h5, h6⟩, g1.stay s, g2.stay s⟩
theorem AtD.of {w : World} {b : Nat} {o n : Int} {t : ByteArray} {k : F} (h : ChL.At w b 0 o n t k) : AtD w.heap.size w b o n t k := by
 obtain ⟨hb, a, cap, a', cap', ⟨h0, h1, h2, h3, h4, h5, h6⟩, g1, g2⟩ := h
 have s : Stay (fun _ => True) (fun c => c < w.heap.size) w w := Stay.imp w (fun _ _ h => h)
 exact ⟨hb, hb, a, cap, a', cap', ⟨h0, h1, h2, h3, h4, h5, h6⟩, g1.stay s, g2.stay s⟩
theorem AtD.count {B0 : Nat} {w : World} {b : Nat} {o n : Int} {t : ByteArray} {k : F} (h : AtD B0 w b o n t k) : w.cell? ⟨b, 4, none⟩ = some (.int .i64 (ctD o k : Int)) ∧ b < w.heap.size := by
 obtain ⟨hB, hb, a, cap, a', cap', ⟨h0, h1, h2, h3, h4, h5, h6⟩, g1, g2⟩ := h
 exact ⟨h4, hb⟩
def XL (L : Nat → Ls.Lay) (k : Nat) (args : Array Value) (A W : World) : Prop := ∃ (a : Option Addr) (cap : Nat) (f : List Nat), args = #[.slice a (L k).length cap] ∧ (L k).length ≤ cap ∧ LaySub W a (L k) f ∧ Fresh A.heap.size W f
theorem gives {o n : Int} {t : ByteArray} {k : F} (hv : okD 40 o n t k = true) (hcnt : 1 + k.cnt ≤ 80) (hsz : t.size + k.size ≤ 2000000) (hct : ctD o k ≤ 100000) {B0 b : Nat} {w0 : World} (hat : AtD B0 w0 b o n t k) :
  Gives Tryz.prog 91 #[.pointer (some ⟨b, 0, none⟩)] (XL (fun i => pkD o n t k i)) (fun c => c < B0) (ctD o k) w0 := by
 intro m l J Jx W hm hW hY h0
 have HL := Lib.hid (fun (i : Nat) (hi : i < ctD o k) (w : World) (h : AtD B0 w b o n t k) => ChL.layS_all 40 (by omega) o n t k hv hcnt hsz hct i hi w b 0 h.at)
 have HA := Lib.hid (show ∀ w, Keep (fun c => c < B0) W w → AtD B0 w b o n t k from fun w h => (hat.keep (Keep.of_ext hW)).keep h)
 obtain ⟨c4, hb⟩ := (HA.out W (Keep.refl _ _)).count
 obtain ⟨N, hN⟩ : ∃ N, ctD o k = N := ⟨_, rfl⟩
 rw [hN] at HL hY c4 hct ⊢
 clear hN hv hcnt hsz hat hW
 have HY := Lib.hid hY
 clear hY
 refine callsIn_of_wp Tryz.func91 rfl trivial ?_ rfl
 simp only [Tryz.ntmps91, List.size_toArray, List.length_cons, List.length_nil, Nat.reduceAdd, Nat.reduceSub, Array.replicate_succ, Array.replicate_zero, List.push_toArray, List.append_toArray, List.nil_append, List.cons_append]
 gi_wp2_with fail
 gi_loopw [6] (fun i wr => ∃ (j : Nat) (A : World), j ≤ N ∧ i = .int .i64 j ∧ J j A ∧ Ext A wr ∧ Keep (fun c => c < B0) W wr) (fun i _ => N - (intOf i).toNat)
 case atStart => exact ⟨0, W, Nat.zero_le _, rfl, h0, Ext.refl _, Keep.refl _ _⟩
 case round =>
  obtain ⟨j, A, hj, rfl, hJ, hA, hK⟩ := hrel
  by_cases hjN : j < N
  ·have hLj := HL.out j hjN wr (HA.out wr hK)
   have HLj := Lib.hid hLj
   clear hLj c4 hb
   gi_wp2_with fail
   refine ⟨trivial, (callsIn_wide.2 HLj.out).mono ?_⟩
   rintro e1 w2 ⟨a, cap, f, rfl, hc, hs, hf, hb2⟩
   have hA2 : Ext A w2 := hA.trans hb2
   obtain ⟨fn, tmps, assign, body, hy, hR⟩ := HY.out j _ A w2 hjN hJ hA2 ⟨a, cap, f, rfl, hc, hs, hf.mono hA.size⟩
   have HR := Lib.hid hR
   have HK2 := Lib.hid (hK.trans (Keep.of_ext hb2))
   clear hc hs hf hb2 hR
   gi_wp2_with fail
   refine HR.out.mono ?_
   rintro e W3 (⟨rfl, hJ3, hk3⟩ | ⟨rfl, hJx3⟩)
   ·have HK3 := Lib.hid (HK2.out.trans hk3)
    have HJ3 := Lib.hid hJ3
    clear hJ3 hk3 hy hJ hA hA2
    gi_wp2_with fail
    go_roundw
    case rel => exact ⟨j + 1, W3, by omega, by go_num, HJ3.out, Ext.refl _, HK3.out⟩
    case measure => simp [intOf]; omega
   ·have HJ3 := Lib.hid hJx3
    clear hJx3 hy hJ hA hA2
    gi_wp2_with fail
    refine bodyPost_ret (results_none rfl _ _ _) rfl ?_
    exact ⟨⟨_, rfl⟩, .inr ⟨_, HJ3.out, Ext.refl _⟩⟩
  ·obtain rfl : j = N := by omega
   gi_wp2_with fail
   go_end0
   exact ⟨⟨_, rfl⟩, .inl ⟨A, hJ, hA⟩⟩
end Go.Proofs.YtjcaiecapapceaaGreat.It
namespace Go.Proofs.YtjcaiecapapceaaGreat.It
open Go.RowKit Go.Shelf P1 LayL LayV LayM LayN LayC Cnt CntC Wid ChP Tr ChT ChC Rf
attribute [local go_sem] Oper.semAt_some
def LLOut (w : World) (ls : List Ls.Lay) (ok : Bool) (e : Ending) (w' : World) : Prop := ∃ (a : Option Addr) (cap : Nat) (fs : List Nat), e = .returned (.tuple #[.slice a ls.length cap, .bool ok]) ∧ ls.length ≤ cap ∧ Ls.LLSub w' a ls fs ∧ Fresh w.heap.size w' fs ∧ Below w.heap.size w w'
def LLNew (w : World) (ls : List Ls.Lay) (e : Ending) (w' : World) : Prop := ∃ (a : Option Addr) (cap : Nat) (fs : List Nat), e = .returned (.slice a ls.length cap) ∧ ls.length ≤ cap ∧ Ls.LLSub w' a ls fs ∧ Fresh w.heap.size w' fs ∧ Below w.heap.size w w'
theorem infoE : (Tryz.prog.info? 28).map (fun i => (i.zero, i.size, i.bytes)) = some (some (.slice none 0 0), 1, 24) := by kernel_rfl
def upto (L : Nat → Ls.Lay) (j : Nat) : List Ls.Lay := (List.range j).map L
theorem upto_succ (L : Nat → Ls.Lay) (j : Nat) : upto L (j + 1) = upto L j ++ [L j] := by simp [upto, List.range_succ]
theorem upto_len (L : Nat → Ls.Lay) (j : Nat) : (upto L j).length = j := by simp [upto]
theorem appendSeq {gf : Nat} {lb : Array Value} (eg : Enters Tryz.prog gf) {L : Nat → Ls.Lay} {B0 N : Nat} (hN : N ≤ 1000000) (w : World) (hB0 : B0 ≤ w.heap.size) (hG : ∀ W, Ext w W → Gives Tryz.prog gf lb (XL L) (fun c => c < B0) N W) :
  Calls Tryz.prog 93 #[.slice none 0 0, .func (.func gf) #[] lb] w (LLNew w (upto L N)) := by
 refine calls_marks Tryz.func93 rfl ?_
 simp only [Tryz.ntmps93, List.size_toArray, List.length_cons, List.length_nil, Nat.reduceAdd, Nat.reduceSub, Array.replicate_succ, Array.replicate_zero, List.push_toArray, List.append_toArray, List.nil_append, List.cons_append]
 obtain ⟨i0, hi, hz0, hz1', hz2⟩ := info_parts infoE
 go_wp2_with fail
 obtain ⟨W0, hW0⟩ : ∃ W0, w.alloc (.cells #[.slice none 0 0] 32) = W0 := ⟨_, rfl⟩
 have hz : W0.heap.size = w.heap.size + 1 := by rw [← hW0]; simp
 have hE0 : Ext w W0 := by rw [← hW0]; exact (Ext.refl w).alloc _
 have hX0 : Boxed W0 w.heap.size 32 (.slice none 0 0) := by rw [← hW0]; exact Boxed.new _ _ _
 try rw [hW0]
 clear hW0
 refine wpIn_wide.1 (rangeFunc_gives (n := 7) (gf := gf) (lb := lb) rfl eg (by omega) (hG W0 hE0) (fun c hc => by omega) (fun k args A W hX => by obtain ⟨a, cap, f, rfl, _⟩ := hX; rfl)
  (fun j A => (∃ v f, Boxed A w.heap.size 32 v ∧ Ls.Acc A 28 (w.heap.size + 1) v (upto L j) f) ∧ Below w.heap.size w A)
  (fun _ _ => False)
  (fun j A B ⟨⟨v, f, h1, h2⟩, h3⟩ hA hT => ⟨⟨v, f, hT.boxed h1, hT.acc h2⟩, h3.trans (hT.below (by omega))⟩)
  (fun A B ⟨⟨v, f, h1, h2⟩, h3⟩ hE => ⟨⟨v, f, (hE.block _ h1.lt).trans h1, h2.ext hE⟩, h3.trans (hE.mono h3.size)⟩)
  (fun _ _ _ h => h.elim)
  ⟨⟨.slice none 0 0, [], hX0, Ls.Acc.start _ _ _ (by omega)⟩, hE0⟩
  (fun args => { tmps := #[.slice none 0 0, .func (.func gf) #[] lb, .pointer (some ⟨w.heap.size, 0, none⟩), undef, .slice none 0 0, args.getD 0 undef, .func (.func gf) #[] lb, args.getD 0 undef, undef, undef, undef, undef, undef], defers := [] }) ?assign ?body ?done ?stop)
 case assign =>
  rintro l j args A W K ⟨a, cap, f, rfl, _⟩ hK
  gi_wp2_with fail
  exact hK
 case body =>
  rintro l j args A Wp W hj hz1 ⟨⟨v, f, h1, h2⟩, h3⟩ hE ⟨a, cap, f1, rfl, hc, hs, hf⟩ hT
  have hB : Boxed W w.heap.size 32 v := hT.boxed ((hE.block _ h1.lt).trans h1)
  have hA : Ls.Acc W 28 (w.heap.size + 1) v (upto L j) f := hT.acc (h2.ext hE)
  have hs' := hT.lay hs
  have hf' := hT.layFresh hs hf
  have hAz := h1.lt
  have hbW : Below w.heap.size w W := (h3.trans (hE.mono h3.size)).trans (hT.below (by omega))
  have hzW : A.heap.size ≤ W.heap.size := by rw [hT.size]; exact hE.size
  have hu := upto_len L j
  have hx : (W.alloc (.cells #[.slice a (L j).length cap] 28)).cell? ⟨W.heap.size, 0, none⟩ = some (.slice a (L j).length cap) := by rw [World.cell?_alloc_new]; rfl
  have hEW : Ext W (W.alloc (.cells #[.slice a (L j).length cap] 28)) := (Ext.refl W).alloc _
  obtain ⟨v', w', hrun, hA', hbel, hgr, b, cap', rfl, hbb⟩ := Ls.Acc.append (P := Tryz.prog) (t := 32) (ty := 32) (c := 1) Tryz.underlying32 hi hz0 hz1' hz2 (by rfl) (hA.ext hEW) hx hc (hs'.below hs'.lt hEW) ((hf'.mono (by omega)).below (fun q hq => hs'.lt q hq) hEW)
   (fun q hq hm => by have h4 := (hf'.2 q hq).1; have h5 := h2.lt q hm; omega) (fun q hq hm => by have h4 := (hf'.2 q hm).1; have h5 := (h2.own_lt q hq).2; omega) (by omega)
  obtain ⟨g1, g2, g3, g4, g5⟩ := boxed_append hB hA rfl hA' hgr
  have hc1 := hB.cell
  have hc2 := g1.cell
  have hc3 := g1.frozen
  gi_wp2_with (gi_at_builtin; refine appendIn rfl _ _ _ rfl (sv := v) (xv := .slice (some ⟨W.heap.size, 0, none⟩) 1 1) rfl rfl hrun ?_)
  rw [hu] at g2 g3 g4 g5
  exact ⟨g4, Keep.of_below g5 (fun c hc => by omega), ⟨_, _, g2, by rw [upto_succ]; exact g3⟩, hbW.trans g5⟩
 case done =>
  rintro D A W hD ⟨⟨v, f, h1, h2⟩, h3⟩ ⟨B, hE, hT⟩ hK
  have hB : Boxed W w.heap.size 32 v := hT.boxed ((hE.block _ h1.lt).trans h1)
  have hA : Ls.Acc W 28 (w.heap.size + 1) v (upto L N) f := hT.acc (h2.ext hE)
  have hbW : Below w.heap.size w W := (h3.trans (hE.mono h3.size)).trans (hT.below (by omega))
  have hc1 := hB.cell
  obtain ⟨a, cap, fs, rfl, hcap, _, hsub, hfr, _, _⟩ := hA.slice
  go_wp2_with fail
  have hDl := (Array.getElem?_eq_some_iff.1 hK).1
  have hT2 : Turn w.heap.size W (W.putObj D (.deferred none)) := turn_put _ hK rfl (by omega)
  exact leave_mark hK (results_tmp rfl _ _ _) ⟨a, cap, fs, rfl, hcap, hT2.llsub hsub, (hT2.llfresh hsub hfr).mono (by omega), hbW.trans (hT2.below (Nat.le_refl _))⟩
 case stop =>
  rintro D c A W _ h _ _
  exact h.elim
theorem collect {gf : Nat} {lb : Array Value} (eg : Enters Tryz.prog gf) {L : Nat → Ls.Lay} {B0 N : Nat} (hN : N ≤ 1000000) (w : World) (hB0 : B0 ≤ w.heap.size) (hG : ∀ W, Ext w W → Gives Tryz.prog gf lb (XL L) (fun c => c < B0) N W) :
  Calls Tryz.prog 46 #[.func (.func gf) #[] lb] w (LLNew w (upto L N)) := by
 have H := Lib.hid (appendSeq eg hN w hB0 hG)
 clear hG
 go_enter Tryz.func46, Tryz.ntmps46
 go_wp2_with fail
 refine H.out.mono ?_
 rintro e1 w1 ⟨a, cap, fs, rfl, hc, hs, hf, hb⟩
 have H1 := Lib.hid (show LLNew w (upto L N) (.returned (.slice a (upto L N).length cap)) w1 from ⟨a, cap, fs, rfl, hc, hs, hf, hb⟩)
 clear hc hs hf hb
 go_wp2_with fail
 go_ret
 exact H1.out
def toldD (o n : Int) (t : ByteArray) (k : F) : Bool := manyD o n t k && decide (ctD o k ≤ 300)
def SeqOut (w : World) (o n : Int) (t : ByteArray) (k : F) (e : Ending) (w' : World) : Prop :=
 (toldD o n t k = false ∧ e = .returned (.tuple #[.nilFunc, .bool false]) ∧ Below w.heap.size w w') ∨
 (toldD o n t k = true ∧ ∃ b, e = .returned (.tuple #[.func (.func 91) #[] #[.pointer (some ⟨b, 0, none⟩)], .bool true]) ∧ AtD w'.heap.size w' b o n t k ∧ Below w.heap.size w w')
section
variable (w : World) (o n : Int) (t : ByteArray) (k : F) (a : Option Addr) (cap : Nat) (fs : List Nat)
theorem layoutsInOrder (hs : SubAt w a k fs) (hfs : ∀ c ∈ fs, c < w.heap.size ∧ ∀ o, w.frozen? ⟨c, o, none⟩ = false) (hc : k.len ≤ cap) (hsz : t.size + k.size ≤ 2000000) (hft : k.Fits) (ht : t.size ≤ maxLen) :
  Calls Tryz.prog 45 #[.agg #[.int .i64 o, .int .i64 n, .string t, .slice a k.len cap]] w (SeqOut w o n t k) := by
 have B1 := Lib.hid (show ∀ ob, Ext w (w.alloc ob) from fun ob => (Ext.refl w).alloc _)
 have HA := Lib.hid (show ∀ (W : World) ob, Below w.heap.size w W → Below w.heap.size w (W.alloc ob) from fun W ob h => h.alloc h.size ob)
 cases hm : manyD o n t k with
 | false =>
   have hn := fun (w1 : World) (hw1 : Ext w w1) => choicesN w1 o n t k a cap fs (hs.below (fun c hc => (hfs c hc).1) hw1) (fun c hc => ⟨Nat.lt_of_lt_of_le (hfs c hc).1 hw1.size, fun x => (hw1.frozen (hfs c hc).1).trans ((hfs c hc).2 x)⟩) hc (by omega) hft ht hm
   have HN := Lib.hid hn
   have hto := Lib.hid (show toldD o n t k = false by simp [toldD, hm])
   clear hn hm hs hfs hft
   go_enter Tryz.func45, Tryz.ntmps45
   go_wp2_with fail
   refine (HN.out _ (B1.out _)).mono ?_
   rintro e2 w2 ⟨ox, nx, tx, ax, lx, cx, xx, yx, ax', lx', cx', rfl, hb2⟩
   have HB := Lib.hid ((B1.out _).trans hb2)
   clear hb2
   go_wp2_with fail
   go_ret2
   exact .inl ⟨hto.out, rfl, HA.out _ _ HB.out⟩
 | true =>
   have hn := fun (w1 : World) (hw1 : Ext w w1) => choicesY w1 o n t k a cap fs (hs.below (fun c hc => (hfs c hc).1) hw1) (fun c hc => ⟨Nat.lt_of_lt_of_le (hfs c hc).1 hw1.size, fun x => (hw1.frozen (hfs c hc).1).trans ((hfs c hc).2 x)⟩) hc (by omega) hft ht hm
   have HN := Lib.hid hn
   have hdoc := fun (W : World) (hW : Ext w W) => (show DocIn (fun _ => True) W k a cap from ⟨hc, fs, hs.below (fun c hc => (hfs c hc).1) hW, fun c hc => ⟨trivial, Nat.lt_of_lt_of_le (hfs c hc).1 hW.size, fun x => (hW.frozen (hfs c hc).1).trans ((hfs c hc).2 x)⟩⟩)
   have HD := Lib.hid hdoc
   obtain ⟨N, hN⟩ : ∃ N, ctD o k = N := ⟨_, rfl⟩
   have HNN := Lib.hid hN
   by_cases h300 : N ≤ 300
   ·have hto := Lib.hid (show toldD o n t k = true by simp [toldD, hm, hN, h300])
    have h3 : ¬ ((300 : Int) < (N : Int)) := by omega
    clear hn hm hs hfs hft hdoc hN
    go_enter Tryz.func45, Tryz.ntmps45
    go_wp2_with fail
    refine (HN.out _ (B1.out _)).mono ?_
    rintro e2 w2 ⟨a', c', rfl, ht2, hb2⟩
    rw [HNN.out]
    have hBw : Ext w w2 := (B1.out _).trans hb2
    obtain ⟨hd, hhd⟩ : ∃ hd, (!noD o k) = hd := ⟨_, rfl⟩
    rw [hhd]
    have hBV : Ext w (w2.alloc (.cells #[.int .i64 o, .int .i64 n, .string t, .slice a k.len cap, .int .i64 (N : Int), .bool hd, .slice a' k.len c'] 120)) := hBw.alloc _
    have htV : TreeSub (fun _ => True) (w2.alloc (.cells #[.int .i64 o, .int .i64 n, .string t, .slice a k.len cap, .int .i64 (N : Int), .bool hd, .slice a' k.len c'] 120)) a' k := ht2.stay (Stay.below ((Below.refl _ _).alloc (Nat.le_refl _) _))
    have hat : ChL.At (w2.alloc (.cells #[.int .i64 o, .int .i64 n, .string t, .slice a k.len cap, .int .i64 (N : Int), .bool hd, .slice a' k.len c'] 120)) w2.heap.size 0 o n t k := ⟨by simp, a, cap, a', c', ⟨by rw [World.cell?_alloc_new]; rfl, by rw [World.cell?_alloc_new]; rfl, by rw [World.cell?_alloc_new]; rfl, by rw [World.cell?_alloc_new]; rfl, by rw [World.cell?_alloc_new, HNN.out]; rfl, by rw [World.cell?_alloc_new, hhd]; rfl, by rw [World.cell?_alloc_new]; rfl⟩, HD.out _ hBV, htV⟩
    have HAT := Lib.hid (And.intro (AtD.of hat) hBV)
    clear ht2 hb2 hBw hhd hBV htV hat
    go_wp2_with fail
    go_ret2
    exact .inr ⟨hto.out, w2.heap.size, rfl, HAT.out.1, HAT.out.2⟩
   ·have hto := Lib.hid (show toldD o n t k = false by simp [toldD, hm, hN]; omega)
    have h3 : (300 : Int) < (N : Int) := by omega
    clear hn hm hs hfs hft hdoc hN
    go_enter Tryz.func45, Tryz.ntmps45
    go_wp2_with fail
    refine (HN.out _ (B1.out _)).mono ?_
    rintro e2 w2 ⟨a', c', rfl, ht2, hb2⟩
    rw [HNN.out]
    have HB := Lib.hid ((B1.out _).trans hb2)
    clear hb2 ht2
    go_wp2_with fail
    go_ret2
    exact .inl ⟨hto.out, rfl, HA.out _ _ HB.out⟩
theorem told_parts {o n : Int} {t : ByteArray} {k : F} (h : toldD o n t k = true) : okD 40 o n t k = true ∧ 1 + k.cnt ≤ 80 ∧ ctD o k ≤ 300 ∧ manyD o n t k = true := by
 simp only [toldD, Bool.and_eq_true, decide_eq_true_eq] at h
 have := ChO.valid_parts h.1
 exact ⟨this.1, this.2.1, h.2, h.1⟩
def laysD (o n : Int) (t : ByteArray) (k : F) : List Ls.Lay := if toldD o n t k then upto (fun i => pkD o n t k i) (ctD o k) else []
theorem lays_no {o n : Int} {t : ByteArray} {k : F} (h : toldD o n t k = false) : laysD o n t k = [] := by simp [laysD, h]
theorem lays_yes {o n : Int} {t : ByteArray} {k : F} (h : toldD o n t k = true) : laysD o n t k = upto (fun i => pkD o n t k i) (ctD o k) := by simp [laysD, h]
theorem implLayoutsOf (hs : SubAt w a k fs) (hfs : ∀ c ∈ fs, c < w.heap.size ∧ ∀ o, w.frozen? ⟨c, o, none⟩ = false) (hc : k.len ≤ cap) (hsz : t.size + k.size ≤ 2000000) (hft : k.Fits) (ht : t.size ≤ maxLen) :
  Calls Tryz.prog 15 #[.agg #[.int .i64 o, .int .i64 n, .string t, .slice a k.len cap]] w (LLOut w (laysD o n t k) (toldD o n t k)) := by
 have B1 := Lib.hid (show ∀ ob, Ext w (w.alloc ob) from fun ob => (Ext.refl w).alloc _)
 have HS := Lib.hid (fun (w1 : World) (hw1 : Ext w w1) => layoutsInOrder w1 o n t k a cap fs (hs.below (fun c hc => (hfs c hc).1) hw1) (fun c hc => ⟨Nat.lt_of_lt_of_le (hfs c hc).1 hw1.size, fun x => (hw1.frozen (hfs c hc).1).trans ((hfs c hc).2 x)⟩) hc hsz hft ht)
 clear hs hfs
 go_enter Tryz.func15, Tryz.ntmps15
 go_wp2_with fail
 refine (HS.out _ (B1.out _)).mono ?_
 rintro e1 w1 (⟨hto, rfl, hb⟩ | ⟨hto, b, rfl, hat, hb⟩)
 ·have H1 := Lib.hid (And.intro hto ((B1.out _).trans hb))
  clear hto hb
  go_wp2_with fail
  go_ret2
  rw [H1.out.1, lays_no H1.out.1]
  exact ⟨none, 0, [], rfl, by simp, Ls.LLSub.nil _ _, Fresh.nil _ _, H1.out.2⟩
 ·obtain ⟨p1, p2, p3, p4⟩ := told_parts hto
  have hG := fun (W : World) (hW : Ext w1 W) => gives p1 p2 hsz (by omega) (hat.keep (Keep.of_ext hW))
  have HC := Lib.hid (collect (enters_of Tryz.func91 (by kernel_rfl) rfl) (L := fun i => pkD o n t k i) (B0 := w1.heap.size) (N := ctD o k) (by omega) w1 (Nat.le_refl _) hG)
  have H1 := Lib.hid (And.intro hto ((B1.out _).trans hb))
  clear hto hb hat hG p1 p2 p3 p4
  go_wp2_with fail
  refine HC.out.mono ?_
  rintro e2 w2 ⟨a2, c2, f2, rfl, hc2, hs2, hf2, hb2⟩
  have H2 := Lib.hid (And.intro hc2 (And.intro hs2 (And.intro (hf2.mono H1.out.2.size) (H1.out.2.trans hb2))))
  clear hc2 hs2 hf2 hb2
  go_wp2_with fail
  go_ret2
  rw [H1.out.1, lays_yes H1.out.1]
  exact ⟨a2, c2, f2, rfl, H2.out.1, H2.out.2.1, H2.out.2.2.1, H2.out.2.2.2⟩
end
end Go.Proofs.YtjcaiecapapceaaGreat.It
