import Derived.Test.YtjcaiecapapceaaCpX
import Derived.Test.YtjcaiecapapceaaNfA
import Derived.Laws.EntriesVeiled
import Derived.Shelf.Abstract
import Derived.Deep.RegionWith
/-
 What impl.changeKids comes to, whatever function it is given: each of the Kids changed, in new memory.
-/
set_option linter.unusedVariables false
set_option linter.unusedSimpArgs false
set_option maxRecDepth 100000
set_option maxHeartbeats 3200000
namespace Go.Proofs.Ytjcaiecapapceaa.Nf
open Go.RowKit P1 Copy
def NewD (w : World) (d : D) (e : Ending) (w' : World) : Prop := NewOut w d.1 d.2.1 d.2.2.1 d.2.2.2 e w'
structure KidFn (g : Nat) (lb : Array Value) (φ : Rule) (k : F) (w : World) : Prop where
 enter : ∀ (args : Array Value) (W : World), (callFunc g args).run Try.prog W = .ok (.enter g args) W
 call : ∀ (W : World) (p : F) (o n : Int) (t : ByteArray) (q r : F) (a : Option Addr) (cap : Nat) (fs : List Nat), k = p.app (.cons o n t q r) → Ext w W → SubAt W a q fs → (∀ c ∈ fs, c < W.heap.size) → q.len ≤ cap →
  Calls Try.prog g (#[.agg #[.int .i64 o, .int .i64 n, .string t, .slice a q.len cap]] ++ lb) W (NewD W (φ o n t q))
def ChMid (w : World) (φ : Rule) (k : F) (j : Nat) (v : Value) (wr : World) : Prop := ∃ (p g : F) (fs : List Nat), k = p.app g ∧ p.len = j ∧ Grow wr 25 (w.heap.size + 2) v (mapL φ p) fs ∧ Below w.heap.size w wr
def ChBox (w : World) (o n : Int) (t : ByteArray) (u : Value) (wr : World) : Prop := wr.cell? ⟨w.heap.size, 0, none⟩ = some (.int .i64 o) ∧ wr.cell? ⟨w.heap.size, 1, none⟩ = some (.int .i64 n) ∧ wr.cell? ⟨w.heap.size, 2, none⟩ = some (.string t) ∧
 wr.cell? ⟨w.heap.size, 3, none⟩ = some u ∧ wr.frozen? ⟨w.heap.size, 3, none⟩ = false ∧ wr.there (w.heap.size + 1) 0 4 ∧ w.heap.size + 2 ≤ wr.heap.size
theorem ChBox.below {w : World} {o n : Int} {t : ByteArray} {u : Value} {wr w' : World} (h : ChBox w o n t u wr) (k : Below (w.heap.size + 2) wr w') : ChBox w o n t u w' := by
 obtain ⟨h1, h2, h3, h3', hz, h4, h5⟩ := h
 refine ⟨?_, ?_, ?_, ?_, ?_, there_below h4 (by omega) k, Nat.le_trans h5 k.size⟩
 ·rw [k.cell (p := ⟨_, _, _⟩) (by simp)]; exact h1
 ·rw [k.cell (p := ⟨_, _, _⟩) (by simp)]; exact h2
 ·rw [k.cell (p := ⟨_, _, _⟩) (by simp)]; exact h3
 ·rw [k.cell (p := ⟨_, _, _⟩) (by simp)]; exact h3'
 ·rw [k.frozen (p := ⟨_, _, _⟩) (by simp)]; exact hz
theorem end_ch {w wr w4 : World} {T : TypeId} {o n : Int} {t : ByteArray} {v : Value} {k : F} {fs : List Nat} {a : Option Addr} {cap : Nat} (hG : Grow wr T (w.heap.size + 2) v k fs) (hs : SubAt wr a k fs) (hc : k.len ≤ cap) (hbw : Below w.heap.size w wr)
  (ht : Touch w.heap.size (w.heap.size + 2) wr w4) : NewOut w o n t k (.returned (.agg #[.int .i64 o, .int .i64 n, .string t, .slice a k.len cap])) w4 := by
 have hlo : ∀ c ∈ fs, w.heap.size + 2 ≤ c := fun c hc => (hG.fresh.2 c hc).1
 exact ⟨a, cap, fs, rfl, hc, ht.sub hs (fun c hc => Or.inr (hlo c hc)), ht.fresh (hG.fresh.mono (by omega)) (fun c hc => Or.inr (hlo c hc)), ht.below hbw (Nat.le_refl _)⟩
theorem changeKids (w : World) (o n : Int) (t : ByteArray) (k : F) (φ : Rule) (g0 : Nat) (lb : Array Value) (hk : KidFn g0 lb φ k w) (a : Option Addr) (cap : Nat) (fs : List Nat) (hs : SubAt w a k fs) (hfs : ∀ c ∈ fs, c < w.heap.size) (hc : k.len ≤ cap) (hsz : k.len ≤ 4194304) :
  Calls Try.prog 108 #[.agg #[.int .i64 o, .int .i64 n, .string t, .slice a k.len cap], .func (.func g0) #[] lb] w (NewOut w o n t (mapL φ k)) := by
 obtain ⟨i0, hi, hz0, hz1, hz2⟩ := info_parts To.info
 obtain ⟨L, hL⟩ : ∃ L, k.len = L := ⟨_, rfl⟩
 rw [hL] at hc hsz ⊢
 have HL := Lib.hid hL
 have HML := Lib.hid (show (mapL φ k).len = L by rw [len_mapL, hL])
 clear hL
 have hsub : 0 < L → ∃ b off f', a = some ⟨b, off, none⟩ ∧ RowAt w k b off f' ∧ b < w.heap.size ∧ ∀ c ∈ f', c < w.heap.size := by
  intro h0
  rcases hs with ⟨rfl, rfl⟩ | ⟨b, off, f', rfl, hnil, rfl, hrow⟩
  ·have := HL.out; simp only [F.len] at this; omega
  ·exact ⟨b, off, f', rfl, hrow, hfs b (by simp), fun c hc => hfs c (by simp [hc])⟩
 have HSUB := Lib.hid hsub
 have he := hk.enter
 have IH := Lib.hid hk
 have HI := Lib.hid (And.intro hi (And.intro hz0 (And.intro hz1 hz2)))
 have hbox : ∀ (C2 : Array Value), C2.size = 4 → ChBox w o n t (.slice a L cap) ((w.alloc (.cells #[.int .i64 o, .int .i64 n, .string t, .slice a L cap] 25)).alloc (.cells C2 25)) := by
  intro C2 h2
  refine ⟨?_, ?_, ?_, ?_, ?_, ?_, by simp⟩
  ·rw [World.cell?_alloc_lt _ _ _ (by simp), World.cell?_alloc_new]; rfl
  ·rw [World.cell?_alloc_lt _ _ _ (by simp), World.cell?_alloc_new]; rfl
  ·rw [World.cell?_alloc_lt _ _ _ (by simp), World.cell?_alloc_new]; rfl
  ·rw [World.cell?_alloc_lt _ _ _ (by simp), World.cell?_alloc_new]; rfl
  ·rw [((Below.refl _ _).alloc (Nat.le_refl _) _).frozen (p := ⟨_, _, _⟩) (by simp), World.frozen?_alloc_new]
  ·have := there_new (w.alloc (.cells #[.int .i64 o, .int .i64 n, .string t, .slice a L cap] 25)) C2 25 4 (by omega)
   simpa using this
 have HBOX := Lib.hid hbox
 clear hsub hs hfs hk hi hz0 hz1 hz2 hbox
 go_enter Try.func108, Try.ntmps108
 go_wp2_with fail
 go_loopw [11, 5] (fun i v wr => ∃ j : Nat, j ≤ L ∧ i = .int .i64 j ∧ ChMid w φ k j v wr ∧ ChBox w o n t (.slice a L cap) wr) (fun i _ _ => L - (intOf i).toNat)
 case atStart => exact ⟨0, by omega, rfl, ⟨.nil, k, [], rfl, rfl, Grow.start _ _ _ (by simp), ((Below.refl _ _).alloc (Nat.le_refl _) _).alloc (by simp) _⟩, HBOX.out _ rfl⟩
 case round =>
  obtain ⟨j, hj, rfl, ⟨p, g, fs1, h3, h5, hG, hbw⟩, hbx⟩ := hrel
  have h7 : g.len = L - j := by have := HL.out; rw [h3, F.len_app, h5] at this; omega
  cases g with
  | nil =>
    have hjL : L ≤ j := by simp only [F.len] at h7; omega
    rw [F.app_nil] at h3
    subst h3
    obtain ⟨a', cap', rfl, hcap', hsub', hcm⟩ := hG.slice
    rw [HML.out] at hcap'
    have hlen := HML.out
    obtain ⟨x0, x1, x2, x3, xz, hth, hsz2⟩ := hbx
    obtain ⟨⟨u0, u1, u2, u3, y0, y1, y2, y3⟩, z0, z1, z2, z3⟩ := there_at hth
    rw [hlen]
    have H := Lib.hid (And.intro hG (And.intro hbw (And.intro hsub' (And.intro hcap' h5))))
    have hl1 : w.heap.size + 1 < wr.heap.size := by omega
    have hl0 : w.heap.size < wr.heap.size := by omega
    clear hG hbw hsub' hth h7 hcm hcap' h5 hlen
    go_wp2_with fail
    refine bodyPost_ret (v := .agg #[.int .i64 o, .int .i64 n, .string t, .slice a' L cap']) (by simp [results, Try.results108, go_sem, y0, y1, y2, y3, hl1]) rfl ?_
    obtain ⟨hG, hbw, hsub', hcap', h5⟩ := H.out
    rw [← HML.out]
    refine end_ch hG hsub' (by rw [HML.out]; exact hcap') hbw ?_
    repeat (first | exact Touch.refl _ _ _ | refine Touch.setCell ?_ (by simp) (by simp) _)
  | cons o1 n1 t1 k1 r1 =>
    have hjL : j < L := by simp only [F.len] at h7; omega
    obtain ⟨b, off, f', rfl, hrow, hbB, hfB⟩ := HSUB.out (by omega)
    rw [h3] at hrow
    obtain ⟨a1, cap1, f1, c0, c1, c2, c3, hc1', hsub1, hin⟩ := row_at hrow
    rw [h5] at c0 c1 c2 c3
    rw [← hbw.cell (p := ⟨_, _, _⟩) hbB] at c0 c1 c2 c3
    have hd := fun (ob : Obj) => IH.out.call (wr.alloc ob) p o1 n1 t1 k1 r1 a1 cap1 f1 h3 ((show Ext w wr from hbw).alloc _) (hsub1.below (fun c hc => hfB c (hin c hc)) (hbw.trans ((Below.refl _ _).alloc hbw.size _))) (fun c hc => by have := Nat.lt_of_lt_of_le (hfB c (hin c hc)) hbw.size; simp; omega) hc1'
    have HD := Lib.hid hd
    have H := Lib.hid (And.intro h3 (And.intro h5 (And.intro hG (And.intro hbw hbx))))
    clear hd h3 h5 h7 hbw hrow hG hbx
    go_wp2_with (first
     | (go_at_fn g0; refine (HD.out _).mono ?_; rintro e1 w1 ⟨a2, cap2, f2, rfl, hc2, hs2, hfr2, hb2⟩; obtain ⟨⟨o2, n2, t2, k2⟩, hφ⟩ : ∃ d : D, φ o1 n1 t1 k1 = d := ⟨_, rfl⟩; rw [hφ] at hc2 hs2 ⊢; simp only at hc2 hs2 ⊢; have hstep := fun (ob : Obj) => copy_mid (w1 := w1) (ob := ob) H.out.2.2.1 hb2; have HF := Lib.hid hφ; have H2 := Lib.hid (And.intro hs2 (And.intro hfr2 (And.intro hb2 hc2))); clear hs2 hfr2 hb2 c0 c1 c2 c3 hφ; have HST := Lib.hid hstep; clear hstep)
     | (at_builtin; refine append_doc rfl (.tmp 15) (.tmp 19) 23 rfl Try.underlying23 HI.out.1 HI.out.2.1 HI.out.2.2.1 HI.out.2.2.2 rfl rfl (HST.out _).1 (d := w1.heap.size) (c := 1) rfl (cell_new w1 _ _ 0 _ rfl) (cell_new w1 _ _ 1 _ rfl) (cell_new w1 _ _ 2 _ rfl) (cell_new w1 _ _ 3 _ rfl) H2.out.2.2.2 (H2.out.1.below H2.out.2.1.lt ((Below.refl _ _).alloc (Nat.le_refl _) _)) (H2.out.2.1.below H2.out.2.1.lt ((Below.refl _ _).alloc (Nat.le_refl _) _)) (HST.out (.cells #[] 0)).2.1 (HST.out (.cells #[] 0)).2.2.1 (HST.out (.cells #[] 0)).2.2.2.1 (by rw [len_mapL]; have := H.out.2.1; omega) ?_; intro v' w2 fs' hG' hb' hg'))
    go_roundw
    case rel =>
     obtain ⟨h3, h5, hG, hbw, hbx⟩ := H.out
     have hch := copy_end H2.out.2.2.1 hb' hG.2.2.2
     refine ⟨j + 1, by omega, by go_num, ⟨p.app (.cons o1 n1 t1 k1 .nil), r1, fs', by rw [h3, F.app_assoc]; rfl, by rw [F.len_app, h5]; rfl, ?_, hbw.trans (hch.mono (by omega))⟩, hbx.below hch⟩
     rw [mapL_app, show mapL φ (.cons o1 n1 t1 k1 .nil) = .cons o2 n2 t2 k2 .nil by rw [mapL, HF.out]; rfl]
     exact hG'
    case measure => simp [intOf]; omega
end Go.Proofs.Ytjcaiecapapceaa.Nf
namespace Go.Proofs.Ytjcaiecapapceaa.Nf
open Go.RowKit P1 Copy
def RuleOut (lo : Nat) (w : World) (d : D) (e : Ending) (w' : World) : Prop := ∃ (a : Option Addr) (cap : Nat) (fs : List Nat), e = .returned (.agg #[.int .i64 d.1, .int .i64 d.2.1, .string d.2.2.1, .slice a d.2.2.2.len cap]) ∧ d.2.2.2.len ≤ cap ∧ SubAt w' a d.2.2.2 fs ∧ Fresh lo w' fs ∧ Below w.heap.size w w'
structure RuleFn (g : Nat) (lb : Array Value) (rule : Rule) : Prop where
 enter : ∀ (args : Array Value) (W : World), (callFunc g args).run Try.prog W = .ok (.enter g args) W
 keep : ∀ (o n : Int) (t : ByteArray) (k : F), niceD (o, n, t, k) = true → niceD (rule o n t k) = true ∧ (rule o n t k).2.2.2.cnt ≤ k.cnt
 call : ∀ (lo : Nat) (W : World) (o n : Int) (t : ByteArray) (k : F) (a : Option Addr) (cap : Nat) (fs : List Nat), niceD (o, n, t, k) = true → k.cnt ≤ 10000 → SubAt W a k fs → Fresh lo W fs → k.len ≤ cap → lo ≤ W.heap.size →
  Calls Try.prog g (#[.agg #[.int .i64 o, .int .i64 n, .string t, .slice a k.len cap]] ++ lb) W (RuleOut lo W (rule o n t k))
theorem RuleFn.list {g : Nat} {lb : Array Value} {rule : Rule} (R : RuleFn g lb rule) : ∀ f : F, nice f = true → nice (chL rule f) = true ∧ (chL rule f).cnt ≤ f.cnt := by
 intro f
 induction f with
 | nil => intro _; exact ⟨rfl, Nat.le_refl _⟩
 | cons o n t k r ihk ihr =>
   intro h
   simp only [nice, Bool.and_eq_true] at h
   obtain ⟨h1, h2⟩ := ihk h.1.2
   obtain ⟨h3, h4⟩ := ihr h.2
   obtain ⟨h5, h6⟩ := R.keep o n t (chL rule k) (by unfold niceD; simp only [Bool.and_eq_true]; exact ⟨by rw [len_chL]; exact h.1.1, h1⟩)
   refine ⟨?_, ?_⟩
   ·rw [chL, nice_consD, h5, h3]; rfl
   ·rw [chL]; show 1 + (rule o n t (chL rule k)).2.2.2.cnt + (chL rule r).cnt ≤ 1 + k.cnt + r.cnt; omega
theorem RuleFn.doc {g : Nat} {lb : Array Value} {rule : Rule} (R : RuleFn g lb rule) {o n : Int} {t : ByteArray} {k : F} (h : niceD (o, n, t, k) = true) : niceD (o, n, t, chL rule k) = true ∧ (chL rule k).cnt ≤ k.cnt := by
 unfold niceD at h ⊢
 simp only [Bool.and_eq_true] at h ⊢
 obtain ⟨h1, h2⟩ := R.list k h.2
 exact ⟨⟨by rw [len_chL]; exact h.1, h1⟩, h2⟩
def CnS (g : Nat) (lb : Array Value) (rule : Rule) (f : F) : Prop := ∀ (w : World) (o n : Int) (t : ByteArray) (k : F) (p r : F) (a : Option Addr) (cap : Nat) (fs : List Nat), f = p.app (.cons o n t k r) → nice f = true → f.cnt ≤ 10000 → SubAt w a k fs → (∀ c ∈ fs, c < w.heap.size) → k.len ≤ cap →
 Calls Try.prog 74 #[.agg #[.int .i64 o, .int .i64 n, .string t, .slice a k.len cap], .func (.func g) #[] lb] w (NewD w (chD rule o n t k))
theorem end_new2 {w w3 w4 : World} {lo hi B : Nat} {o n : Int} {t : ByteArray} {k : F} {a : Option Addr} {cap : Nat} {fs : List Nat} (hs : SubAt w3 a k fs) (hF : Fresh B w3 fs) (hc : k.len ≤ cap) (hB : hi ≤ B) (hlo : w.heap.size ≤ lo) (hlh : lo ≤ hi) (hb : Below w.heap.size w w3) (ht : Touch lo hi w3 w4) :
  NewOut w o n t k (.returned (.agg #[.int .i64 o, .int .i64 n, .string t, .slice a k.len cap])) w4 :=
 ⟨a, cap, fs, rfl, hc, ht.sub hs (fun c hc => Or.inr (by have := (hF.2 c hc).1; omega)), ht.fresh (hF.mono (by omega)) (fun c hc => Or.inr (by have := (hF.2 c hc).1; omega)), ht.below hb hlo⟩
theorem kid_fn {g : Nat} {lb : Array Value} {rule : Rule} {k : F} (ih : CnS g lb rule k) (hn : nice k = true) (hcnt : k.cnt ≤ 10000) {w : World} {b : Nat} (hb : b < w.heap.size) (hc : w.cell? ⟨b, 0, none⟩ = some (.func (.func g) #[] lb)) :
  KidFn 109 #[.pointer (some ⟨b, 0, none⟩)] (chD rule) k w := by
 refine ⟨enters_of Try.func109 (by kernel_rfl) rfl, fun W p o n t q r a cap fs hk he hs hfs hc' => ?_⟩
 show Calls Try.prog 109 #[.agg #[.int .i64 o, .int .i64 n, .string t, .slice a q.len cap], .pointer (some ⟨b, 0, none⟩)] W _
 have c0 := (he.cell (o := 0) hb).trans hc
 have hbW : b < W.heap.size := Nat.lt_of_lt_of_le hb he.size
 have hd := fun (W1 : World) (h1 : Ext W W1) => ih W1 o n t q p r a cap fs hk hn hcnt (h1.sub hs hfs) (fun c hc => Nat.lt_of_lt_of_le (hfs c hc) h1.size) hc'
 obtain ⟨⟨o2, n2, t2, k2⟩, hφ⟩ : ∃ d : D, chD rule o n t q = d := ⟨_, rfl⟩
 rw [hφ] at hd ⊢
 have HD := Lib.hid hd
 have HE := Lib.hid (show ∀ x y, Ext W ((W.alloc x).alloc y) from fun x y => ((Ext.refl W).alloc x).alloc y)
 obtain ⟨L, hL⟩ : ∃ L, q.len = L := ⟨_, rfl⟩
 rw [hL] at HD ⊢
 clear hd he hs hfs hc' hk ih hn hcnt hb hc hφ
 go_enter Try.func109, Try.ntmps109
 go_wp2_with fail
 refine (HD.out _ (HE.out _ _)).mono ?_
 rintro e1 w1 ⟨a2, cap2, f2, rfl, hc2, hs2, hfr2, hb2⟩
 simp only at hc2 hs2 ⊢
 have hcell : ∀ o, w1.cell? ⟨W.heap.size + 1, o, none⟩ = _ := fun o => hb2.cell (p := ⟨W.heap.size + 1, o, none⟩) (by simp)
 have hfz : ∀ o, w1.frozen? ⟨W.heap.size + 1, o, none⟩ = _ := fun o => hb2.frozen (p := ⟨W.heap.size + 1, o, none⟩) (by simp)
 have hz1 : W.heap.size + 2 ≤ w1.heap.size := by have := hb2.size; simp at this; omega
 have H2 := Lib.hid (And.intro hc2 (And.intro hs2 (And.intro hfr2 hb2)))
 clear hc2 hs2 hfr2 hb2
 go_wp2_with fail
 refine bodyPost_ret (v := .agg #[.int .i64 o2, .int .i64 n2, .string t2, .slice a2 k2.len cap2]) (by simp [results, Try.results109, go_sem, hcell, hfz, show W.heap.size + 1 < w1.heap.size by omega]) rfl ?_
 obtain ⟨hc2, hs2, hfr2, hb2⟩ := H2.out
 refine end_new2 (lo := W.heap.size + 1) (hi := W.heap.size + 2) hs2 (hfr2.mono (lo' := W.heap.size + 2) (by simp)) hc2 (Nat.le_refl _) (by omega) (by omega) (Below.trans (HE.out _ _) (hb2.mono (by simp; omega))) ?_
 repeat (first | exact Touch.refl _ _ _ | refine Touch.setCell ?_ (by simp) (by simp) _)
abbrev Five (b : Nat) (u0 u1 u2 u3 u4 : Value) (w : World) : Prop := w.cell? ⟨b, 0, none⟩ = some u0 ∧ w.cell? ⟨b, 1, none⟩ = some u1 ∧ w.cell? ⟨b, 2, none⟩ = some u2 ∧ w.cell? ⟨b, 3, none⟩ = some u3 ∧ w.cell? ⟨b + 1, 0, none⟩ = some u4
theorem Five.below {b : Nat} {u0 u1 u2 u3 u4 : Value} {W w' : World} (h : Five b u0 u1 u2 u3 u4 W) {B : Nat} (k : Below B W w') (hb : b + 1 < B) : Five b u0 u1 u2 u3 u4 w' := by
 obtain ⟨h0, h1, h2, h3, h4⟩ := h
 exact ⟨(k.cell (p := ⟨_, _, _⟩) (show b < B by omega)).trans h0, (k.cell (p := ⟨_, _, _⟩) (show b < B by omega)).trans h1, (k.cell (p := ⟨_, _, _⟩) (show b < B by omega)).trans h2, (k.cell (p := ⟨_, _, _⟩) (show b < B by omega)).trans h3, (k.cell (p := ⟨_, _, _⟩) hb).trans h4⟩
theorem Five.stored {b : Nat} {u0 u1 u2 u3 u4 : Value} {W w' : World} (h : Five b u0 u1 u2 u3 u4 W) {B : Nat} (k : Below B W w') (hb : b + 2 ≤ B) {v0 v1 v2 v3 : Value} : Five b u0 u1 u2 u3 u4 ((((w'.setCell ⟨b + 1 + 1, 0, none⟩ v0).setCell ⟨b + 1 + 1, 1, none⟩ v1).setCell ⟨b + 1 + 1, 2, none⟩ v2).setCell ⟨b + 1 + 1, 3, none⟩ v3) :=
 h.below (B := b + 2) (((((k.mono hb).setCell (show b + 2 ≤ b + 1 + 1 by omega) _).setCell (show b + 2 ≤ b + 1 + 1 by omega) _).setCell (show b + 2 ≤ b + 1 + 1 by omega) _).setCell (show b + 2 ≤ b + 1 + 1 by omega) _) (by omega)
theorem zbox_below {w w' : World} {b B : Nat} (h : ZBox w b) (k : Below B w w') (hb : b < B) : ZBox w' b := by
 obtain ⟨⟨h0, h1, h2, h3⟩, ⟨z0, z1, z2, z3⟩, hl⟩ := h
 exact ⟨⟨(k.cell (p := ⟨_, _, _⟩) hb).trans h0, (k.cell (p := ⟨_, _, _⟩) hb).trans h1, (k.cell (p := ⟨_, _, _⟩) hb).trans h2, (k.cell (p := ⟨_, _, _⟩) hb).trans h3⟩, ⟨(k.frozen (p := ⟨_, _, _⟩) hb).trans z0, (k.frozen (p := ⟨_, _, _⟩) hb).trans z1, (k.frozen (p := ⟨_, _, _⟩) hb).trans z2, (k.frozen (p := ⟨_, _, _⟩) hb).trans z3⟩, Nat.lt_of_lt_of_le hl k.size⟩
theorem zbox_third (w : World) (x y : Obj) (T : TypeId) : ZBox (((w.alloc x).alloc y).alloc (.cells #[.int .i64 0, .int .i64 0, .string ⟨#[]⟩, .slice none 0 0] T)) (w.heap.size + 1 + 1) := by
 have e : ((w.alloc x).alloc y).heap.size = w.heap.size + 1 + 1 := by simp
 rw [← e]; exact ZBox.alloc _ _
theorem five_new (w : World) (u0 u1 u2 u3 u4 : Value) (T T' : TypeId) (ob : Obj) : Five w.heap.size u0 u1 u2 u3 u4 (((w.alloc (.cells #[u0, u1, u2, u3] T)).alloc (.cells #[u4] T')).alloc ob) := by
 have e : (w.alloc (.cells #[u0, u1, u2, u3] T)).heap.size = w.heap.size + 1 := by simp
 have h : Five w.heap.size u0 u1 u2 u3 u4 ((w.alloc (.cells #[u0, u1, u2, u3] T)).alloc (.cells #[u4] T')) := by
  refine ⟨?_, ?_, ?_, ?_, ?_⟩
  ·rw [World.cell?_alloc_lt _ _ _ (by simp), World.cell?_alloc_new]; rfl
  ·rw [World.cell?_alloc_lt _ _ _ (by simp), World.cell?_alloc_new]; rfl
  ·rw [World.cell?_alloc_lt _ _ _ (by simp), World.cell?_alloc_new]; rfl
  ·rw [World.cell?_alloc_lt _ _ _ (by simp), World.cell?_alloc_new]; rfl
  ·rw [← e, World.cell?_alloc_new]; rfl
 exact h.below ((Below.refl _ _).alloc (Nat.le_refl _) _) (by simp)
theorem cn_step {g : Nat} {lb : Array Value} {rule : Rule} (R : RuleFn g lb rule) (w : World) (o n : Int) (t : ByteArray) (k : F) (ih : CnS g lb rule k) (hn : niceD (o, n, t, k) = true) (hcnt : k.cnt ≤ 10000) (a : Option Addr) (cap : Nat) (fs : List Nat) (hs : SubAt w a k fs) (hfs : ∀ c ∈ fs, c < w.heap.size) (hc : k.len ≤ cap) :
  Calls Try.prog 74 #[.agg #[.int .i64 o, .int .i64 n, .string t, .slice a k.len cap], .func (.func g) #[] lb] w (NewD w (chD rule o n t k)) := by
 have hnk : nice k = true := (nice_kids hn).2
 have hl := F.len_le_cnt k
 have hkid := fun (W : World) (hW : Ext w W) (b : Nat) (hb : b < W.heap.size) (c : W.cell? ⟨b, 0, none⟩ = some (.func (.func g) #[] lb)) => changeKids W o n t k (chD rule) _ _ (kid_fn ih hnk hcnt hb c) a cap fs (hW.sub hs hfs) (fun c hc => Nat.lt_of_lt_of_le (hfs c hc) hW.size) hc (by omega)
 rw [← chL_map] at hkid
 obtain ⟨hn2, hc2⟩ := R.doc hn
 have hrule := fun (lo : Nat) (W : World) (a : Option Addr) (cap : Nat) (fs : List Nat) => R.call lo W o n t (chL rule k) a cap fs hn2 (by omega)
 obtain ⟨⟨o2, n2, t2, k2⟩, hφ⟩ : ∃ d : D, rule o n t (chL rule k) = d := ⟨_, rfl⟩
 show Calls _ _ _ w (NewD w (rule o n t (chL rule k)))
 rw [hφ] at hrule ⊢
 obtain ⟨K, hK⟩ : ∃ K, chL rule k = K := ⟨_, rfl⟩
 rw [hK] at hkid hrule
 obtain ⟨L, hL⟩ : ∃ L, k.len = L := ⟨_, rfl⟩
 rw [hL] at hkid ⊢
 have he := R.enter
 have HK := Lib.hid hkid
 have HR := Lib.hid hrule
 have HE := Lib.hid (show ∀ x y z, Ext w (((w.alloc x).alloc y).alloc z) from fun x y z => (((Ext.refl w).alloc x).alloc y).alloc z)
 clear hkid hrule hφ hK hL hn2 hc2 hn hcnt hs hfs hc hnk hl ih R
 go_enter Try.func74, Try.ntmps74
 go_wp2_with fail
 have HB := Lib.hid (five_new w (.int .i64 o) (.int .i64 n) (.string t) (.slice a L cap) (.func (.func g) #[] lb) 25 69 (.cells #[.int .i64 0, .int .i64 0, .string ⟨#[]⟩, .slice none 0 0] 25))
 have HZ := Lib.hid (zbox_third w (.cells #[.int .i64 o, .int .i64 n, .string t, .slice a L cap] 25) (.cells #[.func (.func g) #[] lb] 69) 25)
 have HD := Lib.hid (HB.out.below (Below.refl (w.heap.size + 3) _).drew (by omega))
 go_region_held3 (fun w' => w'.cell? ⟨w.heap.size, 0, none⟩ = some (.int .i64 o) ∧ w'.cell? ⟨w.heap.size, 1, none⟩ = some (.int .i64 n) ∧ w'.cell? ⟨w.heap.size, 2, none⟩ = some (.string t) ∧ w'.cell? ⟨w.heap.size, 3, none⟩ = some (.slice a L cap) ∧ w'.cell? ⟨w.heap.size + 1, 0, none⟩ = some (.func (.func g) #[] lb))
  (first | (go_keep; done) | with_reducible exact HB.out.stored q4 (by omega) | with_reducible exact (HB.out.below q4 (by omega)) | with_reducible exact (HB.out.below q3 (by omega)) | with_reducible exact HD.out)
  (first
   | (go_at_call 108; refine (HK.out _ (by exact (HE.out _ _ _).drew) (w.heap.size + 1) (by simp) (by exact HD.out.2.2.2.2)).mono ?_; rintro e1 w3 ⟨a3, cap3, f3, rfl, hc3, hs3, hfr3, hb3⟩; have q3 : Below (w.heap.size + 3) _ w3 := (Below.refl _ _).drew.trans (hb3.mono (by simp)))
   | (go_at_fn g; refine (HR.out _ w3 _ _ _ hs3 hfr3 hc3 (by exact hb3.size)).mono ?_; rintro e1 w4 ⟨a4, cap4, f4, rfl, hc4, hs4, hfr4, hb4⟩; have q4 : Below (w.heap.size + 3) _ w4 := q3.trans (hb4.mono (by have := q3.size; simp at this; omega)); obtain ⟨⟨z0, z1, z2, z3⟩, ⟨z4, z5, z6, z7⟩, z8⟩ := zbox_below HZ.out q4 (by omega)))
 go_wp2_with fail
 refine bodyPost_ret (v := .agg #[.int .i64 o2, .int .i64 n2, .string t2, .slice a4 k2.len cap4]) (by simp [results, Try.results74, go_sem, z0, z1, z2, z3, z4, z5, z6, z7, z8]) rfl ?_
 refine end_new2 (lo := w.heap.size + 1 + 1) (hi := w.heap.size + 3) (w3 := w4) hs4 (hfr4.mono (lo' := w.heap.size + 3) (by simp)) hc4 (Nat.le_refl _) (by omega) (by omega) (Below.trans (HE.out _ _ _) (q4.mono (by omega))) ?_
 repeat (first | exact Touch.refl _ _ _ | refine Touch.setCell ?_ (by simp) (by simp) _)
theorem cnS {g : Nat} {lb : Array Value} {rule : Rule} (R : RuleFn g lb rule) (m : Nat) : ∀ f : F, f.deep ≤ m → CnS g lb rule f := by
 induction m with
 | zero =>
   intro f hf w o n t k p r a cap fs he
   rw [he, F.deep_app] at hf; simp only [F.deep] at hf; omega
 | succ m ih =>
   intro f hf w o n t k p r a cap fs he hn hcnt hs hfs hc
   have hk : k.deep ≤ m := by rw [he, F.deep_app] at hf; simp only [F.deep] at hf; omega
   have hn' : niceD (o, n, t, k) = true := by
    rw [he, nice_app, Bool.and_eq_true] at hn
    exact (Bool.and_eq_true_iff.1 hn.2).1
   rw [he, F.cnt_app] at hcnt
   simp only [F.cnt] at hcnt
   exact cn_step R w o n t k (ih k hk) hn' (by omega) a cap fs hs hfs hc
theorem changeNodes {g : Nat} {lb : Array Value} {rule : Rule} (R : RuleFn g lb rule) (w : World) (o n : Int) (t : ByteArray) (k : F) (hn : niceD (o, n, t, k) = true) (hcnt : k.cnt ≤ 10000) (a : Option Addr) (cap : Nat) (fs : List Nat) (hs : SubAt w a k fs) (hfs : ∀ c ∈ fs, c < w.heap.size) (hc : k.len ≤ cap) :
  Calls Try.prog 74 #[.agg #[.int .i64 o, .int .i64 n, .string t, .slice a k.len cap], .func (.func g) #[] lb] w (NewD w (chD rule o n t k)) :=
 cn_step R w o n t k (cnS R _ k (Nat.le_refl _)) hn hcnt a cap fs hs hfs hc
end Go.Proofs.Ytjcaiecapapceaa.Nf
namespace Go.Proofs.Ytjcaiecapapceaa.Nf
open Go.RowKit P1 Copy CatD
def aggD (d : D) (a : Option Addr) (cap : Nat) : Value := .agg #[.int .i64 d.1, .int .i64 d.2.1, .string d.2.2.1, .slice a d.2.2.2.len cap]
def PassAt (g : Nat) (d d' : D) : Prop := (∀ (args : Array Value) (W : World), (callFunc g args).run Try.prog W = .ok (.enter g args) W) ∧
 ∀ (W : World) (a : Option Addr) (cap : Nat) (fs : List Nat), SubAt W a d.2.2.2 fs → (∀ c ∈ fs, c < W.heap.size ∧ ∀ o, W.frozen? ⟨c, o, none⟩ = false) → d.2.2.2.len ≤ cap → Calls Try.prog g (#[aggD d a cap] ++ #[]) W (NewD W d')
def Chain : List (Nat × D) → D → Prop
 | [], _ => True
 | (g, d') :: r, d => PassAt g d d' ∧ Chain r d'
def lastD : List (Nat × D) → D → D
 | [], d => d
 | (_, d') :: r, _ => lastD r d'
def chR (d d' : D) : Bool × D := if validD d.1 d.2.1 d.2.2.1 d.2.2.2 then (if validD d'.1 d'.2.1 d'.2.2.1 d'.2.2.2 then (true, d') else (false, zeroD)) else (false, zeroD)
structure ChAt (w : World) (B lo : Nat) (d : D) (wr : World) : Prop where
 bel : Below w.heap.size w wr
 out : ZBox wr (w.heap.size + 1)
 hB : w.heap.size + 2 ≤ lo
 hlo : lo ≤ B
 at_ : ∃ (a : Option Addr) (cap : Nat) (fs : List Nat), DocAt wr B d.1 d.2.1 d.2.2.1 d.2.2.2 a cap fs ∧ Fresh lo wr fs ∧ B ∉ fs
 froz : ∀ j, wr.frozen? ⟨B, j, none⟩ = false
theorem end_doc {w w3 w4 : World} {d : D} {lo hi B : Nat} {a : Option Addr} {cap : Nat} {fs : List Nat} (hc : d.2.2.2.len ≤ cap) (hs : SubAt w3 a d.2.2.2 fs) (hF : Fresh B w3 fs) (hB : hi ≤ B) (hlh : lo ≤ hi) (hlo : w.heap.size ≤ lo) (hb : Below w.heap.size w w3) (ht : Touch lo hi w3 w4) :
  DocRes w (true, d) (.returned (.tuple #[aggD d a cap, .bool true])) w4 :=
 ⟨a, cap, fs, rfl, hc, ht.sub hs (fun c hc => Or.inr (by have := (hF.2 c hc).1; omega)), (ht.fresh hF (fun c hc => Or.inr (by have := (hF.2 c hc).1; omega))).mono (by omega), ht.below hb hlo⟩
theorem end_no {w w3 w4 : World} {lo hi : Nat} (hlo : w.heap.size ≤ lo) (hb : Below w.heap.size w w3) (ht : Touch lo hi w3 w4) :
  DocRes w (false, zeroD) (.returned (.tuple #[.agg #[.int .i64 0, .int .i64 0, .string ⟨#[]⟩, .slice none 0 0], .bool false])) w4 :=
 ⟨none, 0, [], rfl, by simp [zeroD, F.len], Or.inl ⟨rfl, rfl⟩, Fresh.nil w.heap.size w4, ht.below hb hlo⟩
theorem zbox_second (w : World) (x : Obj) (T : TypeId) : ZBox ((w.alloc x).alloc (.cells #[.int .i64 0, .int .i64 0, .string ⟨#[]⟩, .slice none 0 0] T)) (w.heap.size + 1) := by
 have e : (w.alloc x).heap.size = w.heap.size + 1 := by simp
 rw [← e]; exact ZBox.alloc _ _
theorem ChAt.put {w wr w3 : World} {B lo : Nat} {d d' : D} (h : ChAt w B lo d wr) (k : Below wr.heap.size wr w3) {a : Option Addr} {cap : Nat} {fs : List Nat} (hs : SubAt w3 a d'.2.2.2 fs) (hF : Fresh wr.heap.size w3 fs) (hc : d'.2.2.2.len ≤ cap) :
  ChAt w B lo d' ((((w3.setCell ⟨B, 0, none⟩ (.int .i64 d'.1)).setCell ⟨B, 1, none⟩ (.int .i64 d'.2.1)).setCell ⟨B, 2, none⟩ (.string d'.2.2.1)).setCell ⟨B, 3, none⟩ (.slice a d'.2.2.2.len cap)) := by
 obtain ⟨h1, h2, h3, h4, ⟨a0, c0, f0, h5, h6, h7⟩, h8⟩ := h
 have hBl : B < wr.heap.size := h5.blt
 have hB3 : B < w3.heap.size := Nat.lt_of_lt_of_le hBl k.size
 have hn : B ∉ fs := fun hm => by have := (hF.2 B hm).1; omega
 have hw : w.heap.size ≤ wr.heap.size := h1.size
 obtain ⟨b0, b1, b2, b3⟩ := h5.box
 have q0 := (k.cell (p := ⟨B, 0, none⟩) hBl).trans b0
 have q1 := (k.cell (p := ⟨B, 1, none⟩) hBl).trans b1
 have q2 := (k.cell (p := ⟨B, 2, none⟩) hBl).trans b2
 have q3 := (k.cell (p := ⟨B, 3, none⟩) hBl).trans b3
 have hb3 : Below w.heap.size w w3 := h1.trans (k.mono hw)
 have hT : Touch B (B + 1) w3 ((((w3.setCell ⟨B, 0, none⟩ (.int .i64 d'.1)).setCell ⟨B, 1, none⟩ (.int .i64 d'.2.1)).setCell ⟨B, 2, none⟩ (.string d'.2.2.1)).setCell ⟨B, 3, none⟩ (.slice a d'.2.2.2.len cap)) := by
  refine Touch.setCell (Touch.setCell (Touch.setCell (Touch.setCell (Touch.refl _ _ _) ?_ ?_ _) ?_ ?_ _) ?_ ?_ _) ?_ ?_ _ <;> simp
 refine ⟨hT.below hb3 (by omega), ?_, h3, h4, ⟨a, cap, fs, DocAt.stored hs hF.lt hc hn hB3 q0 q1 q2 q3, ?_, hn⟩, fun j => ?_⟩
 ·have hz := zbox_below h2 k (by have := h2.2.2; omega)
  have hk : Below (w.heap.size + 2) w3 ((((w3.setCell ⟨B, 0, none⟩ (.int .i64 d'.1)).setCell ⟨B, 1, none⟩ (.int .i64 d'.2.1)).setCell ⟨B, 2, none⟩ (.string d'.2.2.1)).setCell ⟨B, 3, none⟩ (.slice a d'.2.2.2.len cap)) := hT.below (Below.refl _ _) (by omega)
  exact zbox_below hz hk (by omega)
 ·exact (hT.fresh hF (fun c hc => Or.inr (by have := (hF.2 c hc).1; omega))).mono (by omega)
 ·simp only [World.frozen?_setCell]
  rw [k.frozen (p := ⟨B, j, none⟩) hBl]; exact h8 j
theorem box4 {w w' : World} {b : Nat} {u0 u1 u2 u3 : Value} (h : w.cell? ⟨b, 0, none⟩ = some u0 ∧ w.cell? ⟨b, 1, none⟩ = some u1 ∧ w.cell? ⟨b, 2, none⟩ = some u2 ∧ w.cell? ⟨b, 3, none⟩ = some u3) (hb : b < w.heap.size) (k : Below w.heap.size w w') :
  w'.cell? ⟨b, 0, none⟩ = some u0 ∧ w'.cell? ⟨b, 1, none⟩ = some u1 ∧ w'.cell? ⟨b, 2, none⟩ = some u2 ∧ w'.cell? ⟨b, 3, none⟩ = some u3 :=
 ⟨(k.cell (p := ⟨_, _, _⟩) hb).trans h.1, (k.cell (p := ⟨_, _, _⟩) hb).trans h.2.1, (k.cell (p := ⟨_, _, _⟩) hb).trans h.2.2.1, (k.cell (p := ⟨_, _, _⟩) hb).trans h.2.2.2⟩
theorem drop_cons {α : Type} {l : List α} {j : Nat} (h : j < l.length) : l.drop j = l[j] :: l.drop (j + 1) := List.drop_eq_getElem_cons h
theorem changed (w : World) (o n : Int) (t : ByteArray) (k : F) (a : Option Addr) (cap : Nat) (fs : List Nat) (hs : SubAt w a k fs) (hfs : ∀ c ∈ fs, c < w.heap.size) (hc : k.len ≤ cap) (hle : t.size + k.size ≤ 1048576)
  (ps : List (Nat × D)) (bp cp : Nat) (hbp : bp < w.heap.size) (hrow : ∀ (j : Nat) (hj : j < ps.length), w.cell? ⟨bp, j, none⟩ = some (.func (.func (ps[j]'hj).1) #[] #[])) (hcp : ps.length ≤ cp) (hpl : ps.length ≤ 1000)
  (hch : validD o n t k = true → Chain ps (o, n, t, k)) (hfit : validD o n t k = true → (lastD ps (o, n, t, k)).2.2.2.size ≤ 1048576 ∧ (lastD ps (o, n, t, k)).2.2.1.size ≤ 1048576) :
  Calls Try.prog 39 #[.agg #[.int .i64 o, .int .i64 n, .string t, .slice a k.len cap], .slice (some ⟨bp, 0, none⟩) ps.length cp] w (DocRes w (chR (o, n, t, k) (lastD ps (o, n, t, k)))) := by
 have hl := F.len_le_size k
 have hft : k.Fits := fits_of_size (m := 1048576) (by unfold maxLen; omega) k (by omega)
 have hval := fun (W : World) (e : Ext w W) => PartV.docValid W o n t k a cap fs (e.sub hs hfs) (fun c hc => Nat.lt_of_lt_of_le (hfs c hc) e.size) hc (by unfold maxLen; omega) hft (by unfold maxLen; omega)
 have hcpy := fun (W : World) (e : Ext w W) => Copy.copyDoc W o n t k a cap fs (e.sub hs hfs) (fun c hc => Nat.lt_of_lt_of_le (hfs c hc) e.size) hc (by omega) (by omega)
 obtain ⟨L, hL⟩ : ∃ L, k.len = L := ⟨_, rfl⟩
 have HL := Lib.hid hL
 obtain ⟨N, hN⟩ : ∃ N, ps.length = N := ⟨_, rfl⟩
 rw [hL] at hval
 rw [hN] at hcp hpl ⊢
 have HN := Lib.hid hN
 obtain ⟨R, hRR⟩ : ∃ R, chR (o, n, t, k) (lastD ps (o, n, t, k)) = R := ⟨_, rfl⟩
 rw [hRR]
 have HV := Lib.hid hval
 have HC := Lib.hid hcpy
 have HE := Lib.hid (show ∀ x y, Ext w ((w.alloc x).alloc y) from fun x y => ((Ext.refl w).alloc x).alloc y)
 have HZ := Lib.hid (fun x => zbox_second w x 25)
 have HROW := Lib.hid hrow
 clear hval hs hfs hc hft hl hrow
 rw [hL] at HC ⊢
 clear hL
 cases hv : validD o n t k with
 | false =>
   have HVV := Lib.hid hv
   have hR : R = (false, zeroD) := by rw [← hRR]; unfold chR; rw [hv]; rfl
   rw [hR]
   clear hch hfit hN hv hcpy hR hRR
   go_enter Try.func39, Try.ntmps39
   go_wp2_with fail
   refine (HV.out _ (HE.out _ _)).mono ?_
   rw [HVV.out]
   rintro e1 w1 ⟨rfl, hb⟩
   have E1 := Lib.hid (Ext.trans (HE.out _ _) hb)
   obtain ⟨⟨z0, z1, z2, z3⟩, ⟨z4, z5, z6, z7⟩, z8⟩ := (HZ.out _).ext hb
   clear hb
   go_wp2_with fail
   refine bodyPost_ret (v := .tuple #[.agg #[.int .i64 0, .int .i64 0, .string ⟨#[]⟩, .slice none 0 0], .bool false]) (by simp [results, Try.results39, go_sem, z0, z1, z2, z3, z4, z5, z6, z7, z8]) rfl ?_
   refine end_no (lo := w.heap.size + 1) (hi := w.heap.size + 2) (by omega) E1.out ?_
   repeat (first | exact Touch.refl _ _ _ | refine Touch.setCell ?_ (by simp) (by simp) _)
 | true =>
   have HVV := Lib.hid hv
   have HCH := Lib.hid (hch hv)
   have HFIT := Lib.hid (hfit hv)
   clear hch hfit hN hcpy
   obtain ⟨d9, hd9⟩ : ∃ d : D, lastD ps (o, n, t, k) = d := ⟨_, rfl⟩
   rw [hd9] at HFIT hRR
   have HLAST := Lib.hid hd9
   have HR := Lib.hid (show R = (if validD d9.1 d9.2.1 d9.2.2.1 d9.2.2.2 then (true, d9) else (false, zeroD)) from by rw [← hRR]; unfold chR; simp only [hv]; rfl)
   clear hRR hv hd9
   go_enter Try.func39, Try.ntmps39
   go_wp2_with fail
   refine (HV.out _ (HE.out _ _)).mono ?_
   rw [HVV.out]
   rintro e1 w1 ⟨rfl, hb⟩
   have E1 := Lib.hid (Ext.trans (HE.out _ _) hb)
   have Z1 := Lib.hid ((HZ.out _).ext hb)
   have hs1 : w.heap.size + 2 ≤ w1.heap.size := by have := hb.size; simp at this; omega
   have C1 := fun o => hb.cell (p := ⟨w.heap.size, o, none⟩) (by simp; omega)
   clear hb
   go_wp2_with fail
   refine (HC.out _ E1.out).mono ?_
   rintro e2 w2 ⟨a2, cap2, f2, rfl, hc2, hs2, hfr2, hb2⟩
   have hs12 := hb2.size
   have hCH : ChAt w w2.heap.size w1.heap.size (o, n, t, k) (w2.alloc (.cells #[.int .i64 o, .int .i64 n, .string t, .slice a2 k.len cap2] 25)) :=
    ⟨(E1.out.trans hb2).alloc _, (Z1.out.ext hb2).ext ((Ext.refl _).alloc _), hs1, hs12, ⟨a2, cap2, f2, DocAt.new hs2 hfr2.lt hc2 o n t _, Ext.fresh ((Ext.refl _).alloc _) hfr2, fun hm => by have := hfr2.lt _ hm; omega⟩, fun j => World.frozen?_alloc_new _ _ _ _⟩
   rw [HL.out] at hCH ⊢
   have HCA := Lib.hid hCH
   clear hc2 hs2 hfr2 hb2 hCH C1
   go_wp2_with fail
   go_loopw [17, 8] (fun i v8 wr => ∃ (j : Nat) (d : D), j ≤ N ∧ i = .int .i64 j ∧ lastD (ps.drop j) d = d9 ∧ Chain (ps.drop j) d ∧ ChAt w w2.heap.size w1.heap.size d wr) (fun i _ _ => N - (intOf i).toNat)
   case atStart => exact ⟨0, (o, n, t, k), by omega, rfl, HLAST.out, HCH.out, HCA.out⟩
   case round =>
    obtain ⟨j, d, hj, rfl, hlast, hchn, hca⟩ := hrel
    by_cases hjN : j < N
    ·have hjp : j < ps.length := by have := HN.out; omega
     obtain ⟨⟨g1, d1⟩, hp⟩ : ∃ q, ps[j]'hjp = q := ⟨_, rfl⟩
     have hrw := HROW.out j hjp
     rw [drop_cons hjp, hp] at hlast hchn
     rw [hp] at hrw
     obtain ⟨⟨hen, hpass⟩, hch2⟩ := hchn
     have hl2 : lastD (ps.drop (j + 1)) d1 = d9 := hlast
     have c9 := (hca.bel.cell (p := ⟨bp, j, none⟩) hbp).trans hrw
     obtain ⟨a3, c3, f3, hdoc, hfr, hnB⟩ := hca.at_
     have hcall := hpass wr a3 c3 f3 hdoc.sub (fun c hc => ⟨hfr.lt c hc, (hfr.2 c hc).2.2⟩) hdoc.cap_le
     obtain ⟨b0, b1, b2, b3⟩ := hdoc.box
     have hlB := hdoc.blt
     obtain ⟨L3, hL3⟩ : ∃ L3, d.2.2.2.len = L3 := ⟨_, rfl⟩
     unfold aggD at hcall
     rw [hL3] at hcall b3
     obtain ⟨o3, n3, t3, k3⟩ := d
     obtain ⟨o4, n4, t4, k4⟩ := d1
     simp only at hcall b0 b1 b2 b3
     have HP := Lib.hid hcall
     have HX := Lib.hid (And.intro hl2 (And.intro hch2 hca))
     have i0 : (0 : Int) ≤ (j : Int) := Int.natCast_nonneg _
     clear hcall hl2 hch2 hca hdoc hfr hnB hlast hrw hp hpass hjp hL3
     go_wp2_with (go_at_fn g1; refine HP.out.mono ?_; rintro e1 w3 ⟨a5, c5, f5, rfl, hc5, hs5, hfr5, hb5⟩; have hput := HX.out.2.2.put (d' := (o4, n4, t4, k4)) hb5 hs5 hfr5 hc5; have HPUT := Lib.hid hput; obtain ⟨x0, x1, x2, x3⟩ := box4 (by exact ⟨b0, b1, b2, b3⟩) hlB hb5; have z0 := (hb5.frozen (p := ⟨w2.heap.size, 0, none⟩) hlB).trans (HX.out.2.2.froz 0); have z1 := (hb5.frozen (p := ⟨w2.heap.size, 1, none⟩) hlB).trans (HX.out.2.2.froz 1); have z2 := (hb5.frozen (p := ⟨w2.heap.size, 2, none⟩) hlB).trans (HX.out.2.2.froz 2); have z3 := (hb5.frozen (p := ⟨w2.heap.size, 3, none⟩) hlB).trans (HX.out.2.2.froz 3); have hl3 := Nat.lt_of_lt_of_le hlB hb5.size; clear hput hc5 hs5 hfr5 hb5)
     go_roundw
     case rel => exact ⟨j + 1, (o4, n4, t4, k4), by omega, by go_num, HX.out.1, HX.out.2.1, HPUT.out⟩
     case measure => simp [intOf]; omega
    ·have hjn : j = N := by omega
     have hnil : ps.drop j = [] := List.drop_eq_nil_of_le (by have := HN.out; omega)
     rw [hnil] at hlast
     have hd9 : d = d9 := hlast
     subst hd9
     obtain ⟨a3, c3, f3, hdoc, hfr, hnB⟩ := hca.at_
     obtain ⟨o3, n3, t3, k3⟩ := d
     simp only at hdoc
     have hfl := F.len_le_size k3
     have hfit : k3.size ≤ 1048576 ∧ t3.size ≤ 1048576 := HFIT.out
     have hv3 := PartV.docValid wr o3 n3 t3 k3 a3 c3 f3 hdoc.sub hdoc.lt hdoc.cap_le (by unfold maxLen; omega) (fits_of_size (m := 1048576) (by unfold maxLen; omega) k3 hfit.1) (by unfold maxLen; omega)
     obtain ⟨b0, b1, b2, b3⟩ := hdoc.box
     obtain ⟨L3, hL3⟩ : ∃ L3, k3.len = L3 := ⟨_, rfl⟩
     rw [hL3] at hv3 b3
     have HL3 := Lib.hid hL3
     have HX := Lib.hid (And.intro hca (And.intro hdoc hfr))
     have hlB := hdoc.blt
     clear hchn hca hdoc hfr hnB hnil hlast hfl hfit hL3
     cases hq : validD o3 n3 t3 k3 with
     | false =>
       have hR : R = (false, zeroD) := by rw [HR.out]; simp only [hq]; rfl
       rw [hq] at hv3
       have HV3 := Lib.hid hv3
       have HR3 := Lib.hid hR
       clear hv3 hq hR
       go_wp2_with fail
       refine HV3.out.mono ?_
       rintro e1 w3 ⟨rfl, hb3⟩
       obtain ⟨⟨z0, z1, z2, z3⟩, ⟨z4, z5, z6, z7⟩, z8⟩ := HX.out.1.out.ext hb3
       have HB3 := Lib.hid (HX.out.1.bel.trans (hb3.mono HX.out.1.bel.size))
       clear hb3
       go_wp2_with fail
       refine bodyPost_ret (v := .tuple #[.agg #[.int .i64 0, .int .i64 0, .string ⟨#[]⟩, .slice none 0 0], .bool false]) (by simp [results, Try.results39, go_sem, z0, z1, z2, z3, z4, z5, z6, z7, z8]) rfl ?_
       rw [HR3.out]
       refine end_no (lo := w.heap.size + 1) (hi := w.heap.size + 2) (by omega) HB3.out ?_
       repeat (first | exact Touch.refl _ _ _ | refine Touch.setCell ?_ (by simp) (by simp) _)
     | true =>
       have hR : R = (true, (o3, n3, t3, k3)) := by rw [HR.out]; simp only [hq]; rfl
       rw [hq] at hv3
       have HV3 := Lib.hid hv3
       have HR3 := Lib.hid hR
       clear hv3 hq hR
       go_wp2_with fail
       refine HV3.out.mono ?_
       rintro e1 w3 ⟨rfl, hb3⟩
       obtain ⟨⟨z0, z1, z2, z3⟩, ⟨z4, z5, z6, z7⟩, z8⟩ := HX.out.1.out.ext hb3
       obtain ⟨x0, x1, x2, x3⟩ := box4 (by exact ⟨b0, b1, b2, b3⟩) hlB hb3
       have hl3 := Nat.lt_of_lt_of_le hlB hb3.size
       have H3 := Lib.hid hb3
       clear hb3 b0 b1 b2 b3
       go_wp2_with fail
       refine bodyPost_ret (v := .tuple #[.agg #[.int .i64 o3, .int .i64 n3, .string t3, .slice a3 L3 c3], .bool true]) (by simp [results, Try.results39, go_sem, z0, z1, z2, z3, z4, z5, z6, z7, z8]) rfl ?_
       rw [HR3.out, ← HL3.out]
       refine end_doc (d := (o3, n3, t3, k3)) (lo := w.heap.size + 1) (hi := w.heap.size + 2) (B := w1.heap.size) (w3 := w3) HX.out.2.1.cap_le (Ext.sub H3.out HX.out.2.1.sub HX.out.2.1.lt) (Ext.fresh H3.out HX.out.2.2) hs1 (by omega) (by omega) (HX.out.1.bel.trans (H3.out.mono HX.out.1.bel.size)) ?_
       repeat (first | exact Touch.refl _ _ _ | refine Touch.setCell ?_ (by simp) (by simp) _)
end Go.Proofs.Ytjcaiecapapceaa.Nf
namespace Go.Proofs.Ytjcaiecapapceaa.Nf
open Go.RowKit P1 Copy CatD
theorem Fresh.left {lo : Nat} {w : World} {f1 f2 : List Nat} (h : Fresh lo w (f1 ++ f2)) : Fresh lo w f1 := ⟨(List.nodup_append.1 h.1).1, fun c hc => h.2 c (List.mem_append_left _ hc)⟩
theorem Fresh.right {lo : Nat} {w : World} {f1 f2 : List Nat} (h : Fresh lo w (f1 ++ f2)) : Fresh lo w f2 := ⟨(List.nodup_append.1 h.1).2.1, fun c hc => h.2 c (List.mem_append_right _ hc)⟩
theorem Fresh.tail {lo b : Nat} {w : World} {fs : List Nat} (h : Fresh lo w (b :: fs)) : Fresh lo w fs := ⟨(List.nodup_cons.1 h.1).2, fun c hc => h.2 c (List.mem_cons_of_mem _ hc)⟩
theorem row_first {w : World} {b off : Nat} {o n : Int} {t : ByteArray} {k r : F} {fs : List Nat} {lo : Nat} (h : RowAt w (.cons o n t k r) b off fs) (hF : Fresh lo w fs) :
  ∃ (a : Option Addr) (cap : Nat) (f1 f2 : List Nat), w.cell? ⟨b, off, none⟩ = some (.int .i64 o) ∧ w.cell? ⟨b, off + 1, none⟩ = some (.int .i64 n) ∧ w.cell? ⟨b, off + 2, none⟩ = some (.string t) ∧ w.cell? ⟨b, off + 3, none⟩ = some (.slice a k.len cap) ∧ k.len ≤ cap ∧
   SubAt w a k f1 ∧ Fresh lo w f1 ∧ RowAt w r b (off + 4) f2 ∧ Fresh lo w f2 := by
 obtain ⟨a, cap, f1, f2, h0, h1, h2, h3, h4, h5, h6, rfl⟩ := RowAt.cons_iff.1 h
 exact ⟨a, cap, f1, f2, h0, h1, h2, h3, h4, h5, Fresh.left hF, h6, Fresh.right hF⟩
theorem sub_row {w : World} {a : Option Addr} {o n : Int} {t : ByteArray} {k r : F} {fs : List Nat} {lo : Nat} (h : SubAt w a (.cons o n t k r) fs) (hF : Fresh lo w fs) :
  ∃ (b off : Nat) (f' : List Nat), a = some ⟨b, off, none⟩ ∧ b < w.heap.size ∧ RowAt w (.cons o n t k r) b off f' ∧ Fresh lo w f' := by
 rcases h with ⟨h, _⟩ | ⟨b, off, f', rfl, _, rfl, h⟩
 ·cases h
 ·exact ⟨b, off, f', rfl, hF.lt b (by simp), h, Fresh.tail hF⟩
theorem rule_end {lo : Nat} {W w4 : World} {d : D} {a : Option Addr} {cap : Nat} {fs : List Nat} (hb : Below W.heap.size W w4) (hs : SubAt W a d.2.2.2 fs) (hF : Fresh lo W fs) (hc : d.2.2.2.len ≤ cap) :
  RuleOut lo W d (.returned (aggD d a cap)) w4 :=
 ⟨a, cap, fs, rfl, hc, hs.below hF.lt hb, hF.below hF.lt hb, hb⟩
theorem end_pair {w w3 w4 : World} {d : D} {ok : Bool} {lo hi B : Nat} {a : Option Addr} {cap : Nat} {fs : List Nat} (hs : SubAt w3 a d.2.2.2 fs) (hF : Fresh B w3 fs) (hc : d.2.2.2.len ≤ cap) (hB : hi ≤ B) (hlo : w.heap.size ≤ lo) (hlh : lo ≤ hi) (hb : Below w.heap.size w w3) (ht : Touch lo hi w3 w4) :
  DocRes w (ok, d) (.returned (.tuple #[aggD d a cap, .bool ok])) w4 :=
 ⟨a, cap, fs, rfl, hc, ht.sub hs (fun c hc => Or.inr (by have := (hF.2 c hc).1; omega)), (ht.fresh hF (fun c hc => Or.inr (by have := (hF.2 c hc).1; omega))).mono (by omega), ht.below hb hlo⟩
theorem nice_fit {d : D} (h : niceD d = true) (hc : d.2.2.2.cnt ≤ 10000) : d.2.2.2.size ≤ 1048576 ∧ d.2.2.1.size ≤ 1048576 := by
 unfold niceD at h
 rw [Bool.and_eq_true] at h
 have h1 := nice_size _ h.2
 have h2 := nice_text h.1
 omega
end Go.Proofs.Ytjcaiecapapceaa.Nf
namespace Go.Proofs.Ytjcaiecapapceaa.Nf
open Go.RowKit P1 Copy CatD
abbrev Four (b : Nat) (u0 u1 u2 u3 : Value) (w : World) : Prop := w.cell? ⟨b, 0, none⟩ = some u0 ∧ w.cell? ⟨b, 1, none⟩ = some u1 ∧ w.cell? ⟨b, 2, none⟩ = some u2 ∧ w.cell? ⟨b, 3, none⟩ = some u3
theorem Four.below {b : Nat} {u0 u1 u2 u3 : Value} {W w' : World} (h : Four b u0 u1 u2 u3 W) {B : Nat} (k : Below B W w') (hb : b < B) : Four b u0 u1 u2 u3 w' := by
 obtain ⟨h0, h1, h2, h3⟩ := h
 exact ⟨(k.cell (p := ⟨_, _, _⟩) hb).trans h0, (k.cell (p := ⟨_, _, _⟩) hb).trans h1, (k.cell (p := ⟨_, _, _⟩) hb).trans h2, (k.cell (p := ⟨_, _, _⟩) hb).trans h3⟩
def KdAt (w : World) (o n : Int) (t : ByteArray) (u : Value) (φ : Rule) (k : F) (v i : Value) (wr : World) : Prop :=
 ∃ (j : Nat) (p g : F) (fs : List Nat), i = .int .i64 j ∧ k = p.app g ∧ p.len = j ∧ Grow wr 25 (w.heap.size + 2) v (mapL φ p) fs ∧ Below w.heap.size w wr ∧ Four w.heap.size (.int .i64 o) (.int .i64 n) (.string t) u wr ∧ ZBox wr (w.heap.size + 1)
theorem kd_start (w : World) (o n : Int) (t : ByteArray) (u : Value) (φ : Rule) (k : F) (T : TypeId) : KdAt w o n t u φ k (.slice (some ⟨w.heap.size + 1 + 1, 0, none⟩) 0 0) (.int .i64 0)
  (((w.alloc (.cells #[.int .i64 o, .int .i64 n, .string t, u] T)).alloc (.cells #[.int .i64 0, .int .i64 0, .string ⟨#[]⟩, .slice none 0 0] T)).alloc (.cells #[] 25)) := by
 have e : ((w.alloc (.cells #[.int .i64 o, .int .i64 n, .string t, u] T)).alloc (.cells #[.int .i64 0, .int .i64 0, .string ⟨#[]⟩, .slice none 0 0] T)).heap.size = w.heap.size + 1 + 1 := by simp
 refine ⟨0, .nil, k, [], rfl, rfl, rfl, ?_, (((Ext.refl w).alloc _).alloc _).alloc _, ?_, ?_⟩
 ·have := Grow.made ((w.alloc (.cells #[.int .i64 o, .int .i64 n, .string t, u] T)).alloc (.cells #[.int .i64 0, .int .i64 0, .string ⟨#[]⟩, .slice none 0 0] T)) 25 (w.heap.size + 2) (by rw [e]; omega)
  rw [e] at this
  exact this
 ·have h1 : Four w.heap.size (.int .i64 o) (.int .i64 n) (.string t) u (w.alloc (.cells #[.int .i64 o, .int .i64 n, .string t, u] T)) := by
   refine ⟨?_, ?_, ?_, ?_⟩ <;> (rw [World.cell?_alloc_new]; rfl)
  exact (h1.below ((Below.refl _ _).alloc (Nat.le_refl _) _) (by simp)).below ((Below.refl _ _).alloc (Nat.le_refl _) _) (by simp; omega)
 ·exact (zbox_second w _ T).ext ((Ext.refl _).alloc _)
theorem mid_d {wr w1 : World} {ob : Obj} {T : TypeId} {lo : Nat} {v : Value} {p : F} {fs : List Nat} (hG : Grow wr T lo v p fs) (hb : Below wr.heap.size wr w1) :
  Grow (w1.alloc ob) T lo v p fs ∧ lo ≤ wr.heap.size ∧ (∀ q ∈ fs, q < wr.heap.size) ∧ (∀ q, v.ownBlock = some q → q < wr.heap.size) ∧ Below wr.heap.size wr w1 :=
 ⟨(hG.below (Nat.le_refl _) hb).alloc ob, hG.2.2.2, fun q hq => hG.fresh.lt q hq, fun q hq => (hG.own_lt q hq).2, hb⟩
theorem mid_end {wr w1 w2 : World} {ob : Obj} {lo : Nat} (hb : Below wr.heap.size wr w1) (hb' : Below lo (w1.alloc ob) w2) (hlo : lo ≤ wr.heap.size) : Below lo wr w2 :=
 (((hb.mono hlo).alloc (Nat.le_trans hlo hb.size) ob)).trans hb'
theorem end_but {w w3 w4 : World} {x lo : Nat} {o n : Int} {t : ByteArray} {k : F} {a : Option Addr} {cap l : Nat} {fs : List Nat} (hl : k.len = l) (hs : SubAt w3 a k fs) (hF : Fresh lo w3 fs) (hc : k.len ≤ cap) (hx : x < lo) (hw : w.heap.size ≤ x) (hb : Below w.heap.size w w3) (hB : But w3.heap.size x w3 w4) :
  NewOut w o n t k (.returned (.agg #[.int .i64 o, .int .i64 n, .string t, .slice a l cap])) w4 := by
 subst hl
 have h1 : ∀ c ∈ fs, c < w3.heap.size ∧ c ≠ x := fun c hc => ⟨hF.lt c hc, fun e => by have := (hF.2 c hc).1; omega⟩
 exact ⟨a, cap, fs, rfl, hc, hB.sub hs h1, (hF.alike hB.size (fun c hc o => hB.frozen (h1 c hc).1 (h1 c hc).2)).mono (by omega), hb.trans (hB.below hb.size hw)⟩
theorem specMap (W : World) (o n : Int) (t : ByteArray) (a : Option Addr) (l cap : Nat) (a2 : Option Addr) (l2 cap2 : Nat) :
  Calls Try.prog 79 #[.agg #[.int .i64 o, .int .i64 n, .string t, .slice a l cap], .slice a2 l2 cap2] W fun e w' => e = .returned (.agg #[.int .i64 o, .int .i64 n, .string t, .slice a2 l2 cap2]) ∧ Below W.heap.size W w' := by
 go_enter Try.func79, Try.ntmps79
 go_wp2_with fail
 refine bodyPost_ret (v := .agg #[.int .i64 o, .int .i64 n, .string t, .slice a2 l2 cap2]) (by simp [results, Try.results79, go_sem]) rfl ?_
 exact ⟨rfl, by repeat (first | exact Below.refl _ _ | refine Below.alloc ?_ (by simp) _ | refine Below.setCell ?_ (by simp) _)⟩
theorem spec_end {w w3 w4 : World} {d : D} {lo hi B : Nat} {a : Option Addr} {cap : Nat} {fs : List Nat} (hc : d.2.2.2.len ≤ cap) (hs : SubAt w3 a d.2.2.2 fs) (hF : Fresh B w3 fs) (hB : hi ≤ B) (hlh : lo ≤ hi) (hlo : w.heap.size ≤ lo) (hb : Below w.heap.size w w3) (ht : Touch lo hi w3 w4) {ok : Bool} :
  DocRes w (ok, d) (.returned (.tuple #[aggD d a cap, .bool ok])) w4 := end_pair hs hF hc hB hlo hlh hb ht
theorem specDone (w : World) (o n : Int) (t : ByteArray) (k : F) (a : Option Addr) (cap : Nat) (fs : List Nat) (hs : SubAt w a k fs) (hfs : ∀ c ∈ fs, c < w.heap.size) (hc : k.len ≤ cap) (hsz : k.size ≤ 1048576) (ht : t.size ≤ 1048576) :
  Calls Try.prog 42 #[.agg #[.int .i64 o, .int .i64 n, .string t, .slice a k.len cap], .bool true] w (DocRes w (if validD o n t k then (true, (o, n, t, k)) else (false, zeroD))) := by
 have hl := F.len_le_size k
 have hft : k.Fits := fits_of_size (m := 1048576) (by unfold maxLen; omega) k (by omega)
 have hval := fun (W : World) (e : Ext w W) => SpecC.docValid W o n t k a cap fs (e.sub hs hfs) (fun c hc => Nat.lt_of_lt_of_le (hfs c hc) e.size) hc (by omega) hft (by unfold maxLen; omega)
 have hcpy := fun (W : World) (e : Ext w W) => CopyS.l1Copy W o n t k a cap fs (e.sub hs hfs) (fun c hc => Nat.lt_of_lt_of_le (hfs c hc) e.size) hc (by omega) (by omega)
 have HE := Lib.hid (show ∀ x y, Ext w ((w.alloc x).alloc y) from fun x y => ((Ext.refl w).alloc x).alloc y)
 have HZ := Lib.hid (fun x => zbox_second w x 25)
 obtain ⟨L, hL⟩ : ∃ L, k.len = L := ⟨_, rfl⟩
 have HL := Lib.hid hL
 rw [hL] at hval hcpy ⊢
 cases hv : validD o n t k with
 | false =>
   rw [hv] at hval
   rw [show (if false = true then (true, ((o, n, t, k) : D)) else (false, zeroD)) = (false, zeroD) from rfl]
   have HV := Lib.hid hval
   clear hval hcpy hs hfs hc hsz ht hl hft hv hL
   go_enter Try.func42, Try.ntmps42
   go_wp2_with fail
   refine (HV.out _ (HE.out _ _)).mono ?_
   rintro e1 w1 ⟨rfl, hb⟩
   have E1 := Lib.hid (Ext.trans (HE.out _ _) hb)
   obtain ⟨⟨z0, z1, z2, z3⟩, ⟨z4, z5, z6, z7⟩, z8⟩ := (HZ.out _).ext hb
   clear hb
   go_wp2_with fail
   refine bodyPost_ret (v := .tuple #[.agg #[.int .i64 0, .int .i64 0, .string ⟨#[]⟩, .slice none 0 0], .bool false]) (by simp [results, Try.results42, go_sem, z0, z1, z2, z3, z4, z5, z6, z7, z8]) rfl ?_
   refine end_no (lo := w.heap.size + 1) (hi := w.heap.size + 2) (by omega) E1.out ?_
   repeat (first | exact Touch.refl _ _ _ | refine Touch.setCell ?_ (by simp) (by simp) _)
 | true =>
   rw [hv] at hval
   rw [show (if true = true then (true, ((o, n, t, k) : D)) else (false, zeroD)) = (true, (o, n, t, k)) from rfl]
   have HV := Lib.hid hval
   have HC := Lib.hid hcpy
   clear hval hcpy hs hfs hc hsz ht hl hft hv hL
   go_enter Try.func42, Try.ntmps42
   go_wp2_with fail
   refine (HV.out _ (HE.out _ _)).mono ?_
   rintro e1 w1 ⟨rfl, hb⟩
   have E1 := Lib.hid (Ext.trans (HE.out _ _) hb)
   have Z1 := Lib.hid ((HZ.out _).ext hb)
   have hs1 : w.heap.size + 2 ≤ w1.heap.size := by have := hb.size; simp at this; omega
   have C1 := fun o => hb.cell (p := ⟨w.heap.size, o, none⟩) (by simp; omega)
   clear hb
   go_wp2_with fail
   refine (HC.out _ E1.out).mono ?_
   rintro e2 w2 ⟨a2, cap2, f2, rfl, hc2, hs2, hfr2, hb2⟩
   rw [HL.out] at hc2 ⊢
   obtain ⟨⟨z0, z1, z2, z3⟩, ⟨z4, z5, z6, z7⟩, z8⟩ := Z1.out.ext hb2
   have H2 := Lib.hid (And.intro hc2 (And.intro hs2 (And.intro hfr2 hb2)))
   clear hc2 hs2 hfr2 hb2 C1
   go_wp2_with fail
   refine bodyPost_ret (v := .tuple #[.agg #[.int .i64 o, .int .i64 n, .string t, .slice a2 L cap2], .bool true]) (by simp [results, Try.results42, go_sem, z0, z1, z2, z3, z4, z5, z6, z7, z8]) rfl ?_
   obtain ⟨hc2, hs2, hfr2, hb2⟩ := H2.out
   rw [← HL.out] at hc2 ⊢
   refine spec_end (d := (o, n, t, k)) (lo := w.heap.size + 1) (hi := w.heap.size + 2) hc2 hs2 hfr2 hs1 (by omega) (by omega) (E1.out.trans hb2) ?_
   repeat (first | exact Touch.refl _ _ _ | refine Touch.setCell ?_ (by simp) (by simp) _)
end Go.Proofs.Ytjcaiecapapceaa.Nf
namespace Go.Proofs.Ytjcaiecapapceaa.Nf
open Go.RowKit P1 Copy CatD
end Go.Proofs.Ytjcaiecapapceaa.Nf
namespace Go.Proofs.Ytjcaiecapapceaa.Nf
open Go.RowKit P1 Copy CatD
theorem ch_tiny {d d' : D} {ok : Bool} {o n : Int} {t : ByteArray} {k : F} (h : chR d d' = (ok, o, n, t, k)) : t.size + k.size ≤ 100000 := by
 unfold chR at h
 split at h
 ·split at h
  ·rename_i hv
   injection h with h1 h2
   subst h2
   have h1 := valid_nice hv
   have h2 := nice_size k (nice_kids h1.1).2
   have h3 := nice_text (Bool.and_eq_true_iff.1 h1.1).1
   simp only at h1 h3
   omega
  ·injection h with h1 h2
   unfold zeroD at h2
   injection h2 with _ h2
   injection h2 with _ h2
   injection h2 with h3 h4
   subst h3 h4
   decide
 ·injection h with h1 h2
  unfold zeroD at h2
  injection h2 with _ h2
  injection h2 with _ h2
  injection h2 with h3 h4
  subst h3 h4
  decide
theorem ch_ok {d d' : D} (h : (chR d d').1 = true) : validD d.1 d.2.1 d.2.2.1 d.2.2.2 = true ∧ validD d'.1 d'.2.1 d'.2.2.1 d'.2.2.2 = true ∧ chR d d' = (true, d') := by
 unfold chR at h ⊢
 split at h
 ·split at h
  ·rename_i h1 h2; exact ⟨h1, h2, by rw [if_pos h1, if_pos h2]⟩
  ·cases h
 ·cases h
end Go.Proofs.Ytjcaiecapapceaa.Nf
namespace Go.Proofs.Ytjcaiecapapceaa.Nf
open Go.RowKit P1 Copy CatD
def ap (φ : Rule) (d : D) : D := φ d.1 d.2.1 d.2.2.1 d.2.2.2
def n1D (d : D) : D := ap (chD emR) d
end Go.Proofs.Ytjcaiecapapceaa.Nf
