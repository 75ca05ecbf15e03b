import Derived.Test.YtpiaiandjnpdfaaBsP
import Derived.Test.YtpiaiandjnpdfaaPl
import Derived.Test.YtpiaiandjnpdfaaLyA
import Derived.Test.YtpiaiandjnpdfaaMark
import Derived.Test.YtpiaiandjnpdfaaOpen
import Derived.Test.YtpiaiandjnpdfaaSz
import Derived.Test.YtpiaiandjnpdfaaTo
import Derived.Test.YtpiaiandjnpdfaaEq
import Derived.Test.YtpiaiandjnpdfaaFacts
import Derived.Test.YtpiaiandjnpdfaaRows
import Derived.Deep.RegionHeld3
/-
  For every document that can be read as data, Shortest of the program answers as Shortest of the model, changes nothing of its argument, and its answer owns its memory: the law FnExactShortest returns true, and its argument reads as it did. No condition of ours; as the row says, a document that leads back into itself is not read.
-/
set_option linter.unusedVariables false
set_option linter.unusedSimpArgs false
namespace Go.Proofs.Ytpiaiandjnpdfaa.lawShortest
open Go.ChangeShapes Go.WideShapes Go.ChangeAt Go.RowKit P1

theorem fits_of_size : ∀ f : F, f.size ≤ 1048576 → f.Fits
  | .nil, _ => trivial
  | .cons o n t k r, h => by
    have h1 : t.size ≤ maxLen := by simp only [F.size] at h; unfold maxLen; omega
    have h2 : k.len ≤ maxLen := by have := F.len_le_size k; simp only [F.size] at h; unfold maxLen; omega
    exact ⟨h1, h2, fits_of_size k (by simp only [F.size] at h; omega), fits_of_size r (by simp only [F.size] at h; omega)⟩

theorem sub_drew {w : World} {a : Option Addr} {f : F} {fs : List Nat} (h : SubAt w a f fs) : SubAt w.drew a f fs := h.congr (fun _ _ _ => rfl)

/-- a layout that a walk carries, past the marks in a document -/
theorem past {gs : List Nat} {w w' : World} {a : Option Addr} {l : List (Int × ByteArray)} {fs : List Nat} {lo hi lo' hi' : Nat} (h : LayN.Lies w a l fs lo hi) (k : Only gs w w') (g : In lo' hi' gs) (hh : hi ≤ lo' ∨ hi' ≤ lo) : LayN.Lies w' a l fs lo hi :=
  ⟨h.sub.only k (fun c hc hg => by have h1 := h.lt c hc; have h2 := (h.fresh.2 c hc).1; have h3 := g c hg; omega), k.fresh h.fresh, h.lt⟩
theorem lies_in {w : World} {a : Option Addr} {l : List (Int × ByteArray)} {fs : List Nat} {lo hi : Nat} (h : LayN.Lies w a l fs lo hi) : In lo hi fs := fun c hc => ⟨(h.fresh.2 c hc).1, h.lt c hc⟩

set_option maxRecDepth 100000 in
set_option maxHeartbeats 1600000 in
theorem walk_big (w : World) (o n : Int) (t : ByteArray) (k : F) (a : Option Addr) (cap : Nat) (fs : List Nat) (hs : SubAt w a k fs) (hfs : ∀ c ∈ fs, c < w.heap.size) (hc : k.len ≤ cap) (hl : k.len ≤ maxLen) (hft : k.Fits) (ht : t.size ≤ maxLen) (hbig : (1048576 : Int) < ((t.size + k.size : Nat) : Int)) :
    Calls Try.prog 13 #[.agg #[.int .i64 o, .int .i64 n, .string t, .slice a k.len cap]] w fun e w' => e = .returned (.bool true) ∧ Below w.heap.size w w' := by
  have hsz := fun (w1 : World) (h1 : Ext w w1) => Sz.szDoc (Sz.szS_any k) o n t w1 a cap fs 1048576 (h1.sub hs hfs) (fun c hc => Nat.lt_of_lt_of_le (hfs c hc) h1.size) hc hl hft ht (by omega) (by omega)
  rw [Sz.szR_no hbig] at hsz
  have HS := Lib.hid hsz
  have HE0 := Lib.hid (show ∀ x, Ext w (w.alloc x) from fun x => (Ext.refl w).alloc x)
  clear hsz hs hfs hc hl hft ht hbig
  go_enter Try.func13, Try.ntmps13
  go_wp2_with fail
  refine (HS.out _ (HE0.out _)).mono ?_
  rintro e1 w1 ⟨rfl, hb1⟩
  have HB := Lib.hid hb1
  clear hb1
  go_wp2_with fail
  go_ret
  exact ⟨rfl, (HE0.out _).trans HB.out⟩

set_option maxRecDepth 100000 in
set_option maxHeartbeats 12800000 in
theorem walk_good (w : World) (o n : Int) (t : ByteArray) (k : F) (a : Option Addr) (cap : Nat) (fs : List Nat) (hs : SubAt w a k fs) (hfs : ∀ c ∈ fs, c < w.heap.size) (hc : k.len ≤ cap) (hle : t.size + k.size ≤ 1048576) :
    Calls Try.prog 13 #[.agg #[.int .i64 o, .int .i64 n, .string t, .slice a k.len cap]] w fun e w' => e = .returned (.bool true) ∧ Below w.heap.size w w' := by
  have hll := F.len_le_size k
  have hcc := F.cnt_le_size k
  have hl : k.len ≤ maxLen := by unfold maxLen; omega
  have hft := fits_of_size k (by omega)
  have ht : t.size ≤ maxLen := by unfold maxLen; omega
  have hD0 : DocAt (w.alloc (.cells #[.int .i64 o, .int .i64 n, .string t, .slice a k.len cap] 50)) w.heap.size o n t k a cap fs := DocAt.new hs hfs hc o n t _
  have HD0 := Lib.hid hD0
  have HE0 := Lib.hid (show Ext w (w.alloc (.cells #[.int .i64 o, .int .i64 n, .string t, .slice a k.len cap] 50)) from (Ext.refl w).alloc _)
  have hsz := fun (w1 : World) (h1 : Ext w w1) => Sz.szDoc (Sz.szS_any k) o n t w1 a cap fs 1048576 (h1.sub hs hfs) (fun c hc => Nat.lt_of_lt_of_le (hfs c hc) h1.size) hc hl hft ht (by omega) (by omega)
  rw [Sz.szR_yes (by omega)] at hsz
  obtain ⟨z, hz⟩ : ∃ z : Int, (1048576 : Int) - ((t.size + k.size : Nat) : Int) = z := ⟨_, rfl⟩
  have hz0 : ¬ (z < 0) := by omega
  rw [hz] at hsz
  have hto := fun (w1 : World) (h1 : Ext w w1) => To.toDoc (To.toS_any k) o n t w1 a cap fs (h1.sub hs hfs) (fun c hc => Nat.lt_of_lt_of_le (hfs c hc) h1.size) hc (by omega)
  have heqd := fun (w1 : World) (a1 a2 : Option Addr) (f1 f2 : List Nat) (h1 : SubAt w1 a1 k f1) (h2 : SubAt w1 a2 k f2) (h3 : ∀ c ∈ f1, c < w1.heap.size) (h4 : ∀ c ∈ f2, c < w1.heap.size) => Eq.eqDoc (Eq.eqS_any k k) o n o n t t w1 a1 a2 k.len k.len f1 f2 h1 h2 h3 h4 (Nat.le_refl _) (Nat.le_refl _) hl hl hft hft
  have hsame : sameD o n t k o n t k = true := by rw [sameD_yes, F.same_self]
  rw [hsame] at heqd
  have hspec := fun (w1 : World) (a1 : Option Addr) (f1 : List Nat) (h1 : SubAt w1 a1 k f1) (h2 : ∀ c ∈ f1, c < w1.heap.size) => It.specShortest w1 o n t k a1 k.len f1 h1 h2 (Nat.le_refl _) (by omega) hft ht
  have himpl := fun (w1 : World) (a1 : Option Addr) (f1 : List Nat) (h1 : SubAt w1 a1 k f1) (h2 : ∀ c ∈ f1, c < w1.heap.size ∧ ∀ o, w1.frozen? ⟨c, o, none⟩ = false) => It.implShortest w1 o n t k a1 k.len f1 h1 h2 (Nat.le_refl _) (by omega) hft ht
  have hlr := It.best_len true o n t k
  obtain ⟨⟨X, ok⟩, hr⟩ : ∃ r, It.bestR true o n t k = r := ⟨_, rfl⟩
  rw [hr] at hspec himpl hlr
  have hXl : X.length ≤ 1048576 := hlr
  have hXm : X.length ≤ maxLen := by unfold maxLen; omega
  have heqX := fun (w1 : World) (a1 a2 : Option Addr) (c1 c2 : Nat) (f1 f2 : List Nat) (h1 : LaySub w1 a1 X f1) (h2 : LaySub w1 a2 X f2) (h3 : X.length ≤ c1) (h4 : X.length ≤ c2) => LayL.eqRowS X X w1 a1 a2 c1 c2 f1 f2 h1 h2 h3 h4 hXm hXm
  rw [decide_eq_true rfl] at heqX
  obtain ⟨k1, hk1⟩ : ∃ q : Nat, 1 + 3 * k.cnt = q := ⟨_, rfl⟩
  have hkn : ¬ ((k1 : Int) < 0) := by omega
  have HMD := Lib.hid (fun (w1 : World) (b : Option Addr) (g : List Nat) (lo : Nat) (h : SubAt w1 b k g) (hF : Fresh lo w1 g) => MarkDocs.markDocI o n t k 1 k1 1 rfl hk1 (by omega) (by omega) w1 b k.len g lo h hF (Nat.le_refl _))
  obtain ⟨mm, hmm⟩ : ∃ k : Nat, 1 + 2 * X.length = k := ⟨_, rfl⟩
  have hmn : ¬ ((mm : Int) < 0) := by omega
  have hme : ((mm : Int) != (mm : Int)) = false := by simp
  have HMG := Lib.hid (fun (w1 : World) (b : Option Addr) (c : Nat) (g : List Nat) (lo : Nat) (h : LaySub w1 b X g) (hF : Fresh lo w1 g) (hc : X.length ≤ c) => LayM.markRowS X 1 mm 1 rfl hmm (by omega) (by omega) w1 b c g lo h hF hc)
  have HHG := Lib.hid (fun (w1 : World) (b : Option Addr) (c : Nat) (g : List Nat) (h : LaySub w1 b (L.mk X 1) g) (hc : X.length ≤ c) => LayM.heldRowS X 1 mm X.length 1 rfl hmm rfl (by omega) (by omega) w1 b c g h hc)
  have HSP := Lib.hid (fun (w1 : World) (a1 : Option Addr) (f1 : List Nat) (h1 : SubAt w1 a1 k f1) (h2 : ∀ c ∈ f1, c < w1.heap.size) => (hspec w1 a1 f1 h1 h2).mono fun _ _ h => LayN.LayRes.out h)
  have HIM := Lib.hid (fun (w1 : World) (a1 : Option Addr) (f1 : List Nat) (h1 : SubAt w1 a1 k f1) (h2 : ∀ c ∈ f1, c < w1.heap.size ∧ ∀ o, w1.frozen? ⟨c, o, none⟩ = false) => (himpl w1 a1 f1 h1 h2).mono fun _ _ h => LayN.LayRes.out h)
  have HEQX := Lib.hid heqX
  have HSZ := Lib.hid hsz
  have HTO := Lib.hid hto
  have HEQD := Lib.hid heqd
  have HFS := Lib.hid hfs
  clear hspec himpl heqX hr hlr hXl hXm hmm hk1 hsz hto heqd hs hfs hc hle hll hcc hl hft ht hz hsame hD0
  have hvv : (ok != ok) = false := by simp
  go_enter Try.func13, Try.ntmps13
  go_wp2_with fail
  refine (HSZ.out _ HE0.out).mono ?_
  rintro e1 w1 ⟨rfl, hb⟩
  have D1 := Lib.hid (HD0.out.ext (show Ext _ _ from hb))
  have E1 := Lib.hid (Ext.trans HE0.out hb)
  have S1 := Lib.hid hb.size
  clear hb
  obtain ⟨y0, y1, y2, y3⟩ := D1.out.box
  go_wp2_with fail
  refine (HTO.out _ E1.out).mono ?_
  rintro e1 w2 ⟨ps, qs, rfl, hs, hfr, hb⟩
  try clear y0 y1 y2 y3
  have D2 := Lib.hid (D1.out.ext (show Ext _ _ from hb))
  have E2 := Lib.hid (Ext.trans E1.out hb)
  have S2 := Lib.hid hb.size
  have Ts := Lib.hid (And.intro hs hfr)
  clear hs hfr hb
  go_wp2_with fail
  refine (HSP.out _ _ _ Ts.out.1 Ts.out.2.lt).mono ?_
  rintro e1 w3 ⟨pw, cw, qw, rfl, hc, hs, hfr, hb⟩
  try clear y0 y1 y2 y3
  have D3 := Lib.hid (D2.out.ext (show Ext _ _ from hb))
  have E3 := Lib.hid (Ext.trans E2.out hb)
  have S3 := Lib.hid hb.size
  have Kw := Lib.hid (LayN.Lies.new hs hfr)
  have Cw := Lib.hid hc
  clear hc hs hfr hb
  obtain ⟨y0, y1, y2, y3⟩ := D3.out.box
  go_wp2_with fail
  clear Ts
  refine (HTO.out _ E3.out).mono ?_
  rintro e1 w4 ⟨px, qx, rfl, hs, hfr, hb⟩
  try clear y0 y1 y2 y3
  have Kwq := Lib.hid (Kw.out.below hb)
  clear Kw
  have Kw := Lib.hid Kwq.out
  clear Kwq
  have D4 := Lib.hid (D3.out.ext (show Ext _ _ from hb))
  have E4 := Lib.hid (Ext.trans E3.out hb)
  have S4 := Lib.hid hb.size
  have Tx := Lib.hid (And.intro hs hfr)
  clear hs hfr hb
  go_wp2_with fail
  have hXn := DocAt.new (w := w4) Tx.out.1 Tx.out.2.lt (Nat.le_refl k.len) o n t 25
  have hE := (Ext.refl w4).alloc (.cells #[.int .i64 o, .int .i64 n, .string t, .slice px k.len k.len] 25)
  obtain ⟨w5, hW⟩ : ∃ W, w4.alloc (.cells #[.int .i64 o, .int .i64 n, .string t, .slice px k.len k.len] 25) = W := ⟨_, rfl⟩
  rw [hW] at hXn hE ⊢
  have HIx := Lib.hid (In.of Tx.out.2)
  have Fx := Lib.hid Tx.out.2
  have Kwq := Lib.hid (Kw.out.below hE)
  clear Kw
  have Kw := Lib.hid Kwq.out
  clear Kwq
  have Fxq := Lib.hid (Fx.out.below Fx.out.lt hE)
  clear Fx
  have Fx := Lib.hid Fxq.out
  clear Fxq
  have D5 := Lib.hid (D4.out.ext (show Ext _ _ from hE))
  have E5 := Lib.hid (Ext.trans E4.out hE)
  have S5 := Lib.hid hE.size
  have Xx := Lib.hid hXn
  clear hXn hE hW
  refine (HIM.out _ _ _ Xx.out.sub (fun c hc => ⟨Xx.out.lt c hc, (Fx.out.2 c hc).2.2⟩)).mono ?_
  rintro e1 w6 ⟨pg, cg, qg, rfl, hc, hs, hfr, hb⟩
  try clear y0 y1 y2 y3
  have Kwq := Lib.hid (Kw.out.below hb)
  clear Kw
  have Kw := Lib.hid Kwq.out
  clear Kwq
  have Xxq := Lib.hid (Xx.out.ext (show Ext _ _ from hb))
  clear Xx
  have Xx := Lib.hid Xxq.out
  clear Xxq
  have Fxq := Lib.hid (Fx.out.below Fx.out.lt hb)
  clear Fx
  have Fx := Lib.hid Fxq.out
  clear Fxq
  have D6 := Lib.hid (D5.out.ext (show Ext _ _ from hb))
  have E6 := Lib.hid (Ext.trans E5.out hb)
  have S6 := Lib.hid hb.size
  have Kg := Lib.hid (LayN.Lies.new hs hfr)
  have Cg := Lib.hid hc
  clear hc hs hfr hb
  go_wp2_with fail
  refine (HEQX.out _ _ _ _ _ _ _ Kg.out.sub Kw.out.sub Cg.out Cw.out).mono ?_
  rintro e1 w7 ⟨rfl, hb⟩
  try clear y0 y1 y2 y3
  have Kwq := Lib.hid (Kw.out.below hb)
  clear Kw
  have Kw := Lib.hid Kwq.out
  clear Kwq
  have Kgq := Lib.hid (Kg.out.below hb)
  clear Kg
  have Kg := Lib.hid Kgq.out
  clear Kgq
  have Xxq := Lib.hid (Xx.out.ext (show Ext _ _ from hb))
  clear Xx
  have Xx := Lib.hid Xxq.out
  clear Xxq
  have Fxq := Lib.hid (Fx.out.below Fx.out.lt hb)
  clear Fx
  have Fx := Lib.hid Fxq.out
  clear Fxq
  have D7 := Lib.hid (D6.out.ext (show Ext _ _ from hb))
  have E7 := Lib.hid (Ext.trans E6.out hb)
  have S7 := Lib.hid hb.size
  clear hb
  go_wp2_with fail
  obtain ⟨y0, y1, y2, y3, z0, z1, z2, z3⟩ := two_boxes Xx.out D7.out
  have ly : w4.heap.size < w7.heap.size := Xx.out.blt
  have lz : w.heap.size < w7.heap.size := D7.out.blt
  go_region_held3 (fun w' => w'.cell? ⟨w4.heap.size, 0, none⟩ = some (.int .i64 o) ∧ w'.cell? ⟨w4.heap.size, 1, none⟩ = some (.int .i64 n) ∧ w'.cell? ⟨w4.heap.size, 2, none⟩ = some (.string t) ∧ w'.cell? ⟨w4.heap.size, 3, none⟩ = some (.slice px k.len k.len) ∧ w'.cell? ⟨w.heap.size, 0, none⟩ = some (.int .i64 o) ∧ w'.cell? ⟨w.heap.size, 1, none⟩ = some (.int .i64 n) ∧ w'.cell? ⟨w.heap.size, 2, none⟩ = some (.string t) ∧ w'.cell? ⟨w.heap.size, 3, none⟩ = some (.slice a k.len cap))
    (first
      | go_keep
      | (refine ⟨?_, ?_, ?_, ?_, ?_, ?_, ?_, ?_⟩ <;> (first | assumption | (rw [hb7.cell (p := ⟨_, _, _⟩) (by simp; omega)]; assumption) | (rw [hb8.cell (p := ⟨_, _, _⟩) (by have := hb7.size; simp at this ⊢; omega)]; assumption) | (rw [hb8.cell (p := ⟨_, _, _⟩) (by have := hb7.size; simp at this ⊢; omega), hb7.cell (p := ⟨_, _, _⟩) (by simp; omega)]; assumption))))
    (first
      | (go_at_call 37; refine (HTO.out _ (by first | exact E7.out | exact E7.out.drew)).mono ?_; rintro e1 w7a ⟨p7, q7, rfl, hs7, hfr7, hb7⟩)
      | (go_at_call 39; refine (HEQD.out _ _ _ qx q7 (by first | exact Xx.out.sub.below Xx.out.lt hb7 | exact (sub_drew Xx.out.sub).below Xx.out.lt hb7 | exact sub_drew ((sub_drew Xx.out.sub).below Xx.out.lt hb7)) (by first | exact hs7 | exact sub_drew hs7) (fun c hc => Nat.lt_of_lt_of_le (Xx.out.lt c hc) hb7.size) hfr7.lt).mono ?_; rintro e1 w8 ⟨rfl, hb8⟩))
  have hb : Below w7.heap.size w7 w8 := by
    have q7 : Below w7.heap.size w7 w7a := (Below.refl _ w7).drew.trans hb7
    first | exact q7.trans (hb8.mono q7.size) | exact q7.drew.trans (hb8.mono (by have := q7.size; simp; omega))
  clear y0 y1 y2 y3 z0 z1 z2 z3 ly lz hs7 hfr7 hb7 hb8
  have Kwq := Lib.hid (Kw.out.below hb)
  clear Kw
  have Kw := Lib.hid Kwq.out
  clear Kwq
  have Kgq := Lib.hid (Kg.out.below hb)
  clear Kg
  have Kg := Lib.hid Kgq.out
  clear Kgq
  have Xxq := Lib.hid (Xx.out.ext (show Ext _ _ from hb))
  clear Xx
  have Xx := Lib.hid Xxq.out
  clear Xxq
  have Fxq := Lib.hid (Fx.out.below Fx.out.lt hb)
  clear Fx
  have Fx := Lib.hid Fxq.out
  clear Fxq
  have D8 := Lib.hid (D7.out.ext (show Ext _ _ from hb))
  have E8 := Lib.hid (Ext.trans E7.out hb)
  have S8 := Lib.hid hb.size
  clear hb
  obtain ⟨y0, y1, y2, y3⟩ := Xx.out.box
  go_wp2_with fail
  refine (HMD.out _ _ _ _ Xx.out.sub Fx.out).mono ?_
  rintro e1 w9 ⟨rfl, hs, hO⟩
  clear y0 y1 y2 y3
  have Kwq := Lib.hid (past Kw.out hO HIx.out (Or.inl (by have := S1.out; have := S2.out; have := S3.out; have := S4.out; have := S5.out; have := S6.out; have := S7.out; have := S8.out; omega)))
  clear Kw
  have Kw := Lib.hid Kwq.out
  clear Kwq
  have Kgq := Lib.hid (past Kg.out hO HIx.out (Or.inr (by have := S1.out; have := S2.out; have := S3.out; have := S4.out; have := S5.out; have := S6.out; have := S7.out; have := S8.out; omega)))
  clear Kg
  have Kg := Lib.hid Kgq.out
  clear Kgq
  have D9 := Lib.hid (D8.out.only hO (fun hm => by have := HIx.out _ hm; have := D1.out.blt; have := S1.out; have := S2.out; have := S3.out; have := S4.out; have := S5.out; have := S6.out; have := S7.out; have := S8.out; omega) (fun c hc hm => by have := HIx.out _ hm; have := HFS.out c hc; have := D1.out.blt; have := S1.out; have := S2.out; have := S3.out; have := S4.out; have := S5.out; have := S6.out; have := S7.out; have := S8.out; omega))
  have E9 := Lib.hid (E8.out.only hO (fun c hm => by have := HIx.out _ hm; have := D1.out.blt; have := S1.out; have := S2.out; have := S3.out; have := S4.out; have := S5.out; have := S6.out; have := S7.out; have := S8.out; omega))
  have S9 := Lib.hid hO.size
  clear hs hO Xx Fx
  go_wp2_with fail
  refine (HEQX.out _ _ _ _ _ _ _ Kg.out.sub Kw.out.sub Cg.out Cw.out).mono ?_
  rintro e1 w10 ⟨rfl, hb⟩
  try clear y0 y1 y2 y3
  have Kwq := Lib.hid (Kw.out.below hb)
  clear Kw
  have Kw := Lib.hid Kwq.out
  clear Kwq
  have Kgq := Lib.hid (Kg.out.below hb)
  clear Kg
  have Kg := Lib.hid Kgq.out
  clear Kgq
  have D10 := Lib.hid (D9.out.ext (show Ext _ _ from hb))
  have E10 := Lib.hid (Ext.trans E9.out hb)
  have S10 := Lib.hid hb.size
  clear hb
  go_wp2_with fail
  refine (HMG.out _ _ _ _ _ Kg.out.sub Kg.out.fresh Cg.out).mono ?_
  rintro e1 w11 ⟨rfl, hs, hO⟩
  have HIg := Lib.hid (lies_in Kg.out)
  have Kwq := Lib.hid (past Kw.out hO HIg.out (Or.inl (by have := S1.out; have := S2.out; have := S3.out; have := S4.out; have := S5.out; have := S6.out; have := S7.out; have := S8.out; have := S9.out; have := S10.out; omega)))
  clear Kw
  have Kw := Lib.hid Kwq.out
  clear Kwq
  have D11 := Lib.hid (D10.out.only hO (fun hm => by have := HIg.out _ hm; have := D1.out.blt; have := S1.out; have := S2.out; have := S3.out; have := S4.out; have := S5.out; have := S6.out; have := S7.out; have := S8.out; have := S9.out; have := S10.out; omega) (fun c hc hm => by have := HIg.out _ hm; have := HFS.out c hc; have := D1.out.blt; have := S1.out; have := S2.out; have := S3.out; have := S4.out; have := S5.out; have := S6.out; have := S7.out; have := S8.out; have := S9.out; have := S10.out; omega))
  have E11 := Lib.hid (E10.out.only hO (fun c hm => by have := HIg.out _ hm; have := D1.out.blt; have := S1.out; have := S2.out; have := S3.out; have := S4.out; have := S5.out; have := S6.out; have := S7.out; have := S8.out; have := S9.out; have := S10.out; omega))
  have S11 := Lib.hid hO.size
  have Kgq := Lib.hid (Kg.out.mark hO hs)
  clear Kg hs hO
  have Kg := Lib.hid Kgq.out
  clear Kgq
  go_wp2_with fail
  refine (HHG.out _ _ _ _ Kg.out.sub Cg.out).mono ?_
  rintro e1 w12 ⟨rfl, hb⟩
  try clear y0 y1 y2 y3
  have Kwq := Lib.hid (Kw.out.below hb)
  clear Kw
  have Kw := Lib.hid Kwq.out
  clear Kwq
  have Kgq := Lib.hid (Kg.out.below hb)
  clear Kg
  have Kg := Lib.hid Kgq.out
  clear Kgq
  have D12 := Lib.hid (D11.out.ext (show Ext _ _ from hb))
  have E12 := Lib.hid (Ext.trans E11.out hb)
  have S12 := Lib.hid hb.size
  clear hb
  obtain ⟨y0, y1, y2, y3⟩ := D12.out.box
  go_wp2_with fail
  refine (HTO.out _ E12.out).mono ?_
  rintro e1 w13 ⟨pv, qv, rfl, hs, hfr, hb⟩
  try clear y0 y1 y2 y3
  have Kwq := Lib.hid (Kw.out.below hb)
  clear Kw
  have Kw := Lib.hid Kwq.out
  clear Kwq
  have Kgq := Lib.hid (Kg.out.below hb)
  clear Kg
  have Kg := Lib.hid Kgq.out
  clear Kgq
  have D13 := Lib.hid (D12.out.ext (show Ext _ _ from hb))
  have E13 := Lib.hid (Ext.trans E12.out hb)
  have S13 := Lib.hid hb.size
  have Tv := Lib.hid (And.intro hs hfr)
  clear hs hfr hb
  go_wp2_with fail
  refine (HIM.out _ _ _ Tv.out.1 (fun c hc => ⟨Tv.out.2.lt c hc, (Tv.out.2.2 c hc).2.2⟩)).mono ?_
  rintro e1 w14 ⟨ph, ch, qh, rfl, hc, hs, hfr, hb⟩
  try clear y0 y1 y2 y3
  have Kwq := Lib.hid (Kw.out.below hb)
  clear Kw
  have Kw := Lib.hid Kwq.out
  clear Kwq
  have Kgq := Lib.hid (Kg.out.below hb)
  clear Kg
  have Kg := Lib.hid Kgq.out
  clear Kgq
  have D14 := Lib.hid (D13.out.ext (show Ext _ _ from hb))
  have E14 := Lib.hid (Ext.trans E13.out hb)
  have S14 := Lib.hid hb.size
  have Kh := Lib.hid (LayN.Lies.new hs hfr)
  have Ch := Lib.hid hc
  clear hc hs hfr hb
  go_wp2_with fail
  refine (HEQX.out _ _ _ _ _ _ _ Kh.out.sub Kw.out.sub Ch.out Cw.out).mono ?_
  rintro e1 w15 ⟨rfl, hb⟩
  try clear y0 y1 y2 y3
  have Kwq := Lib.hid (Kw.out.below hb)
  clear Kw
  have Kw := Lib.hid Kwq.out
  clear Kwq
  have Kgq := Lib.hid (Kg.out.below hb)
  clear Kg
  have Kg := Lib.hid Kgq.out
  clear Kgq
  have Khq := Lib.hid (Kh.out.below hb)
  clear Kh
  have Kh := Lib.hid Khq.out
  clear Khq
  have D15 := Lib.hid (D14.out.ext (show Ext _ _ from hb))
  have E15 := Lib.hid (Ext.trans E14.out hb)
  have S15 := Lib.hid hb.size
  clear hb
  go_wp2_with fail
  refine (HHG.out _ _ _ _ Kg.out.sub Cg.out).mono ?_
  rintro e1 w16 ⟨rfl, hb⟩
  try clear y0 y1 y2 y3
  have Kwq := Lib.hid (Kw.out.below hb)
  clear Kw
  have Kw := Lib.hid Kwq.out
  clear Kwq
  have Kgq := Lib.hid (Kg.out.below hb)
  clear Kg
  have Kg := Lib.hid Kgq.out
  clear Kgq
  have Khq := Lib.hid (Kh.out.below hb)
  clear Kh
  have Kh := Lib.hid Khq.out
  clear Khq
  have D16 := Lib.hid (D15.out.ext (show Ext _ _ from hb))
  have E16 := Lib.hid (Ext.trans E15.out hb)
  have S16 := Lib.hid hb.size
  clear hb
  go_wp2_with fail
  go_ret
  exact ⟨rfl, E16.out⟩

theorem walk (w : World) (o n : Int) (t : ByteArray) (k : F) (a : Option Addr) (cap : Nat) (fs : List Nat) (hs : SubAt w a k fs) (hfs : ∀ c ∈ fs, c < w.heap.size) (hc : k.len ≤ cap) (hl : k.len ≤ maxLen) (hft : k.Fits) (ht : t.size ≤ maxLen) :
    Calls Try.prog 13 #[.agg #[.int .i64 o, .int .i64 n, .string t, .slice a k.len cap]] w fun e w' => e = .returned (.bool true) ∧ Below w.heap.size w w' := by
  by_cases hbig : (1048576 : Int) < ((t.size + k.size : Nat) : Int)
  · exact walk_big w o n t k a cap fs hs hfs hc hl hft ht hbig
  · exact walk_good w o n t k a cap fs hs hfs hc (by omega)

set_option maxRecDepth 100000 in
theorem lifted (os : Os) (started : os.Started) (H : Type) (enc : TypeId × Value → H) :
    ReturnsInHanded {} Try.checked os 13 .any (Rows.fnExactShortestSpec.pre6 enc Try.prog Try.f13 Rows.fnExactShortestRow.domain false) (Rows.fnExactShortestSpec.post enc Try.prog Try.f13 false true false false) := by
  refine returnsInHanded_of_change (C := Try.checked) Facts.own started (by kernel_rfl) Try.func13
    (ChangeSpec.witness6 (enc := enc) (C := Try.checked) false ⟨#[], #[.agg #[.int .i64 0, .int .i64 0, .string ⟨#[]⟩, .slice none 0 0]], []⟩ 8 (by kernel_rfl) (by kernel_rfl) (by kernel_rfl) (by kernel_rfl)) ?_
  intro W base args ds gs before hval0 hW hcnd0 _
  clear hcnd0
  have hval : ∀ (j : Nat) t v, Try.f13.params[j]? = some t → args[j]? = some v → Value.okWide Try.prog W .any base t v := hval0
  have hW' := hW
  obtain ⟨p, q, hA0, hV, rfl, hfz, hnd⟩ := hW
  have hA : DataW.TrodAll enc Try.prog W 0 (fun _ => true) true Try.f13.params.toList args.toList ds p := hA0
  rw [Try.params13] at hA hval
  obtain ⟨v0, d0, rfl, rfl, h0⟩ := trodAll_one hA
  obtain ⟨rfl, rfl⟩ := trodVars_none hV
  obtain ⟨o, n, t, k, a, cap, fs, rfl, ht, hl, hft, hc, hs, hfs⟩ := Open.open_doc (hval 0 50 v0 rfl rfl) h0
  clear hA0 hval0
  simp only [List.append_nil] at hW'
  have hlt : ∀ x ∈ p, x.block < W.heap.size := fun x hx => by simpa using hW'.lt x hx
  refine (walk W o n t k a cap fs hs hfs hc hl hft ht).mono fun e W' ⟨he, hb⟩ => ?_
  subst he
  refine ⟨_, rfl, [d0], [], p, [], p, [], hW', trodAll_mk1 (shut_bool Try.underlying4 _), ?_, rfl, hb.frame _, fun h => by cases h⟩
  exact trodAll_mk1 (Below.trod Facts.laidOut (by kernel_rfl) (of_decide_eq_true (by kernel_rfl)) h0 hb hlt)

theorem named : Try.prog.funcNamed Rows.fnExactShortestRow.func = some 13 := by kernel_rfl
theorem closed : joinedFacts Try.prog 13 Try.f13 Rows.fnExactShortestSpec Rows.fnExactShortestRow = true :=
  Facts.closed_of rfl rfl rfl rfl (h28b := rfl) (by kernel_rfl) (by kernel_rfl) (by kernel_rfl) (by kernel_rfl) (by kernel_rfl) (by kernel_rfl) (by kernel_rfl) (by kernel_rfl) (by kernel_rfl) (by kernel_rfl) (by kernel_rfl) (by kernel_rfl) (by kernel_rfl) (by kernel_rfl) (by kernel_rfl) (by kernel_rfl) (by kernel_rfl) (by kernel_rfl) (by kernel_rfl) (by kernel_rfl) (by kernel_rfl) (by kernel_rfl) (by kernel_rfl) (by kernel_rfl)
theorem instanced : Try.f13.isInstance Try.prog Rows.fnExactShortestRow.origin Rows.fnExactShortestRow.targs := of_decide_eq_true (by kernel_rfl)
theorem wrapped : Try.f13.isWrapper Try.prog Rows.fnExactShortestRow.wrapper Rows.fnExactShortestRow.mainSum := by
  unfold Func.isWrapper
  rw [if_neg (of_decide_eq_false (by kernel_rfl))]
  exact ⟨rfl, rfl⟩

theorem holds : Rows.FnExactShortestSaid :=
  OpenClaim.holds_of_wide 13 Try.f13 rfl rfl rfl rfl rfl rfl rfl ⟨rfl, rfl, rfl, rfl, rfl⟩ rfl rfl rfl rfl rfl named Try.func13 closed instanced wrapped
    (fun os started H enc _ => lifted os started H enc)

end Go.Proofs.Ytpiaiandjnpdfaa.lawShortest
