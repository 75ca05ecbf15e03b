import Derived.Test.YtgcaolofehgbeaaOpen
import Derived.Test.YtgcaolofehgbeaaSz
import Derived.Test.YtgcaolofehgbeaaTo
import Derived.Test.YtgcaolofehgbeaaEq
import Derived.Test.YtgcaolofehgbeaaMark
import Derived.Test.YtgcaolofehgbeaaOpenN
import Derived.Test.YtgcaolofehgbeaaLyA
import Derived.Test.YtgcaolofehgbeaaBeI
import Derived.Test.YtgcaolofehgbeaaExK
import Derived.Test.YtgcaolofehgbeaaPl
import Derived.Test.YtgcaolofehgbeaaFacts
import Derived.Test.YtgcaolofehgbeaaRows
import Derived.Deep.RegionHeld3
/-
  For every document and width that can be read as data, BestLayout of the program answers as BestLayout of the model, changes nothing of its arguments, and its answer owns its memory: the law FnExactBestLayout returns true, and its arguments read as they did. No condition of ours; as the row says, an argument that leads back into itself is not read.
-/
set_option linter.unusedVariables false
set_option linter.unusedSimpArgs false
namespace Go.Proofs.Ytgcaolofehgbeaa.lawBestLayout
open Go.ChangeShapes Go.WideShapes Go.ChangeAt Go.RowKit P1

set_option maxRecDepth 100000 in
set_option maxHeartbeats 1600000 in
theorem walk_big0 (w : World) (o0 n0 : Int) (t0 : ByteArray) (k0 : F) (a0 : Option Addr) (c0 : Nat) (f0 : List Nat) (x1 : Int) (hs0 : SubAt w a0 k0 f0) (hfs0 : ∀ c ∈ f0, c < w.heap.size) (hc0 : k0.len ≤ c0) (hl0 : k0.len ≤ maxLen) (hft0 : k0.Fits) (ht0 : t0.size ≤ maxLen) (hx1 : -9223372036854775808 ≤ x1 ∧ x1 ≤ 9223372036854775807)  (hbig : 1048576 < ((t0.size + k0.size : Nat) : Int)) :
    Calls Try.prog 7 #[.agg #[.int .i64 o0, .int .i64 n0, .string t0, .slice a0 k0.len c0], .int .i64 x1] w fun e w' => e = .returned (.bool true) ∧ Below w.heap.size w w' := by
  have hsz0 := fun (w1 : World) (h1 : Ext w w1) => Sz.szDoc (Sz.szS_any k0) o0 n0 t0 w1 a0 c0 f0 1048576 (h1.sub hs0 hfs0) (fun c hc => Nat.lt_of_lt_of_le (hfs0 c hc) h1.size) hc0 hl0 hft0 ht0 (by omega) (by omega)
  rw [Sz.szR_no hbig] at hsz0
  have HSZ0 := Lib.hid hsz0
  have HE0 := Lib.hid (show Ext w (w.alloc (.cells #[.int .i64 o0, .int .i64 n0, .string t0, .slice a0 k0.len c0] 56)) from ((Ext.refl w).alloc _))
  clear hsz0 hbig hs0 hfs0 hc0 hl0 hft0 ht0 
  go_enter Try.func7, Try.ntmps7
  go_wp2_with fail
  refine (HSZ0.out _ HE0.out).mono ?_
  rintro e1 w1 ⟨rfl, hb⟩
  have H1 := Lib.hid (Ext.trans HE0.out hb)
  clear hb
  go_wp2_with fail
  go_ret
  exact ⟨rfl, H1.out⟩

set_option maxRecDepth 100000 in
set_option maxHeartbeats 12800000 in
theorem walk_good (w : World) (o0 n0 : Int) (t0 : ByteArray) (k0 : F) (a0 : Option Addr) (c0 : Nat) (f0 : List Nat) (x1 : Int) (hs0 : SubAt w a0 k0 f0) (hfs0 : ∀ c ∈ f0, c < w.heap.size) (hc0 : k0.len ≤ c0) (hl0 : k0.len ≤ maxLen) (hft0 : k0.Fits) (ht0 : t0.size ≤ maxLen) (hx1 : -9223372036854775808 ≤ x1 ∧ x1 ≤ 9223372036854775807) (z0 : Int) (hz0 : 1048576 - ((t0.size + k0.size : Nat) : Int) = z0) (hzn0 : 0 ≤ z0) :
    Calls Try.prog 7 #[.agg #[.int .i64 o0, .int .i64 n0, .string t0, .slice a0 k0.len c0], .int .i64 x1] w fun e w' => e = .returned (.bool true) ∧ Below w.heap.size w w' := by
  have HD0 := Lib.hid (show DocAt (w.alloc (.cells #[.int .i64 o0, .int .i64 n0, .string t0, .slice a0 k0.len c0] 56)) w.heap.size o0 n0 t0 k0 a0 c0 f0 from by first | exact (DocAt.new (Ext.sub (Ext.refl w) hs0 hfs0) (fun c hc => Nat.lt_of_lt_of_le (hfs0 c hc) (Ext.size (Ext.refl w))) hc0 o0 n0 t0 _) | simpa using (DocAt.new (Ext.sub (Ext.refl w) hs0 hfs0) (fun c hc => Nat.lt_of_lt_of_le (hfs0 c hc) (Ext.size (Ext.refl w))) hc0 o0 n0 t0 _))
  have HE0 := Lib.hid (show Ext w (w.alloc (.cells #[.int .i64 o0, .int .i64 n0, .string t0, .slice a0 k0.len c0] 56)) from ((Ext.refl w).alloc _))
  have hsz0 := fun (w1 : World) (h1 : Ext w w1) => Sz.szDoc (Sz.szS_any k0) o0 n0 t0 w1 a0 c0 f0 1048576 (h1.sub hs0 hfs0) (fun c hc => Nat.lt_of_lt_of_le (hfs0 c hc) h1.size) hc0 hl0 hft0 ht0 (by omega) (by omega)
  rw [Sz.szR_yes (by omega), hz0] at hsz0
  have hzq0 : ¬ (z0 < 0) := by omega
  have HSZ0 := Lib.hid hsz0
  have hle0 : t0.size + k0.size ≤ 1048576 := by omega
  have hll0 := F.len_le_size k0
  have hcc0 := F.cnt_le_size k0
  have hto0 := fun (w1 : World) (h1 : Ext w w1) => To.toDoc (To.toS_any k0) o0 n0 t0 w1 a0 c0 f0 (h1.sub hs0 hfs0) (fun c hc => Nat.lt_of_lt_of_le (hfs0 c hc) h1.size) hc0 (by omega)
  have heq0 := fun (w1 : World) (a1 a2 : Option Addr) (f1 f2 : List Nat) (h1 : SubAt w1 a1 k0 f1) (h2 : SubAt w1 a2 k0 f2) (h3 : ∀ c ∈ f1, c < w1.heap.size) (h4 : ∀ c ∈ f2, c < w1.heap.size) => Eq.eqDoc (Eq.eqS_any k0 k0) o0 n0 o0 n0 t0 t0 w1 a1 a2 k0.len k0.len f1 f2 h1 h2 h3 h4 (Nat.le_refl _) (Nat.le_refl _) hl0 hl0 hft0 hft0
  rw [show sameD o0 n0 t0 k0 o0 n0 t0 k0 = true by rw [sameD_yes, F.same_self]] at heq0
  have HFS0 := Lib.hid hfs0
  have HTO0 := Lib.hid hto0
  have HEQ0 := Lib.hid heq0
  have hspec := fun (w1 : World) (b0 : Option Addr) (g0 : List Nat) (h0 : SubAt w1 b0 k0 g0) (m0 : ∀ c ∈ g0, c < w1.heap.size ∧ ∀ o, w1.frozen? ⟨c, o, none⟩ = false) => Be.specBestLayout x1 w1 o0 n0 t0 k0 b0 k0.len g0 h0 (fun c hc => (m0 c hc).1) (Nat.le_refl _) (by omega) hft0 ht0
  have himpl := fun (w1 : World) (b0 : Option Addr) (g0 : List Nat) (h0 : SubAt w1 b0 k0 g0) (m0 : ∀ c ∈ g0, c < w1.heap.size ∧ ∀ o, w1.frozen? ⟨c, o, none⟩ = false) => Be.implBestLayout x1 w1 o0 n0 t0 k0 b0 k0.len g0 h0 m0 (Nat.le_refl _) (by omega) hft0 ht0
  have hlr := Be.be_len x1 o0 n0 t0 k0
  obtain ⟨⟨X, v0⟩, hr⟩ : ∃ r, Be.beR x1 o0 n0 t0 k0 = r := ⟨_, rfl⟩
  rw [hr] at hspec himpl hlr
  have hvv0 : (v0 != v0) = false := by simp
  have hXl : X.length ≤ 1048576 := hlr
  have hXm : X.length ≤ maxLen := by unfold maxLen; omega
  have heqX := fun (w1 : World) (a1 a2 : Option Addr) (c1 c2 : Nat) (f1 f2 : List Nat) (h1 : LaySub w1 a1 X f1) (h2 : LaySub w1 a2 X f2) (h3 : X.length ≤ c1) (h4 : X.length ≤ c2) => LayL.eqRowS X X w1 a1 a2 c1 c2 f1 f2 h1 h2 h3 h4 hXm hXm
  rw [decide_eq_true rfl] at heqX
  have HEQX := Lib.hid heqX
  obtain ⟨kk1, hk1⟩ : ∃ q : Nat, 1 + 3 * k0.cnt = q := ⟨_, rfl⟩
  have hkn1 : ¬ ((kk1 : Int) < 0) := by omega
  have HMK0 := Lib.hid (fun (w1 : World) (b : Option Addr) (g : List Nat) (lo : Nat) (h : SubAt w1 b k0 g) (hF : Fresh lo w1 g) => MarkDocs.markDocI o0 n0 t0 k0 1 kk1 1 rfl hk1 (by omega) (by omega) w1 b k0.len g lo h hF (Nat.le_refl _))
  obtain ⟨mm, hmm⟩ : ∃ k : Nat, 1 + 2 * X.length = k := ⟨_, rfl⟩
  have hmn : ¬ ((mm : Int) < 0) := by omega
  have hme : ((mm : Int) != (mm : Int)) = false := by simp
  have HMG := Lib.hid (fun (w1 : World) (b : Option Addr) (c : Nat) (g : List Nat) (lo : Nat) (h : LaySub w1 b X g) (hF : Fresh lo w1 g) (hc : X.length ≤ c) => LayM.markRowS X 1 mm 1 rfl hmm (by omega) (by omega) w1 b c g lo h hF hc)
  have HHG := Lib.hid (fun (w1 : World) (b : Option Addr) (c : Nat) (g : List Nat) (h : LaySub w1 b (L.mk X 1) g) (hc : X.length ≤ c) => LayM.heldRowS X 1 mm X.length 1 rfl hmm rfl (by omega) (by omega) w1 b c g h hc)
  have HSP := Lib.hid (fun (w1 : World) (b0 : Option Addr) (g0 : List Nat) (h0 : SubAt w1 b0 k0 g0) (m0 : ∀ c ∈ g0, c < w1.heap.size ∧ ∀ o, w1.frozen? ⟨c, o, none⟩ = false) => (hspec w1 b0 g0 h0 m0).mono fun _ _ h => LayN.LayRes.out h)
  have HIM := Lib.hid (fun (w1 : World) (b0 : Option Addr) (g0 : List Nat) (h0 : SubAt w1 b0 k0 g0) (m0 : ∀ c ∈ g0, c < w1.heap.size ∧ ∀ o, w1.frozen? ⟨c, o, none⟩ = false) => (himpl w1 b0 g0 h0 m0).mono fun _ _ h => LayN.LayRes.out h)
  clear hspec himpl hle0 hll0 hcc0 hsz0 hto0 heq0 hs0 hfs0 hc0 hl0 hft0 ht0 hz0 hr heqX hlr hk1 hmm hXl hXm 
  go_enter Try.func7, Try.ntmps7
  go_wp2_with fail
  refine (HSZ0.out _ HE0.out).mono ?_
  rintro e1 w1 ⟨rfl, hb⟩
  try clear y00 y01 y02 y03
  have D0q := Lib.hid (HD0.out.ext (show Ext _ _ from hb))
  clear HD0
  have D0 := Lib.hid D0q.out
  clear D0q
  have E1 := Lib.hid (show Ext w w1 from Ext.trans HE0.out hb)
  have S1 := Lib.hid (show w.heap.size ≤ w1.heap.size from E1.out.size)
  have B0 := Lib.hid D0.out.blt
  clear hb
  try clear y00 y01 y02 y03
  obtain ⟨y00, y01, y02, y03⟩ := D0.out.box
  go_wp2_with fail
  refine (HTO0.out _ E1.out).mono ?_
  rintro e1 w2 ⟨ps0, qs0, rfl, hs, hfr, hb⟩
  try clear y00 y01 y02 y03
  have D0q := Lib.hid (D0.out.ext (show Ext _ _ from hb))
  clear D0
  have D0 := Lib.hid D0q.out
  clear D0q
  have E2 := Lib.hid (show Ext w w2 from Ext.trans E1.out hb)
  have S2 := Lib.hid hb.size
  have Ks0 := Lib.hid (DLies.new hs hfr)
  clear hs hfr hb
  try clear y00 y01 y02 y03
  obtain ⟨y00, y01, y02, y03⟩ := D0.out.box
  go_wp2_with fail
  refine (HSP.out _ _ _ Ks0.out.sub Ks0.out.own).mono ?_
  rintro e1 w3 ⟨pw, cw, qw, rfl, hc, hs, hfr, hb⟩
  try clear y00 y01 y02 y03
  have D0q := Lib.hid (D0.out.ext (show Ext _ _ from hb))
  clear D0
  have D0 := Lib.hid D0q.out
  clear D0q
  have Ks0q := Lib.hid (Ks0.out.below hb)
  clear Ks0
  have Ks0 := Lib.hid Ks0q.out
  clear Ks0q
  have E3 := Lib.hid (show Ext w w3 from Ext.trans E2.out hb)
  have S3 := Lib.hid hb.size
  have Kw := Lib.hid (LayN.Lies.new hs hfr)
  have Cw := Lib.hid hc
  clear hc hs hfr hb
  try clear y00 y01 y02 y03
  obtain ⟨y00, y01, y02, y03⟩ := D0.out.box
  go_wp2_with fail
  clear Ks0
  refine (HTO0.out _ E3.out).mono ?_
  rintro e1 w4 ⟨px0, qx0, rfl, hs, hfr, hb⟩
  try clear y00 y01 y02 y03
  have D0q := Lib.hid (D0.out.ext (show Ext _ _ from hb))
  clear D0
  have D0 := Lib.hid D0q.out
  clear D0q
  have Kwq := Lib.hid (Kw.out.below hb)
  clear Kw
  have Kw := Lib.hid Kwq.out
  clear Kwq
  have E4 := Lib.hid (show Ext w w4 from Ext.trans E3.out hb)
  have S4 := Lib.hid hb.size
  have Kx0 := Lib.hid (DLies.new hs hfr)
  clear hs hfr hb
  try clear y00 y01 y02 y03
  obtain ⟨y00, y01, y02, y03⟩ := D0.out.box
  go_wp2_with fail
  have hXn := XDoc.new (o := o0) (n := n0) (t := t0) Kx0.out 25
  have hE := (Ext.refl w4).alloc (.cells #[.int .i64 o0, .int .i64 n0, .string t0, .slice px0 k0.len k0.len] 25)
  obtain ⟨w5, hW⟩ : ∃ W, w4.alloc (.cells #[.int .i64 o0, .int .i64 n0, .string t0, .slice px0 k0.len k0.len] 25) = W := ⟨_, rfl⟩
  rw [hW] at hXn hE ⊢
  try clear y00 y01 y02 y03
  have D0q := Lib.hid (D0.out.ext (show Ext _ _ from hE))
  clear D0
  have D0 := Lib.hid D0q.out
  clear D0q
  have Kwq := Lib.hid (Kw.out.below hE)
  clear Kw
  have Kw := Lib.hid Kwq.out
  clear Kwq
  have E5 := Lib.hid (show Ext w w5 from Ext.trans E4.out hE)
  have S5 := Lib.hid hE.size
  have Xx0 := Lib.hid hXn
  clear Kx0
  clear hXn hE hW
  refine (HIM.out _ _ _ Xx0.out.lies.sub Xx0.out.lies.own).mono ?_
  rintro e1 w6 ⟨pg, cg, qg, rfl, hc, hs, hfr, hb⟩
  try clear y00 y01 y02 y03
  try clear x00 x01 x02 x03
  have D0q := Lib.hid (D0.out.ext (show Ext _ _ from hb))
  clear D0
  have D0 := Lib.hid D0q.out
  clear D0q
  have Kwq := Lib.hid (Kw.out.below hb)
  clear Kw
  have Kw := Lib.hid Kwq.out
  clear Kwq
  have Xx0q := Lib.hid (Xx0.out.ext hb)
  clear Xx0
  have Xx0 := Lib.hid Xx0q.out
  clear Xx0q
  have E6 := Lib.hid (show Ext w w6 from Ext.trans E5.out hb)
  have S6 := Lib.hid hb.size
  have Kg := Lib.hid (LayN.Lies.new hs hfr)
  have Cg := Lib.hid hc
  clear hc hs hfr hb
  try clear y00 y01 y02 y03
  obtain ⟨y00, y01, y02, y03⟩ := D0.out.box
  try clear x00 x01 x02 x03
  obtain ⟨x00, x01, x02, x03⟩ := Xx0.out.box
  go_wp2_with fail
  refine (HEQX.out _ _ _ _ _ _ _ Kg.out.sub Kw.out.sub Cg.out Cw.out).mono ?_
  rintro e1 w7 ⟨rfl, hb⟩
  try clear y00 y01 y02 y03
  try clear x00 x01 x02 x03
  have D0q := Lib.hid (D0.out.ext (show Ext _ _ from hb))
  clear D0
  have D0 := Lib.hid D0q.out
  clear D0q
  have Kwq := Lib.hid (Kw.out.below hb)
  clear Kw
  have Kw := Lib.hid Kwq.out
  clear Kwq
  have Xx0q := Lib.hid (Xx0.out.ext hb)
  clear Xx0
  have Xx0 := Lib.hid Xx0q.out
  clear Xx0q
  have Kgq := Lib.hid (Kg.out.below hb)
  clear Kg
  have Kg := Lib.hid Kgq.out
  clear Kgq
  have E7 := Lib.hid (show Ext w w7 from Ext.trans E6.out hb)
  have S7 := Lib.hid hb.size
  clear hb
  try clear y00 y01 y02 y03
  obtain ⟨y00, y01, y02, y03⟩ := D0.out.box
  try clear x00 x01 x02 x03
  obtain ⟨x00, x01, x02, x03⟩ := Xx0.out.box
  go_wp2_with fail
  have ly : w4.heap.size < w7.heap.size := Xx0.out.blt
  have lz : w.heap.size < w7.heap.size := D0.out.blt
  go_region_held3 (fun w' => w'.cell? ⟨w4.heap.size, 0, none⟩ = some (.int .i64 o0) ∧ w'.cell? ⟨w4.heap.size, 1, none⟩ = some (.int .i64 n0) ∧ w'.cell? ⟨w4.heap.size, 2, none⟩ = some (.string t0) ∧ w'.cell? ⟨w4.heap.size, 3, none⟩ = some (.slice px0 k0.len k0.len) ∧ w'.cell? ⟨w.heap.size, 0, none⟩ = some (.int .i64 o0) ∧ w'.cell? ⟨w.heap.size, 1, none⟩ = some (.int .i64 n0) ∧ w'.cell? ⟨w.heap.size, 2, none⟩ = some (.string t0) ∧ w'.cell? ⟨w.heap.size, 3, none⟩ = some (.slice a0 k0.len c0))
    (first
      | go_keep
      | (refine ⟨?_, ?_, ?_, ?_, ?_, ?_, ?_, ?_⟩ <;> (first | assumption | (rw [hb7.cell (p := ⟨_, _, _⟩) (by simp; omega)]; assumption) | (rw [hb8.cell (p := ⟨_, _, _⟩) (by have := hb7.size; simp at this ⊢; omega)]; assumption) | (rw [hb8.cell (p := ⟨_, _, _⟩) (by have := hb7.size; simp at this ⊢; omega), hb7.cell (p := ⟨_, _, _⟩) (by simp; omega)]; assumption))))
    (first
      | (go_at_call 32; refine (HTO0.out _ (by first | exact E7.out | exact E7.out.drew)).mono ?_; rintro e1 w7a ⟨p7, q7, rfl, hs7, hfr7, hb7⟩)
      | (go_at_call 34; refine (HEQ0.out _ _ _ qx0 q7 (by first | exact Xx0.out.lies.sub.below Xx0.out.lies.fresh.lt hb7 | exact (ex_drew Xx0.out.lies.sub).below Xx0.out.lies.fresh.lt hb7 | exact ex_drew ((ex_drew Xx0.out.lies.sub).below Xx0.out.lies.fresh.lt hb7)) (by first | exact hs7 | exact ex_drew hs7) (fun c hc => Nat.lt_of_lt_of_le (Xx0.out.lies.fresh.lt c hc) hb7.size) hfr7.lt).mono ?_; rintro e1 w8 ⟨rfl, hb8⟩))
  have hb : Below w7.heap.size w7 w8 := by
    have q7 : Below w7.heap.size w7 w7a := (Below.refl _ w7).drew.trans hb7
    first | exact q7.trans (hb8.mono q7.size) | exact q7.drew.trans (hb8.mono (by have := q7.size; simp; omega))
  try clear y00 y01 y02 y03
  try clear x00 x01 x02 x03
  clear ly lz hs7 hfr7 hb7 hb8
  have D0q := Lib.hid (D0.out.ext (show Ext _ _ from hb))
  clear D0
  have D0 := Lib.hid D0q.out
  clear D0q
  have Kwq := Lib.hid (Kw.out.below hb)
  clear Kw
  have Kw := Lib.hid Kwq.out
  clear Kwq
  have Xx0q := Lib.hid (Xx0.out.ext hb)
  clear Xx0
  have Xx0 := Lib.hid Xx0q.out
  clear Xx0q
  have Kgq := Lib.hid (Kg.out.below hb)
  clear Kg
  have Kg := Lib.hid Kgq.out
  clear Kgq
  have E8 := Lib.hid (show Ext w w8 from Ext.trans E7.out hb)
  have S8 := Lib.hid hb.size
  clear hb
  try clear y00 y01 y02 y03
  obtain ⟨y00, y01, y02, y03⟩ := D0.out.box
  try clear x00 x01 x02 x03
  obtain ⟨x00, x01, x02, x03⟩ := Xx0.out.box
  go_wp2_with fail
  refine (HMK0.out _ _ _ _ Xx0.out.lies.sub Xx0.out.lies.fresh).mono ?_
  rintro e1 w9 ⟨rfl, hs, hO⟩
  try clear y00 y01 y02 y03
  try clear x00 x01 x02 x03
  have HI := Lib.hid Xx0.out.lies.inn
  have Kwq := Lib.hid (Kw.out.past hO HI.out (Or.inl (by have := S1.out; have := S2.out; have := S3.out; have := S4.out; have := S5.out; have := S6.out; have := S7.out; have := S8.out; omega)))
  clear Kw
  have Kw := Lib.hid Kwq.out
  clear Kwq
  have Kgq := Lib.hid (Kg.out.past hO HI.out (Or.inr (by have := S1.out; have := S2.out; have := S3.out; have := S4.out; have := S5.out; have := S6.out; have := S7.out; have := S8.out; omega)))
  clear Kg
  have Kg := Lib.hid Kgq.out
  clear Kgq
  have D0q := Lib.hid (D0.out.past hO HI.out (by have := B0.out; have := S1.out; have := S2.out; have := S3.out; have := S4.out; have := S5.out; have := S6.out; have := S7.out; have := S8.out; omega) HFS0.out (by have := S1.out; have := S2.out; have := S3.out; have := S4.out; have := S5.out; have := S6.out; have := S7.out; have := S8.out; omega))
  clear D0
  have D0 := Lib.hid D0q.out
  clear D0q
  have E9 := Lib.hid (E8.out.past hO HI.out (by have := S1.out; have := S2.out; have := S3.out; have := S4.out; have := S5.out; have := S6.out; have := S7.out; have := S8.out; omega))
  have S9 := Lib.hid hO.size
  clear hs hO HI
  try clear x00 x01 x02 x03
  clear Xx0
  try clear y00 y01 y02 y03
  obtain ⟨y00, y01, y02, y03⟩ := D0.out.box
  go_wp2_with fail
  refine (HEQX.out _ _ _ _ _ _ _ Kg.out.sub Kw.out.sub Cg.out Cw.out).mono ?_
  rintro e1 w10 ⟨rfl, hb⟩
  try clear y00 y01 y02 y03
  have D0q := Lib.hid (D0.out.ext (show Ext _ _ from hb))
  clear D0
  have D0 := Lib.hid D0q.out
  clear D0q
  have Kwq := Lib.hid (Kw.out.below hb)
  clear Kw
  have Kw := Lib.hid Kwq.out
  clear Kwq
  have Kgq := Lib.hid (Kg.out.below hb)
  clear Kg
  have Kg := Lib.hid Kgq.out
  clear Kgq
  have E10 := Lib.hid (show Ext w w10 from Ext.trans E9.out hb)
  have S10 := Lib.hid hb.size
  clear hb
  try clear y00 y01 y02 y03
  obtain ⟨y00, y01, y02, y03⟩ := D0.out.box
  go_wp2_with fail
  refine (HMG.out _ _ _ _ _ Kg.out.sub Kg.out.fresh Cg.out).mono ?_
  rintro e1 w11 ⟨rfl, hs, hO⟩
  try clear y00 y01 y02 y03
  have HI := Lib.hid Kg.out.inn
  have Kwq := Lib.hid (Kw.out.past hO HI.out (Or.inl (by have := S1.out; have := S2.out; have := S3.out; have := S4.out; have := S5.out; have := S6.out; have := S7.out; have := S8.out; have := S9.out; have := S10.out; omega)))
  clear Kw
  have Kw := Lib.hid Kwq.out
  clear Kwq
  have D0q := Lib.hid (D0.out.past hO HI.out (by have := B0.out; have := S1.out; have := S2.out; have := S3.out; have := S4.out; have := S5.out; have := S6.out; have := S7.out; have := S8.out; have := S9.out; have := S10.out; omega) HFS0.out (by have := S1.out; have := S2.out; have := S3.out; have := S4.out; have := S5.out; have := S6.out; have := S7.out; have := S8.out; have := S9.out; have := S10.out; omega))
  clear D0
  have D0 := Lib.hid D0q.out
  clear D0q
  have E11 := Lib.hid (E10.out.past hO HI.out (by have := S1.out; have := S2.out; have := S3.out; have := S4.out; have := S5.out; have := S6.out; have := S7.out; have := S8.out; have := S9.out; have := S10.out; omega))
  have S11 := Lib.hid hO.size
  have Kgq := Lib.hid (Kg.out.mark hO hs)
  clear Kg hs hO HI
  have Kg := Lib.hid Kgq.out
  clear Kgq
  try clear y00 y01 y02 y03
  obtain ⟨y00, y01, y02, y03⟩ := D0.out.box
  go_wp2_with fail
  refine (HHG.out _ _ _ _ Kg.out.sub Cg.out).mono ?_
  rintro e1 w12 ⟨rfl, hb⟩
  try clear y00 y01 y02 y03
  have D0q := Lib.hid (D0.out.ext (show Ext _ _ from hb))
  clear D0
  have D0 := Lib.hid D0q.out
  clear D0q
  have Kwq := Lib.hid (Kw.out.below hb)
  clear Kw
  have Kw := Lib.hid Kwq.out
  clear Kwq
  have Kgq := Lib.hid (Kg.out.below hb)
  clear Kg
  have Kg := Lib.hid Kgq.out
  clear Kgq
  have E12 := Lib.hid (show Ext w w12 from Ext.trans E11.out hb)
  have S12 := Lib.hid hb.size
  clear hb
  try clear y00 y01 y02 y03
  obtain ⟨y00, y01, y02, y03⟩ := D0.out.box
  go_wp2_with fail
  refine (HTO0.out _ E12.out).mono ?_
  rintro e1 w13 ⟨pv0, qv0, rfl, hs, hfr, hb⟩
  try clear y00 y01 y02 y03
  have D0q := Lib.hid (D0.out.ext (show Ext _ _ from hb))
  clear D0
  have D0 := Lib.hid D0q.out
  clear D0q
  have Kwq := Lib.hid (Kw.out.below hb)
  clear Kw
  have Kw := Lib.hid Kwq.out
  clear Kwq
  have Kgq := Lib.hid (Kg.out.below hb)
  clear Kg
  have Kg := Lib.hid Kgq.out
  clear Kgq
  have E13 := Lib.hid (show Ext w w13 from Ext.trans E12.out hb)
  have S13 := Lib.hid hb.size
  have Kv0 := Lib.hid (DLies.new hs hfr)
  clear hs hfr hb
  try clear y00 y01 y02 y03
  obtain ⟨y00, y01, y02, y03⟩ := D0.out.box
  go_wp2_with fail
  refine (HIM.out _ _ _ Kv0.out.sub Kv0.out.own).mono ?_
  rintro e1 w14 ⟨ph, ch, qh, rfl, hc, hs, hfr, hb⟩
  try clear y00 y01 y02 y03
  have D0q := Lib.hid (D0.out.ext (show Ext _ _ from hb))
  clear D0
  have D0 := Lib.hid D0q.out
  clear D0q
  have Kwq := Lib.hid (Kw.out.below hb)
  clear Kw
  have Kw := Lib.hid Kwq.out
  clear Kwq
  have Kgq := Lib.hid (Kg.out.below hb)
  clear Kg
  have Kg := Lib.hid Kgq.out
  clear Kgq
  have Kv0q := Lib.hid (Kv0.out.below hb)
  clear Kv0
  have Kv0 := Lib.hid Kv0q.out
  clear Kv0q
  have E14 := Lib.hid (show Ext w w14 from Ext.trans E13.out hb)
  have S14 := Lib.hid hb.size
  have Kh := Lib.hid (LayN.Lies.new hs hfr)
  have Ch := Lib.hid hc
  clear hc hs hfr hb
  try clear y00 y01 y02 y03
  obtain ⟨y00, y01, y02, y03⟩ := D0.out.box
  go_wp2_with fail
  clear Kv0
  refine (HEQX.out _ _ _ _ _ _ _ Kh.out.sub Kw.out.sub Ch.out Cw.out).mono ?_
  rintro e1 w15 ⟨rfl, hb⟩
  try clear y00 y01 y02 y03
  have D0q := Lib.hid (D0.out.ext (show Ext _ _ from hb))
  clear D0
  have D0 := Lib.hid D0q.out
  clear D0q
  have Kwq := Lib.hid (Kw.out.below hb)
  clear Kw
  have Kw := Lib.hid Kwq.out
  clear Kwq
  have Kgq := Lib.hid (Kg.out.below hb)
  clear Kg
  have Kg := Lib.hid Kgq.out
  clear Kgq
  have Khq := Lib.hid (Kh.out.below hb)
  clear Kh
  have Kh := Lib.hid Khq.out
  clear Khq
  have E15 := Lib.hid (show Ext w w15 from Ext.trans E14.out hb)
  have S15 := Lib.hid hb.size
  clear hb
  try clear y00 y01 y02 y03
  obtain ⟨y00, y01, y02, y03⟩ := D0.out.box
  go_wp2_with fail
  refine (HHG.out _ _ _ _ Kg.out.sub Cg.out).mono ?_
  rintro e1 w16 ⟨rfl, hb⟩
  try clear y00 y01 y02 y03
  have D0q := Lib.hid (D0.out.ext (show Ext _ _ from hb))
  clear D0
  have D0 := Lib.hid D0q.out
  clear D0q
  have Kwq := Lib.hid (Kw.out.below hb)
  clear Kw
  have Kw := Lib.hid Kwq.out
  clear Kwq
  have Kgq := Lib.hid (Kg.out.below hb)
  clear Kg
  have Kg := Lib.hid Kgq.out
  clear Kgq
  have Khq := Lib.hid (Kh.out.below hb)
  clear Kh
  have Kh := Lib.hid Khq.out
  clear Khq
  have E16 := Lib.hid (show Ext w w16 from Ext.trans E15.out hb)
  have S16 := Lib.hid hb.size
  clear hb
  try clear y00 y01 y02 y03
  obtain ⟨y00, y01, y02, y03⟩ := D0.out.box
  go_wp2_with fail
  go_ret
  exact ⟨rfl, E16.out⟩

theorem walk (w : World) (o0 n0 : Int) (t0 : ByteArray) (k0 : F) (a0 : Option Addr) (c0 : Nat) (f0 : List Nat) (x1 : Int) (hs0 : SubAt w a0 k0 f0) (hfs0 : ∀ c ∈ f0, c < w.heap.size) (hc0 : k0.len ≤ c0) (hl0 : k0.len ≤ maxLen) (hft0 : k0.Fits) (ht0 : t0.size ≤ maxLen) (hx1 : -9223372036854775808 ≤ x1 ∧ x1 ≤ 9223372036854775807) :
    Calls Try.prog 7 #[.agg #[.int .i64 o0, .int .i64 n0, .string t0, .slice a0 k0.len c0], .int .i64 x1] w fun e w' => e = .returned (.bool true) ∧ Below w.heap.size w w' := by
  by_cases h0 : (1048576 : Int) < ((t0.size + k0.size : Nat) : Int)
  · exact walk_big0 w o0 n0 t0 k0 a0 c0 f0 x1 hs0 hfs0 hc0 hl0 hft0 ht0 hx1 h0
  exact walk_good w o0 n0 t0 k0 a0 c0 f0 x1 hs0 hfs0 hc0 hl0 hft0 ht0 hx1 _ rfl (by omega)

set_option maxRecDepth 100000 in
theorem lifted (os : Os) (started : os.Started) (H : Type) (enc : TypeId × Value → H) :
    ReturnsInHanded {} Try.checked os 7 .any (Rows.fnExactBestLayoutSpec.pre6 enc Try.prog Try.f7 Rows.fnExactBestLayoutRow.domain false) (Rows.fnExactBestLayoutSpec.post enc Try.prog Try.f7 false true false false) := by
  refine returnsInHanded_of_change (C := Try.checked) Facts.own started (by kernel_rfl) Try.func7
    (ChangeSpec.witness6 (enc := enc) (C := Try.checked) false ⟨#[], #[.agg #[.int .i64 0, .int .i64 0, .string ⟨#[]⟩, .slice none 0 0], .int .i64 0], []⟩ 8 (by kernel_rfl) (by kernel_rfl) (by kernel_rfl) (by kernel_rfl)) ?_
  intro W base args ds gs before hval0 hW hcnd0 _
  clear hcnd0
  have hval : ∀ (j : Nat) t v, Try.f7.params[j]? = some t → args[j]? = some v → Value.okWide Try.prog W .any base t v := hval0
  have hW' := hW
  obtain ⟨p, q, hA0, hV, rfl, hfz, hnd⟩ := hW
  have hA : DataW.TrodAll enc Try.prog W 0 (fun _ => true) true Try.f7.params.toList args.toList ds p := hA0
  rw [Try.params7] at hA hval
  obtain ⟨v0, v1, d0, d1, p0, p1, rfl, rfl, rfl, h0, h1⟩ := trodAll_two hA
  obtain ⟨rfl, rfl⟩ := trodVars_none hV
  obtain ⟨o0, n0, t0, k0, a0, c0, f0, rfl, ht0, hl0, hft0, hc0, hs0, hfs0⟩ := Open.open_doc (hval 0 56 v0 rfl rfl) h0
  obtain ⟨x1, rfl, hx1⟩ := OpenN.open_int (hval 1 3 v1 rfl rfl) h1
  clear hA0 hval0
  simp only [List.append_nil] at hW'
  have hlt : ∀ x ∈ p0 ++ p1, x.block < W.heap.size := fun x hx => by simpa using hW'.lt x hx
  refine (walk W o0 n0 t0 k0 a0 c0 f0 x1 hs0 hfs0 hc0 hl0 hft0 ht0 hx1).mono fun e W' ⟨he, hb⟩ => ?_
  subst he
  refine ⟨_, rfl, [d0, d1], [], p0 ++ p1, [], p0 ++ p1, [], hW', trodAll_mk1 (shut_bool Try.underlying4 _), ?_, rfl, hb.frame _, fun h => by cases h⟩
  exact trodAll_mk2 (Below.trod Facts.laidOut (by kernel_rfl) (of_decide_eq_true (by kernel_rfl)) h0 hb (fun x hx => hlt x (List.mem_append_left _ hx))) (Below.trod Facts.laidOut (by kernel_rfl) (of_decide_eq_true (by kernel_rfl)) h1 hb (fun x hx => hlt x (List.mem_append_right _ hx)))

theorem named : Try.prog.funcNamed Rows.fnExactBestLayoutRow.func = some 7 := by kernel_rfl
theorem closed : joinedFacts Try.prog 7 Try.f7 Rows.fnExactBestLayoutSpec Rows.fnExactBestLayoutRow = true :=
  Facts.closed_of rfl rfl rfl rfl (h28b := rfl) (by kernel_rfl) (by kernel_rfl) (by kernel_rfl) (by kernel_rfl) (by kernel_rfl) (by kernel_rfl) (by kernel_rfl) (by kernel_rfl) (by kernel_rfl) (by kernel_rfl) (by kernel_rfl) (by kernel_rfl) (by kernel_rfl) (by kernel_rfl) (by kernel_rfl) (by kernel_rfl) (by kernel_rfl) (by kernel_rfl) (by kernel_rfl) (by kernel_rfl) (by kernel_rfl) (by kernel_rfl) (by kernel_rfl) (by kernel_rfl)
theorem instanced : Try.f7.isInstance Try.prog Rows.fnExactBestLayoutRow.origin Rows.fnExactBestLayoutRow.targs := of_decide_eq_true (by kernel_rfl)
theorem wrapped : Try.f7.isWrapper Try.prog Rows.fnExactBestLayoutRow.wrapper Rows.fnExactBestLayoutRow.mainSum := by
  unfold Func.isWrapper
  rw [if_neg (of_decide_eq_false (by kernel_rfl))]
  exact ⟨rfl, rfl⟩

theorem holds : Rows.FnExactBestLayoutSaid :=
  OpenClaim.holds_of_wide 7 Try.f7 rfl rfl rfl rfl rfl rfl rfl ⟨rfl, rfl, rfl, rfl, rfl⟩ rfl rfl rfl rfl rfl named Try.func7 closed instanced wrapped
    (fun os started H enc _ => lifted os started H enc)

end Go.Proofs.Ytgcaolofehgbeaa.lawBestLayout

