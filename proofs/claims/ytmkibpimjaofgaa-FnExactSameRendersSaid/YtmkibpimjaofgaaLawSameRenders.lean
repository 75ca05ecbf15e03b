import Derived.Test.YtmkibpimjaofgaaOpen
import Derived.Test.YtmkibpimjaofgaaSz
import Derived.Test.YtmkibpimjaofgaaTo
import Derived.Test.YtmkibpimjaofgaaEq
import Derived.Test.YtmkibpimjaofgaaMark
import Derived.Test.YtmkibpimjaofgaaEqW
import Derived.Test.YtmkibpimjaofgaaExK
import Derived.Test.YtmkibpimjaofgaaPl
import Derived.Test.YtmkibpimjaofgaaFacts
import Derived.Test.YtmkibpimjaofgaaRows
import Derived.Deep.RegionHeld3
/-
  For all two documents that can be read as data, SameRenders of the program answers as SameRenders of the model and changes nothing of its arguments: the law FnExactSameRenders returns true, and its arguments read as they did. No condition of ours; as the row says, an argument that leads back into itself is not read.
-/
set_option linter.unusedVariables false
set_option linter.unusedSimpArgs false
namespace Go.Proofs.Ytmkibpimjaofgaa.lawSameRenders
open Go.ChangeShapes Go.WideShapes Go.ChangeAt Go.RowKit P1

set_option maxRecDepth 100000 in
set_option maxHeartbeats 1600000 in
theorem walk_big0 (w : World) (o0 n0 : Int) (t0 : ByteArray) (k0 : F) (a0 : Option Addr) (c0 : Nat) (f0 : List Nat) (o1 n1 : Int) (t1 : ByteArray) (k1 : F) (a1 : Option Addr) (c1 : Nat) (f1 : List Nat) (hs0 : SubAt w a0 k0 f0) (hfs0 : ∀ c ∈ f0, c < w.heap.size) (hc0 : k0.len ≤ c0) (hl0 : k0.len ≤ maxLen) (hft0 : k0.Fits) (ht0 : t0.size ≤ maxLen) (hs1 : SubAt w a1 k1 f1) (hfs1 : ∀ c ∈ f1, c < w.heap.size) (hc1 : k1.len ≤ c1) (hl1 : k1.len ≤ maxLen) (hft1 : k1.Fits) (ht1 : t1.size ≤ maxLen)  (hbig : 1048576 < ((t0.size + k0.size : Nat) : Int)) :
    Calls Try.prog 7 #[.agg #[.int .i64 o0, .int .i64 n0, .string t0, .slice a0 k0.len c0], .agg #[.int .i64 o1, .int .i64 n1, .string t1, .slice a1 k1.len c1]] w fun e w' => e = .returned (.bool true) ∧ Below w.heap.size w w' := by
  have hsz0 := fun (w1 : World) (h1 : Ext w w1) => Sz.szDoc (Sz.szS_any k0) o0 n0 t0 w1 a0 c0 f0 1048576 (h1.sub hs0 hfs0) (fun c hc => Nat.lt_of_lt_of_le (hfs0 c hc) h1.size) hc0 hl0 hft0 ht0 (by omega) (by omega)
  rw [Sz.szR_no hbig] at hsz0
  have HSZ0 := Lib.hid hsz0
  have HE0 := Lib.hid (show Ext w ((w.alloc (.cells #[.int .i64 o0, .int .i64 n0, .string t0, .slice a0 k0.len c0] 24)).alloc (.cells #[.int .i64 o1, .int .i64 n1, .string t1, .slice a1 k1.len c1] 24)) from (((Ext.refl w).alloc _).alloc _))
  clear hsz0 hbig hs0 hfs0 hc0 hl0 hft0 ht0 hs1 hfs1 hc1 hl1 hft1 ht1 
  go_enter Try.func7, Try.ntmps7
  go_wp2_with fail
  refine (HSZ0.out _ HE0.out).mono ?_
  rintro e1 w1 ⟨rfl, hb⟩
  have H1 := Lib.hid (Ext.trans HE0.out hb)
  clear hb
  go_wp2_with fail
  go_ret
  exact ⟨rfl, H1.out⟩

set_option maxRecDepth 100000 in
set_option maxHeartbeats 1600000 in
theorem walk_big1 (w : World) (o0 n0 : Int) (t0 : ByteArray) (k0 : F) (a0 : Option Addr) (c0 : Nat) (f0 : List Nat) (o1 n1 : Int) (t1 : ByteArray) (k1 : F) (a1 : Option Addr) (c1 : Nat) (f1 : List Nat) (hs0 : SubAt w a0 k0 f0) (hfs0 : ∀ c ∈ f0, c < w.heap.size) (hc0 : k0.len ≤ c0) (hl0 : k0.len ≤ maxLen) (hft0 : k0.Fits) (ht0 : t0.size ≤ maxLen) (hs1 : SubAt w a1 k1 f1) (hfs1 : ∀ c ∈ f1, c < w.heap.size) (hc1 : k1.len ≤ c1) (hl1 : k1.len ≤ maxLen) (hft1 : k1.Fits) (ht1 : t1.size ≤ maxLen) (z0 : Int) (hz0 : 1048576 - ((t0.size + k0.size : Nat) : Int) = z0) (hzn0 : 0 ≤ z0) (hbig : z0 < ((t1.size + k1.size : Nat) : Int)) :
    Calls Try.prog 7 #[.agg #[.int .i64 o0, .int .i64 n0, .string t0, .slice a0 k0.len c0], .agg #[.int .i64 o1, .int .i64 n1, .string t1, .slice a1 k1.len c1]] w fun e w' => e = .returned (.bool true) ∧ Below w.heap.size w w' := by
  have HD0 := Lib.hid (show DocAt ((w.alloc (.cells #[.int .i64 o0, .int .i64 n0, .string t0, .slice a0 k0.len c0] 24)).alloc (.cells #[.int .i64 o1, .int .i64 n1, .string t1, .slice a1 k1.len c1] 24)) w.heap.size o0 n0 t0 k0 a0 c0 f0 from by first | exact ((DocAt.new (Ext.sub (Ext.refl w) hs0 hfs0) (fun c hc => Nat.lt_of_lt_of_le (hfs0 c hc) (Ext.size (Ext.refl w))) hc0 o0 n0 t0 _).ext ((Ext.refl _).alloc _)) | simpa using ((DocAt.new (Ext.sub (Ext.refl w) hs0 hfs0) (fun c hc => Nat.lt_of_lt_of_le (hfs0 c hc) (Ext.size (Ext.refl w))) hc0 o0 n0 t0 _).ext ((Ext.refl _).alloc _)))
  have HD1 := Lib.hid (show DocAt ((w.alloc (.cells #[.int .i64 o0, .int .i64 n0, .string t0, .slice a0 k0.len c0] 24)).alloc (.cells #[.int .i64 o1, .int .i64 n1, .string t1, .slice a1 k1.len c1] 24)) (w.heap.size + 1) o1 n1 t1 k1 a1 c1 f1 from by first | exact (DocAt.new (Ext.sub ((Ext.refl w).alloc _) hs1 hfs1) (fun c hc => Nat.lt_of_lt_of_le (hfs1 c hc) (Ext.size ((Ext.refl w).alloc _))) hc1 o1 n1 t1 _) | simpa using (DocAt.new (Ext.sub ((Ext.refl w).alloc _) hs1 hfs1) (fun c hc => Nat.lt_of_lt_of_le (hfs1 c hc) (Ext.size ((Ext.refl w).alloc _))) hc1 o1 n1 t1 _))
  have hsz0 := fun (w1 : World) (h1 : Ext w w1) => Sz.szDoc (Sz.szS_any k0) o0 n0 t0 w1 a0 c0 f0 1048576 (h1.sub hs0 hfs0) (fun c hc => Nat.lt_of_lt_of_le (hfs0 c hc) h1.size) hc0 hl0 hft0 ht0 (by omega) (by omega)
  rw [Sz.szR_yes (by omega), hz0] at hsz0
  have hzq0 : ¬ (z0 < 0) := by omega
  have HSZ0 := Lib.hid hsz0
  have hsz1 := fun (w1 : World) (h1 : Ext w w1) => Sz.szDoc (Sz.szS_any k1) o1 n1 t1 w1 a1 c1 f1 z0 (h1.sub hs1 hfs1) (fun c hc => Nat.lt_of_lt_of_le (hfs1 c hc) h1.size) hc1 hl1 hft1 ht1 (by omega) (by omega)
  rw [Sz.szR_no hbig] at hsz1
  have HSZ1 := Lib.hid hsz1
  have HE0 := Lib.hid (show Ext w ((w.alloc (.cells #[.int .i64 o0, .int .i64 n0, .string t0, .slice a0 k0.len c0] 24)).alloc (.cells #[.int .i64 o1, .int .i64 n1, .string t1, .slice a1 k1.len c1] 24)) from (((Ext.refl w).alloc _).alloc _))
  clear hsz0 hsz1 hbig hs0 hfs0 hc0 hl0 hft0 ht0 hs1 hfs1 hc1 hl1 hft1 ht1 hz0
  go_enter Try.func7, Try.ntmps7
  go_wp2_with fail
  refine (HSZ0.out _ HE0.out).mono ?_
  rintro e1 w1 ⟨rfl, hb⟩
  have H1 := Lib.hid (Ext.trans HE0.out hb)
  have D0 := Lib.hid (HD0.out.ext (show Ext _ _ from hb))
  try clear y00 y01 y02 y03
  obtain ⟨y00, y01, y02, y03⟩ := D0.out.box
  have D1 := Lib.hid (HD1.out.ext (show Ext _ _ from hb))
  try clear y10 y11 y12 y13
  obtain ⟨y10, y11, y12, y13⟩ := D1.out.box
  clear hb
  go_wp2_with fail
  refine (HSZ1.out _ H1.out).mono ?_
  rintro e1 w2 ⟨rfl, hb⟩
  have H2 := Lib.hid (Ext.trans H1.out hb)
  clear hb
  go_wp2_with fail
  go_ret
  exact ⟨rfl, H2.out⟩

set_option maxRecDepth 100000 in
set_option maxHeartbeats 12800000 in
theorem walk_good (w : World) (o0 n0 : Int) (t0 : ByteArray) (k0 : F) (a0 : Option Addr) (c0 : Nat) (f0 : List Nat) (o1 n1 : Int) (t1 : ByteArray) (k1 : F) (a1 : Option Addr) (c1 : Nat) (f1 : List Nat) (hs0 : SubAt w a0 k0 f0) (hfs0 : ∀ c ∈ f0, c < w.heap.size) (hc0 : k0.len ≤ c0) (hl0 : k0.len ≤ maxLen) (hft0 : k0.Fits) (ht0 : t0.size ≤ maxLen) (hs1 : SubAt w a1 k1 f1) (hfs1 : ∀ c ∈ f1, c < w.heap.size) (hc1 : k1.len ≤ c1) (hl1 : k1.len ≤ maxLen) (hft1 : k1.Fits) (ht1 : t1.size ≤ maxLen) (z0 : Int) (hz0 : 1048576 - ((t0.size + k0.size : Nat) : Int) = z0) (hzn0 : 0 ≤ z0) (z1 : Int) (hz1 : z0 - ((t1.size + k1.size : Nat) : Int) = z1) (hzn1 : 0 ≤ z1) :
    Calls Try.prog 7 #[.agg #[.int .i64 o0, .int .i64 n0, .string t0, .slice a0 k0.len c0], .agg #[.int .i64 o1, .int .i64 n1, .string t1, .slice a1 k1.len c1]] w fun e w' => e = .returned (.bool true) ∧ Below w.heap.size w w' := by
  have HD0 := Lib.hid (show DocAt ((w.alloc (.cells #[.int .i64 o0, .int .i64 n0, .string t0, .slice a0 k0.len c0] 24)).alloc (.cells #[.int .i64 o1, .int .i64 n1, .string t1, .slice a1 k1.len c1] 24)) w.heap.size o0 n0 t0 k0 a0 c0 f0 from by first | exact ((DocAt.new (Ext.sub (Ext.refl w) hs0 hfs0) (fun c hc => Nat.lt_of_lt_of_le (hfs0 c hc) (Ext.size (Ext.refl w))) hc0 o0 n0 t0 _).ext ((Ext.refl _).alloc _)) | simpa using ((DocAt.new (Ext.sub (Ext.refl w) hs0 hfs0) (fun c hc => Nat.lt_of_lt_of_le (hfs0 c hc) (Ext.size (Ext.refl w))) hc0 o0 n0 t0 _).ext ((Ext.refl _).alloc _)))
  have HD1 := Lib.hid (show DocAt ((w.alloc (.cells #[.int .i64 o0, .int .i64 n0, .string t0, .slice a0 k0.len c0] 24)).alloc (.cells #[.int .i64 o1, .int .i64 n1, .string t1, .slice a1 k1.len c1] 24)) (w.heap.size + 1) o1 n1 t1 k1 a1 c1 f1 from by first | exact (DocAt.new (Ext.sub ((Ext.refl w).alloc _) hs1 hfs1) (fun c hc => Nat.lt_of_lt_of_le (hfs1 c hc) (Ext.size ((Ext.refl w).alloc _))) hc1 o1 n1 t1 _) | simpa using (DocAt.new (Ext.sub ((Ext.refl w).alloc _) hs1 hfs1) (fun c hc => Nat.lt_of_lt_of_le (hfs1 c hc) (Ext.size ((Ext.refl w).alloc _))) hc1 o1 n1 t1 _))
  have HE0 := Lib.hid (show Ext w ((w.alloc (.cells #[.int .i64 o0, .int .i64 n0, .string t0, .slice a0 k0.len c0] 24)).alloc (.cells #[.int .i64 o1, .int .i64 n1, .string t1, .slice a1 k1.len c1] 24)) from (((Ext.refl w).alloc _).alloc _))
  have hsz0 := fun (w1 : World) (h1 : Ext w w1) => Sz.szDoc (Sz.szS_any k0) o0 n0 t0 w1 a0 c0 f0 1048576 (h1.sub hs0 hfs0) (fun c hc => Nat.lt_of_lt_of_le (hfs0 c hc) h1.size) hc0 hl0 hft0 ht0 (by omega) (by omega)
  rw [Sz.szR_yes (by omega), hz0] at hsz0
  have hzq0 : ¬ (z0 < 0) := by omega
  have HSZ0 := Lib.hid hsz0
  have hle0 : t0.size + k0.size ≤ 1048576 := by omega
  have hll0 := F.len_le_size k0
  have hcc0 := F.cnt_le_size k0
  have hto0 := fun (w1 : World) (h1 : Ext w w1) => To.toDoc (To.toS_any k0) o0 n0 t0 w1 a0 c0 f0 (h1.sub hs0 hfs0) (fun c hc => Nat.lt_of_lt_of_le (hfs0 c hc) h1.size) hc0 (by omega)
  have heq0 := fun (w1 : World) (a1 a2 : Option Addr) (f1 f2 : List Nat) (h1 : SubAt w1 a1 k0 f1) (h2 : SubAt w1 a2 k0 f2) (h3 : ∀ c ∈ f1, c < w1.heap.size) (h4 : ∀ c ∈ f2, c < w1.heap.size) => Eq.eqDoc (Eq.eqS_any k0 k0) o0 n0 o0 n0 t0 t0 w1 a1 a2 k0.len k0.len f1 f2 h1 h2 h3 h4 (Nat.le_refl _) (Nat.le_refl _) hl0 hl0 hft0 hft0
  rw [show sameD o0 n0 t0 k0 o0 n0 t0 k0 = true by rw [sameD_yes, F.same_self]] at heq0
  have HFS0 := Lib.hid hfs0
  have HTO0 := Lib.hid hto0
  have HEQ0 := Lib.hid heq0
  have hsz1 := fun (w1 : World) (h1 : Ext w w1) => Sz.szDoc (Sz.szS_any k1) o1 n1 t1 w1 a1 c1 f1 z0 (h1.sub hs1 hfs1) (fun c hc => Nat.lt_of_lt_of_le (hfs1 c hc) h1.size) hc1 hl1 hft1 ht1 (by omega) (by omega)
  rw [Sz.szR_yes (by omega), hz1] at hsz1
  have hzq1 : ¬ (z1 < 0) := by omega
  have HSZ1 := Lib.hid hsz1
  have hle1 : t1.size + k1.size ≤ 1048576 := by omega
  have hll1 := F.len_le_size k1
  have hcc1 := F.cnt_le_size k1
  have hto1 := fun (w1 : World) (h1 : Ext w w1) => To.toDoc (To.toS_any k1) o1 n1 t1 w1 a1 c1 f1 (h1.sub hs1 hfs1) (fun c hc => Nat.lt_of_lt_of_le (hfs1 c hc) h1.size) hc1 (by omega)
  have heq1 := fun (w1 : World) (a1 a2 : Option Addr) (f1 f2 : List Nat) (h1 : SubAt w1 a1 k1 f1) (h2 : SubAt w1 a2 k1 f2) (h3 : ∀ c ∈ f1, c < w1.heap.size) (h4 : ∀ c ∈ f2, c < w1.heap.size) => Eq.eqDoc (Eq.eqS_any k1 k1) o1 n1 o1 n1 t1 t1 w1 a1 a2 k1.len k1.len f1 f2 h1 h2 h3 h4 (Nat.le_refl _) (Nat.le_refl _) hl1 hl1 hft1 hft1
  rw [show sameD o1 n1 t1 k1 o1 n1 t1 k1 = true by rw [sameD_yes, F.same_self]] at heq1
  have HFS1 := Lib.hid hfs1
  have HTO1 := Lib.hid hto1
  have HEQ1 := Lib.hid heq1
  have hspec : ∀ (w1 : World) (b0 : Option Addr) (g0 : List Nat) (h0 : SubAt w1 b0 k0 g0) (m0 : ∀ c ∈ g0, c < w1.heap.size ∧ ∀ o, w1.frozen? ⟨c, o, none⟩ = false) (b1 : Option Addr) (g1 : List Nat) (h1 : SubAt w1 b1 k1 g1) (m1 : ∀ c ∈ g1, c < w1.heap.size ∧ ∀ o, w1.frozen? ⟨c, o, none⟩ = false), Calls Try.prog 32 #[.agg #[.int .i64 o0, .int .i64 n0, .string t0, .slice b0 k0.len k0.len], .agg #[.int .i64 o1, .int .i64 n1, .string t1, .slice b1 k1.len k1.len]] w1 fun e w2 => e = .returned (.bool (Eqd.sameRn o0 n0 t0 k0 o1 n1 t1 k1)) ∧ Below w1.heap.size w1 w2 := fun w1 b0 g0 h0 m0 b1 g1 h1 m1 => Eqd.specSameRenders w1 o0 n0 t0 k0 b0 k0.len g0 ⟨h0, m0, Nat.le_refl _, by omega, hft0, ht0⟩ o1 n1 t1 k1 b1 k1.len g1 ⟨h1, m1, Nat.le_refl _, by omega, hft1, ht1⟩
  have himpl : ∀ (w1 : World) (b0 : Option Addr) (g0 : List Nat) (h0 : SubAt w1 b0 k0 g0) (m0 : ∀ c ∈ g0, c < w1.heap.size ∧ ∀ o, w1.frozen? ⟨c, o, none⟩ = false) (b1 : Option Addr) (g1 : List Nat) (h1 : SubAt w1 b1 k1 g1) (m1 : ∀ c ∈ g1, c < w1.heap.size ∧ ∀ o, w1.frozen? ⟨c, o, none⟩ = false), Calls Try.prog 33 #[.agg #[.int .i64 o0, .int .i64 n0, .string t0, .slice b0 k0.len k0.len], .agg #[.int .i64 o1, .int .i64 n1, .string t1, .slice b1 k1.len k1.len]] w1 fun e w2 => e = .returned (.bool (Eqd.sameRn o0 n0 t0 k0 o1 n1 t1 k1)) ∧ Below w1.heap.size w1 w2 := fun w1 b0 g0 h0 m0 b1 g1 h1 m1 => Eqd.implSameRenders w1 o0 n0 t0 k0 b0 k0.len g0 ⟨h0, m0, Nat.le_refl _, by omega, hft0, ht0⟩ o1 n1 t1 k1 b1 k1.len g1 ⟨h1, m1, Nat.le_refl _, by omega, hft1, ht1⟩
  obtain ⟨v0, hv0⟩ : ∃ v : Bool, Eqd.sameRn o0 n0 t0 k0 o1 n1 t1 k1 = v := ⟨_, rfl⟩
  rw [hv0] at hspec himpl
  have hvv0 : (v0 != v0) = false := by simp
  have HSP := Lib.hid hspec
  have HIM := Lib.hid himpl
  clear hspec himpl hle0 hll0 hcc0 hsz0 hto0 heq0 hs0 hfs0 hc0 hl0 hft0 ht0 hz0 hle1 hll1 hcc1 hsz1 hto1 heq1 hs1 hfs1 hc1 hl1 hft1 ht1 hz1 hv0 
  go_enter Try.func7, Try.ntmps7
  go_wp2_with fail
  refine (HSZ0.out _ HE0.out).mono ?_
  rintro e1 w1 ⟨rfl, hb⟩
  try clear y00 y01 y02 y03
  try clear y10 y11 y12 y13
  have D0q := Lib.hid (HD0.out.ext (show Ext _ _ from hb))
  clear HD0
  have D0 := Lib.hid D0q.out
  clear D0q
  have D1q := Lib.hid (HD1.out.ext (show Ext _ _ from hb))
  clear HD1
  have D1 := Lib.hid D1q.out
  clear D1q
  have E1 := Lib.hid (show Ext w w1 from Ext.trans HE0.out hb)
  have S1 := Lib.hid (show w.heap.size ≤ w1.heap.size from E1.out.size)
  have B0 := Lib.hid D0.out.blt
  have B1 := Lib.hid D1.out.blt
  clear hb
  try clear y00 y01 y02 y03
  obtain ⟨y00, y01, y02, y03⟩ := D0.out.box
  try clear y10 y11 y12 y13
  obtain ⟨y10, y11, y12, y13⟩ := D1.out.box
  go_wp2_with fail
  refine (HSZ1.out _ E1.out).mono ?_
  rintro e1 w2 ⟨rfl, hb⟩
  try clear y00 y01 y02 y03
  try clear y10 y11 y12 y13
  have D0q := Lib.hid (D0.out.ext (show Ext _ _ from hb))
  clear D0
  have D0 := Lib.hid D0q.out
  clear D0q
  have D1q := Lib.hid (D1.out.ext (show Ext _ _ from hb))
  clear D1
  have D1 := Lib.hid D1q.out
  clear D1q
  have E2 := Lib.hid (show Ext w w2 from Ext.trans E1.out hb)
  have S2 := Lib.hid hb.size
  clear hb
  try clear y00 y01 y02 y03
  obtain ⟨y00, y01, y02, y03⟩ := D0.out.box
  try clear y10 y11 y12 y13
  obtain ⟨y10, y11, y12, y13⟩ := D1.out.box
  go_wp2_with fail
  go_region_held3 (fun w' => w'.cell? ⟨w.heap.size, 0, none⟩ = some (.int .i64 o0) ∧ w'.cell? ⟨w.heap.size, 1, none⟩ = some (.int .i64 n0) ∧ w'.cell? ⟨w.heap.size, 2, none⟩ = some (.string t0) ∧ w'.cell? ⟨w.heap.size, 3, none⟩ = some (.slice a0 k0.len c0) ∧ w'.cell? ⟨(w.heap.size + 1), 0, none⟩ = some (.int .i64 o1) ∧ w'.cell? ⟨(w.heap.size + 1), 1, none⟩ = some (.int .i64 n1) ∧ w'.cell? ⟨(w.heap.size + 1), 2, none⟩ = some (.string t1) ∧ w'.cell? ⟨(w.heap.size + 1), 3, none⟩ = some (.slice a1 k1.len c1))
    (first | (go_keep; done) | exact two_boxes (D0.out.ext r3) (D1.out.ext r3) | exact two_boxes (D0.out.ext r4) (D1.out.ext r4) | exact two_boxes (D0.out.ext r5) (D1.out.ext r5))
    (first
      | (go_at_call_of 18 (Value.agg #[.int .i64 o0, .int .i64 n0, .string t0, .slice a0 k0.len c0]); refine (HTO0.out _ (by first | exact E2.out.drew | exact E2.out)).mono ?_; rintro e1 v2a ⟨i3, g3, rfl, hs3, hfr3, hb3⟩; have r3 : Ext w2 v2a := Ext.trans (by first | exact (Ext.refl w2).drew | exact Ext.refl w2) hb3)
      | (go_at_call_of 18 (Value.agg #[.int .i64 o1, .int .i64 n1, .string t1, .slice a1 k1.len c1]); refine (HTO1.out _ (by exact Ext.trans E2.out r3)).mono ?_; rintro e1 v2b ⟨i4, g4, rfl, hs4, hfr4, hb4⟩; have r34 : Ext v2a v2b := hb4; have r4 : Ext w2 v2b := r3.trans r34)
      | (go_at_call 32; refine (HSP.out _ i3 g3 (by exact r34.sub hs3 hfr3.lt) (fun c hc => ⟨(r34.fresh hfr3).lt c hc, ((r34.fresh hfr3).2 c hc).2.2⟩) i4 g4 (by exact hs4) (fun c hc => ⟨(hfr4).lt c hc, ((hfr4).2 c hc).2.2⟩)).mono ?_; rintro e1 w3 ⟨rfl, hb5⟩; have r5 : Ext w2 w3 := r4.trans hb5))
  have hb : Below w2.heap.size w2 w3 := r5
  clear hs3 hfr3 hb3 hs4 hfr4 hb4 hb5 r3 r34 r4 r5
  try clear y00 y01 y02 y03
  try clear y10 y11 y12 y13
  have D0q := Lib.hid (D0.out.ext (show Ext _ _ from hb))
  clear D0
  have D0 := Lib.hid D0q.out
  clear D0q
  have D1q := Lib.hid (D1.out.ext (show Ext _ _ from hb))
  clear D1
  have D1 := Lib.hid D1q.out
  clear D1q
  have E3 := Lib.hid (show Ext w w3 from Ext.trans E2.out hb)
  have S3 := Lib.hid hb.size
  clear hb
  try clear y00 y01 y02 y03
  obtain ⟨y00, y01, y02, y03⟩ := D0.out.box
  try clear y10 y11 y12 y13
  obtain ⟨y10, y11, y12, y13⟩ := D1.out.box
  go_wp2_with fail
  refine (HTO0.out _ E3.out).mono ?_
  rintro e1 w4 ⟨px0, qx0, rfl, hs, hfr, hb⟩
  try clear y00 y01 y02 y03
  try clear y10 y11 y12 y13
  have D0q := Lib.hid (D0.out.ext (show Ext _ _ from hb))
  clear D0
  have D0 := Lib.hid D0q.out
  clear D0q
  have D1q := Lib.hid (D1.out.ext (show Ext _ _ from hb))
  clear D1
  have D1 := Lib.hid D1q.out
  clear D1q
  have E4 := Lib.hid (show Ext w w4 from Ext.trans E3.out hb)
  have S4 := Lib.hid hb.size
  have Kx0 := Lib.hid (DLies.new hs hfr)
  clear hs hfr hb
  have hEz := (Ext.refl w4).alloc (.cells #[.int .i64 o0, .int .i64 n0, .string t0, .slice px0 k0.len k0.len] 29)
  try clear y00 y01 y02 y03
  obtain ⟨y00, y01, y02, y03⟩ := (D0.out.ext (show Ext _ _ from hEz)).box
  try clear y10 y11 y12 y13
  obtain ⟨y10, y11, y12, y13⟩ := (D1.out.ext (show Ext _ _ from hEz)).box
  clear hEz
  go_wp2_with fail
  have hXn := XDoc.new (o := o0) (n := n0) (t := t0) Kx0.out 29
  have hE := (Ext.refl w4).alloc (.cells #[.int .i64 o0, .int .i64 n0, .string t0, .slice px0 k0.len k0.len] 29)
  obtain ⟨w5, hW⟩ : ∃ W, w4.alloc (.cells #[.int .i64 o0, .int .i64 n0, .string t0, .slice px0 k0.len k0.len] 29) = W := ⟨_, rfl⟩
  rw [hW] at hXn hE ⊢
  try clear y00 y01 y02 y03
  try clear y10 y11 y12 y13
  have D0q := Lib.hid (D0.out.ext (show Ext _ _ from hE))
  clear D0
  have D0 := Lib.hid D0q.out
  clear D0q
  have D1q := Lib.hid (D1.out.ext (show Ext _ _ from hE))
  clear D1
  have D1 := Lib.hid D1q.out
  clear D1q
  have E5 := Lib.hid (show Ext w w5 from Ext.trans E4.out hE)
  have S5 := Lib.hid hE.size
  have Xx0 := Lib.hid hXn
  clear Kx0
  clear hXn hE hW
  refine (HTO1.out _ E5.out).mono ?_
  rintro e1 w6 ⟨px1, qx1, rfl, hs, hfr, hb⟩
  try clear y00 y01 y02 y03
  try clear y10 y11 y12 y13
  try clear x00 x01 x02 x03
  have D0q := Lib.hid (D0.out.ext (show Ext _ _ from hb))
  clear D0
  have D0 := Lib.hid D0q.out
  clear D0q
  have D1q := Lib.hid (D1.out.ext (show Ext _ _ from hb))
  clear D1
  have D1 := Lib.hid D1q.out
  clear D1q
  have Xx0q := Lib.hid (Xx0.out.ext hb)
  clear Xx0
  have Xx0 := Lib.hid Xx0q.out
  clear Xx0q
  have E6 := Lib.hid (show Ext w w6 from Ext.trans E5.out hb)
  have S6 := Lib.hid hb.size
  have Kx1 := Lib.hid (DLies.new hs hfr)
  clear hs hfr hb
  have hEz := (Ext.refl w6).alloc (.cells #[.int .i64 o1, .int .i64 n1, .string t1, .slice px1 k1.len k1.len] 29)
  try clear y00 y01 y02 y03
  obtain ⟨y00, y01, y02, y03⟩ := (D0.out.ext (show Ext _ _ from hEz)).box
  try clear y10 y11 y12 y13
  obtain ⟨y10, y11, y12, y13⟩ := (D1.out.ext (show Ext _ _ from hEz)).box
  try clear x00 x01 x02 x03
  obtain ⟨x00, x01, x02, x03⟩ := (Xx0.out.ext hEz).box
  clear hEz
  go_wp2_with fail
  have hXn := XDoc.new (o := o1) (n := n1) (t := t1) Kx1.out 29
  have hE := (Ext.refl w6).alloc (.cells #[.int .i64 o1, .int .i64 n1, .string t1, .slice px1 k1.len k1.len] 29)
  obtain ⟨w7, hW⟩ : ∃ W, w6.alloc (.cells #[.int .i64 o1, .int .i64 n1, .string t1, .slice px1 k1.len k1.len] 29) = W := ⟨_, rfl⟩
  rw [hW] at hXn hE ⊢
  try clear y00 y01 y02 y03
  try clear y10 y11 y12 y13
  try clear x00 x01 x02 x03
  have D0q := Lib.hid (D0.out.ext (show Ext _ _ from hE))
  clear D0
  have D0 := Lib.hid D0q.out
  clear D0q
  have D1q := Lib.hid (D1.out.ext (show Ext _ _ from hE))
  clear D1
  have D1 := Lib.hid D1q.out
  clear D1q
  have Xx0q := Lib.hid (Xx0.out.ext hE)
  clear Xx0
  have Xx0 := Lib.hid Xx0q.out
  clear Xx0q
  have E7 := Lib.hid (show Ext w w7 from Ext.trans E6.out hE)
  have S7 := Lib.hid hE.size
  have Xx1 := Lib.hid hXn
  clear Kx1
  clear hXn hE hW
  refine (HIM.out _ _ _ Xx0.out.lies.sub Xx0.out.lies.own _ _ Xx1.out.lies.sub Xx1.out.lies.own).mono ?_
  rintro e1 w8 ⟨rfl, hb⟩
  try clear y00 y01 y02 y03
  try clear y10 y11 y12 y13
  try clear x00 x01 x02 x03
  try clear x10 x11 x12 x13
  have D0q := Lib.hid (D0.out.ext (show Ext _ _ from hb))
  clear D0
  have D0 := Lib.hid D0q.out
  clear D0q
  have D1q := Lib.hid (D1.out.ext (show Ext _ _ from hb))
  clear D1
  have D1 := Lib.hid D1q.out
  clear D1q
  have Xx0q := Lib.hid (Xx0.out.ext hb)
  clear Xx0
  have Xx0 := Lib.hid Xx0q.out
  clear Xx0q
  have Xx1q := Lib.hid (Xx1.out.ext hb)
  clear Xx1
  have Xx1 := Lib.hid Xx1q.out
  clear Xx1q
  have E8 := Lib.hid (show Ext w w8 from Ext.trans E7.out hb)
  have S8 := Lib.hid hb.size
  clear hb
  try clear y00 y01 y02 y03
  obtain ⟨y00, y01, y02, y03⟩ := D0.out.box
  try clear y10 y11 y12 y13
  obtain ⟨y10, y11, y12, y13⟩ := D1.out.box
  try clear x00 x01 x02 x03
  obtain ⟨x00, x01, x02, x03⟩ := Xx0.out.box
  try clear x10 x11 x12 x13
  obtain ⟨x10, x11, x12, x13⟩ := Xx1.out.box
  go_wp2_with fail
  have ly : w4.heap.size < w8.heap.size := Xx0.out.blt
  have lz : w.heap.size < w8.heap.size := D0.out.blt
  go_region_held3 (fun w' => w'.cell? ⟨w4.heap.size, 0, none⟩ = some (.int .i64 o0) ∧ w'.cell? ⟨w4.heap.size, 1, none⟩ = some (.int .i64 n0) ∧ w'.cell? ⟨w4.heap.size, 2, none⟩ = some (.string t0) ∧ w'.cell? ⟨w4.heap.size, 3, none⟩ = some (.slice px0 k0.len k0.len) ∧ w'.cell? ⟨w.heap.size, 0, none⟩ = some (.int .i64 o0) ∧ w'.cell? ⟨w.heap.size, 1, none⟩ = some (.int .i64 n0) ∧ w'.cell? ⟨w.heap.size, 2, none⟩ = some (.string t0) ∧ w'.cell? ⟨w.heap.size, 3, none⟩ = some (.slice a0 k0.len c0))
    (first
      | go_keep
      | (refine ⟨?_, ?_, ?_, ?_, ?_, ?_, ?_, ?_⟩ <;> (first | assumption | (rw [hb7.cell (p := ⟨_, _, _⟩) (by simp; omega)]; assumption) | (rw [hb8.cell (p := ⟨_, _, _⟩) (by have := hb7.size; simp at this ⊢; omega)]; assumption) | (rw [hb8.cell (p := ⟨_, _, _⟩) (by have := hb7.size; simp at this ⊢; omega), hb7.cell (p := ⟨_, _, _⟩) (by simp; omega)]; assumption))))
    (first
      | (go_at_call 18; refine (HTO0.out _ (by first | exact E8.out | exact E8.out.drew)).mono ?_; rintro e1 w8a ⟨p7, q7, rfl, hs7, hfr7, hb7⟩)
      | (go_at_call 20; refine (HEQ0.out _ _ _ qx0 q7 (by first | exact Xx0.out.lies.sub.below Xx0.out.lies.fresh.lt hb7 | exact (ex_drew Xx0.out.lies.sub).below Xx0.out.lies.fresh.lt hb7 | exact ex_drew ((ex_drew Xx0.out.lies.sub).below Xx0.out.lies.fresh.lt hb7)) (by first | exact hs7 | exact ex_drew hs7) (fun c hc => Nat.lt_of_lt_of_le (Xx0.out.lies.fresh.lt c hc) hb7.size) hfr7.lt).mono ?_; rintro e1 w9 ⟨rfl, hb8⟩))
  have hb : Below w8.heap.size w8 w9 := by
    have q7 : Below w8.heap.size w8 w8a := (Below.refl _ w8).drew.trans hb7
    first | exact q7.trans (hb8.mono q7.size) | exact q7.drew.trans (hb8.mono (by have := q7.size; simp; omega))
  try clear y00 y01 y02 y03
  try clear y10 y11 y12 y13
  try clear x00 x01 x02 x03
  try clear x10 x11 x12 x13
  clear ly lz hs7 hfr7 hb7 hb8
  have D0q := Lib.hid (D0.out.ext (show Ext _ _ from hb))
  clear D0
  have D0 := Lib.hid D0q.out
  clear D0q
  have D1q := Lib.hid (D1.out.ext (show Ext _ _ from hb))
  clear D1
  have D1 := Lib.hid D1q.out
  clear D1q
  have Xx0q := Lib.hid (Xx0.out.ext hb)
  clear Xx0
  have Xx0 := Lib.hid Xx0q.out
  clear Xx0q
  have Xx1q := Lib.hid (Xx1.out.ext hb)
  clear Xx1
  have Xx1 := Lib.hid Xx1q.out
  clear Xx1q
  have E9 := Lib.hid (show Ext w w9 from Ext.trans E8.out hb)
  have S9 := Lib.hid hb.size
  clear hb
  try clear y00 y01 y02 y03
  obtain ⟨y00, y01, y02, y03⟩ := D0.out.box
  try clear y10 y11 y12 y13
  obtain ⟨y10, y11, y12, y13⟩ := D1.out.box
  try clear x00 x01 x02 x03
  obtain ⟨x00, x01, x02, x03⟩ := Xx0.out.box
  try clear x10 x11 x12 x13
  obtain ⟨x10, x11, x12, x13⟩ := Xx1.out.box
  go_wp2_with fail
  have ly : w6.heap.size < w9.heap.size := Xx1.out.blt
  have lz : (w.heap.size + 1) < w9.heap.size := D1.out.blt
  go_region_held3 (fun w' => w'.cell? ⟨w6.heap.size, 0, none⟩ = some (.int .i64 o1) ∧ w'.cell? ⟨w6.heap.size, 1, none⟩ = some (.int .i64 n1) ∧ w'.cell? ⟨w6.heap.size, 2, none⟩ = some (.string t1) ∧ w'.cell? ⟨w6.heap.size, 3, none⟩ = some (.slice px1 k1.len k1.len) ∧ w'.cell? ⟨(w.heap.size + 1), 0, none⟩ = some (.int .i64 o1) ∧ w'.cell? ⟨(w.heap.size + 1), 1, none⟩ = some (.int .i64 n1) ∧ w'.cell? ⟨(w.heap.size + 1), 2, none⟩ = some (.string t1) ∧ w'.cell? ⟨(w.heap.size + 1), 3, none⟩ = some (.slice a1 k1.len c1))
    (first
      | go_keep
      | (refine ⟨?_, ?_, ?_, ?_, ?_, ?_, ?_, ?_⟩ <;> (first | assumption | (rw [hb7.cell (p := ⟨_, _, _⟩) (by simp; omega)]; assumption) | (rw [hb8.cell (p := ⟨_, _, _⟩) (by have := hb7.size; simp at this ⊢; omega)]; assumption) | (rw [hb8.cell (p := ⟨_, _, _⟩) (by have := hb7.size; simp at this ⊢; omega), hb7.cell (p := ⟨_, _, _⟩) (by simp; omega)]; assumption))))
    (first
      | (go_at_call 18; refine (HTO1.out _ (by first | exact E9.out | exact E9.out.drew)).mono ?_; rintro e1 w9a ⟨p7, q7, rfl, hs7, hfr7, hb7⟩)
      | (go_at_call 20; refine (HEQ1.out _ _ _ qx1 q7 (by first | exact Xx1.out.lies.sub.below Xx1.out.lies.fresh.lt hb7 | exact (ex_drew Xx1.out.lies.sub).below Xx1.out.lies.fresh.lt hb7 | exact ex_drew ((ex_drew Xx1.out.lies.sub).below Xx1.out.lies.fresh.lt hb7)) (by first | exact hs7 | exact ex_drew hs7) (fun c hc => Nat.lt_of_lt_of_le (Xx1.out.lies.fresh.lt c hc) hb7.size) hfr7.lt).mono ?_; rintro e1 w10 ⟨rfl, hb8⟩))
  have hb : Below w9.heap.size w9 w10 := by
    have q7 : Below w9.heap.size w9 w9a := (Below.refl _ w9).drew.trans hb7
    first | exact q7.trans (hb8.mono q7.size) | exact q7.drew.trans (hb8.mono (by have := q7.size; simp; omega))
  try clear y00 y01 y02 y03
  try clear y10 y11 y12 y13
  try clear x00 x01 x02 x03
  try clear x10 x11 x12 x13
  clear ly lz hs7 hfr7 hb7 hb8
  have D0q := Lib.hid (D0.out.ext (show Ext _ _ from hb))
  clear D0
  have D0 := Lib.hid D0q.out
  clear D0q
  have D1q := Lib.hid (D1.out.ext (show Ext _ _ from hb))
  clear D1
  have D1 := Lib.hid D1q.out
  clear D1q
  have Xx0q := Lib.hid (Xx0.out.ext hb)
  clear Xx0
  have Xx0 := Lib.hid Xx0q.out
  clear Xx0q
  have Xx1q := Lib.hid (Xx1.out.ext hb)
  clear Xx1
  have Xx1 := Lib.hid Xx1q.out
  clear Xx1q
  have E10 := Lib.hid (show Ext w w10 from Ext.trans E9.out hb)
  have S10 := Lib.hid hb.size
  clear hb
  try clear y00 y01 y02 y03
  obtain ⟨y00, y01, y02, y03⟩ := D0.out.box
  try clear y10 y11 y12 y13
  obtain ⟨y10, y11, y12, y13⟩ := D1.out.box
  try clear x00 x01 x02 x03
  obtain ⟨x00, x01, x02, x03⟩ := Xx0.out.box
  try clear x10 x11 x12 x13
  obtain ⟨x10, x11, x12, x13⟩ := Xx1.out.box
  go_wp2_with fail
  go_ret
  exact ⟨rfl, E10.out⟩

theorem walk (w : World) (o0 n0 : Int) (t0 : ByteArray) (k0 : F) (a0 : Option Addr) (c0 : Nat) (f0 : List Nat) (o1 n1 : Int) (t1 : ByteArray) (k1 : F) (a1 : Option Addr) (c1 : Nat) (f1 : List Nat) (hs0 : SubAt w a0 k0 f0) (hfs0 : ∀ c ∈ f0, c < w.heap.size) (hc0 : k0.len ≤ c0) (hl0 : k0.len ≤ maxLen) (hft0 : k0.Fits) (ht0 : t0.size ≤ maxLen) (hs1 : SubAt w a1 k1 f1) (hfs1 : ∀ c ∈ f1, c < w.heap.size) (hc1 : k1.len ≤ c1) (hl1 : k1.len ≤ maxLen) (hft1 : k1.Fits) (ht1 : t1.size ≤ maxLen) :
    Calls Try.prog 7 #[.agg #[.int .i64 o0, .int .i64 n0, .string t0, .slice a0 k0.len c0], .agg #[.int .i64 o1, .int .i64 n1, .string t1, .slice a1 k1.len c1]] w fun e w' => e = .returned (.bool true) ∧ Below w.heap.size w w' := by
  by_cases h0 : (1048576 : Int) < ((t0.size + k0.size : Nat) : Int)
  · exact walk_big0 w o0 n0 t0 k0 a0 c0 f0 o1 n1 t1 k1 a1 c1 f1 hs0 hfs0 hc0 hl0 hft0 ht0 hs1 hfs1 hc1 hl1 hft1 ht1 h0
  by_cases h1 : (1048576 - ((t0.size + k0.size : Nat) : Int)) < ((t1.size + k1.size : Nat) : Int)
  · exact walk_big1 w o0 n0 t0 k0 a0 c0 f0 o1 n1 t1 k1 a1 c1 f1 hs0 hfs0 hc0 hl0 hft0 ht0 hs1 hfs1 hc1 hl1 hft1 ht1 _ rfl (by omega) h1
  exact walk_good w o0 n0 t0 k0 a0 c0 f0 o1 n1 t1 k1 a1 c1 f1 hs0 hfs0 hc0 hl0 hft0 ht0 hs1 hfs1 hc1 hl1 hft1 ht1 _ rfl (by omega) _ rfl (by omega)

set_option maxRecDepth 100000 in
theorem lifted (os : Os) (started : os.Started) (H : Type) (enc : TypeId × Value → H) :
    ReturnsInHanded {} Try.checked os 7 .any (Rows.fnExactSameRendersSpec.pre6 enc Try.prog Try.f7 Rows.fnExactSameRendersRow.domain false) (Rows.fnExactSameRendersSpec.post enc Try.prog Try.f7 false true false false) := by
  refine returnsInHanded_of_change (C := Try.checked) Facts.own started (by kernel_rfl) Try.func7
    (ChangeSpec.witness6 (enc := enc) (C := Try.checked) false ⟨#[], #[.agg #[.int .i64 0, .int .i64 0, .string ⟨#[]⟩, .slice none 0 0], .agg #[.int .i64 0, .int .i64 0, .string ⟨#[]⟩, .slice none 0 0]], []⟩ 8 (by kernel_rfl) (by kernel_rfl) (by kernel_rfl) (by kernel_rfl)) ?_
  intro W base args ds gs before hval0 hW hcnd0 _
  clear hcnd0
  have hval : ∀ (j : Nat) t v, Try.f7.params[j]? = some t → args[j]? = some v → Value.okWide Try.prog W .any base t v := hval0
  have hW' := hW
  obtain ⟨p, q, hA0, hV, rfl, hfz, hnd⟩ := hW
  have hA : DataW.TrodAll enc Try.prog W 0 (fun _ => true) true Try.f7.params.toList args.toList ds p := hA0
  rw [Try.params7] at hA hval
  obtain ⟨v0, v1, d0, d1, p0, p1, rfl, rfl, rfl, h0, h1⟩ := trodAll_two hA
  obtain ⟨rfl, rfl⟩ := trodVars_none hV
  obtain ⟨o0, n0, t0, k0, a0, c0, f0, rfl, ht0, hl0, hft0, hc0, hs0, hfs0⟩ := Open.open_doc (hval 0 24 v0 rfl rfl) h0
  obtain ⟨o1, n1, t1, k1, a1, c1, f1, rfl, ht1, hl1, hft1, hc1, hs1, hfs1⟩ := Open.open_doc (hval 1 24 v1 rfl rfl) h1
  clear hA0 hval0
  simp only [List.append_nil] at hW'
  have hlt : ∀ x ∈ p0 ++ p1, x.block < W.heap.size := fun x hx => by simpa using hW'.lt x hx
  refine (walk W o0 n0 t0 k0 a0 c0 f0 o1 n1 t1 k1 a1 c1 f1 hs0 hfs0 hc0 hl0 hft0 ht0 hs1 hfs1 hc1 hl1 hft1 ht1).mono fun e W' ⟨he, hb⟩ => ?_
  subst he
  refine ⟨_, rfl, [d0, d1], [], p0 ++ p1, [], p0 ++ p1, [], hW', trodAll_mk1 (shut_bool Try.underlying4 _), ?_, rfl, hb.frame _, fun h => by cases h⟩
  exact trodAll_mk2 (Below.trod Facts.laidOut (by kernel_rfl) (of_decide_eq_true (by kernel_rfl)) h0 hb (fun x hx => hlt x (List.mem_append_left _ hx))) (Below.trod Facts.laidOut (by kernel_rfl) (of_decide_eq_true (by kernel_rfl)) h1 hb (fun x hx => hlt x (List.mem_append_right _ hx)))

theorem named : Try.prog.funcNamed Rows.fnExactSameRendersRow.func = some 7 := by kernel_rfl
theorem closed : joinedFacts Try.prog 7 Try.f7 Rows.fnExactSameRendersSpec Rows.fnExactSameRendersRow = true :=
  Facts.closed_of rfl rfl rfl rfl (h28b := rfl) (by kernel_rfl) (by kernel_rfl) (by kernel_rfl) (by kernel_rfl) (by kernel_rfl) (by kernel_rfl) (by kernel_rfl) (by kernel_rfl) (by kernel_rfl) (by kernel_rfl) (by kernel_rfl) (by kernel_rfl) (by kernel_rfl) (by kernel_rfl) (by kernel_rfl) (by kernel_rfl) (by kernel_rfl) (by kernel_rfl) (by kernel_rfl) (by kernel_rfl) (by kernel_rfl) (by kernel_rfl) (by kernel_rfl) (by kernel_rfl)
theorem instanced : Try.f7.isInstance Try.prog Rows.fnExactSameRendersRow.origin Rows.fnExactSameRendersRow.targs := of_decide_eq_true (by kernel_rfl)
theorem wrapped : Try.f7.isWrapper Try.prog Rows.fnExactSameRendersRow.wrapper Rows.fnExactSameRendersRow.mainSum := by
  unfold Func.isWrapper
  rw [if_neg (of_decide_eq_false (by kernel_rfl))]
  exact ⟨rfl, rfl⟩

theorem holds : Rows.FnExactSameRendersSaid :=
  OpenClaim.holds_of_wide 7 Try.f7 rfl rfl rfl rfl rfl rfl rfl ⟨rfl, rfl, rfl, rfl, rfl⟩ rfl rfl rfl rfl rfl named Try.func7 closed instanced wrapped
    (fun os started H enc _ => lifted os started H enc)

end Go.Proofs.Ytmkibpimjaofgaa.lawSameRenders

