/-
  For every two documents that can be read as data, DocSame of the program answers as DocSame of the model and changes nothing of its arguments: the law FnExactDocSame returns true, and its arguments read as they did. No condition of ours; as the row says, a document that leads back into itself is not read.
-/
import Derived.Test.YtjpgnhpfmdjamaaLawKit
import Derived.Test.YtjpgnhpfmdjamaaCatD
import Derived.Test.YtjpgnhpfmdjamaaSameL
import Derived.Test.YtjpgnhpfmdjamaaSpecS
import Derived.Test.YtjpgnhpfmdjamaaOpen
import Derived.Test.YtjpgnhpfmdjamaaSz
import Derived.Test.YtjpgnhpfmdjamaaEq
import Derived.Test.YtjpgnhpfmdjamaaFacts
import Derived.Test.YtjpgnhpfmdjamaaRows
import Derived.Deep.RegionHeld3
import Derived.Deep.DeepCutAuto
set_option linter.unusedVariables false
set_option linter.unusedSimpArgs false
namespace Go.Proofs.Ytjpgnhpfmdjamaa.lawDocSame
open Go.ChangeShapes Go.WideShapes Go.ChangeAt Go.RowKit P1 CatD

theorem eqDoc_self (o n : Int) (t : ByteArray) (k : F) (h0 : k.size ≤ 2097152) (w1 : World) (a1 a2 : Option Addr) (c1 c2 : Nat) (f1 f2 : List Nat) (h1 : SubAt w1 a1 k f1) (h2 : SubAt w1 a2 k f2) (h3 : ∀ c ∈ f1, c < w1.heap.size) (h4 : ∀ c ∈ f2, c < w1.heap.size) (h5 : k.len ≤ c1) (h6 : k.len ≤ c2) :
    Calls Try.prog 50 #[.agg #[.int .i64 o, .int .i64 n, .string t, .slice a1 k.len c1], .agg #[.int .i64 o, .int .i64 n, .string t, .slice a2 k.len c2]] w1 fun e w' => e = .returned (.bool true) ∧ Below w1.heap.size w1 w' := by
  have := F.len_le_size k
  have h := Eq.eqDoc (Eq.eqS_any k k) o n o n t t w1 a1 a2 c1 c2 f1 f2 h1 h2 h3 h4 h5 h6 (by unfold maxLen; omega) (by unfold maxLen; omega) (fits_of_size (m := 2097152) (by unfold maxLen; omega) k h0) (fits_of_size (m := 2097152) (by unfold maxLen; omega) k h0)
  rw [sameD_yes, F.same_self] at h
  exact h

section
variable (w : World) (oA nA : Int) (tA : ByteArray) (kA : F) (aA : Option Addr) (cA : Nat) (fA : List Nat) (oB nB : Int) (tB : ByteArray) (kB : F) (aB : Option Addr) (cB : Nat) (fB : List Nat)

theorem fresh_ok {lo : Nat} {w : World} {fs : List Nat} (h : Fresh lo w fs) : ∀ c ∈ fs, c < w.heap.size ∧ ∀ o, w.frozen? ⟨c, o, none⟩ = false := fun c hc => (h.2 c hc).2

set_option maxRecDepth 100000 in
set_option maxHeartbeats 12800000 in
theorem walk_good (hsA : SubAt w aA kA fA) (hfA : ∀ c ∈ fA, c < w.heap.size) (hcA : kA.len ≤ cA) (hsB : SubAt w aB kB fB) (hfB : ∀ c ∈ fB, c < w.heap.size) (hcB : kB.len ≤ cB) (hle : tA.size + kA.size + (tB.size + kB.size) ≤ 1048576) :
    Calls Try.prog 13 #[.agg #[.int .i64 oA, .int .i64 nA, .string tA, .slice aA kA.len cA], .agg #[.int .i64 oB, .int .i64 nB, .string tB, .slice aB kB.len cB]] w fun e w' => e = .returned (.bool true) ∧ Below w.heap.size w w' := by
  have hm : (1048576 : Nat) ≤ maxLen := by unfold maxLen; omega
  have hlA := F.len_le_size kA
  have hlB := F.len_le_size kB
  have hftA : kA.Fits := fits_of_size hm kA (by omega)
  have hftB : kB.Fits := fits_of_size hm kB (by omega)
  have hvA : ∀ ob, DocAt ((w.alloc (.cells #[.int .i64 oA, .int .i64 nA, .string tA, .slice aA kA.len cA] 52)).alloc ob) w.heap.size oA nA tA kA aA cA fA := fun ob => (DocAt.new hsA hfA hcA oA nA tA _).ext ((Ext.refl _).alloc _)
  have hvB : ∀ ob, DocAt ((w.alloc ob).alloc (.cells #[.int .i64 oB, .int .i64 nB, .string tB, .slice aB kB.len cB] 52)) (w.heap.size + 1) oB nB tB kB aB cB fB := fun ob => by
    have := DocAt.new (w := w.alloc ob) (((Ext.refl w).alloc ob).sub hsB hfB) (fun c hc => by have := hfB c hc; simp; omega) hcB oB nB tB 52
    simpa using this
  have hszA := fun (w1 : World) (h1 : Ext w w1) => Sz.szDoc (Sz.szS_any kA) oA nA tA w1 aA cA fA 1048576 (h1.sub hsA hfA) (fun c hc => Nat.lt_of_lt_of_le (hfA c hc) h1.size) hcA (by omega) hftA (by omega) (by omega) (by omega)
  rw [Sz.szR_yes (by omega)] at hszA
  obtain ⟨z1, hz1⟩ : ∃ z : Int, (1048576 : Int) - ((tA.size + kA.size : Nat) : Int) = z := ⟨_, rfl⟩
  have hszB := fun (w1 : World) (h1 : Ext w w1) => Sz.szDoc (Sz.szS_any kB) oB nB tB w1 aB cB fB z1 (h1.sub hsB hfB) (fun c hc => Nat.lt_of_lt_of_le (hfB c hc) h1.size) hcB (by omega) hftB (by omega) (by omega) (by omega)
  rw [Sz.szR_yes (by omega)] at hszB
  obtain ⟨z2, hz2⟩ : ∃ z : Int, z1 - ((tB.size + kB.size : Nat) : Int) = z := ⟨_, rfl⟩
  have hz1' : ¬ (z1 < 0) := by omega
  have hz2' : ¬ (z2 < 0) := by omega
  rw [hz1] at hszA
  rw [hz2] at hszB
  have htoA := fun (w1 : World) (h1 : Ext w w1) => To.toDoc (To.toS_any kA) oA nA tA w1 aA cA fA (h1.sub hsA hfA) (fun c hc => Nat.lt_of_lt_of_le (hfA c hc) h1.size) hcA (by omega)
  have htoB := fun (w1 : World) (h1 : Ext w w1) => To.toDoc (To.toS_any kB) oB nB tB w1 aB cB fB (h1.sub hsB hfB) (fun c hc => Nat.lt_of_lt_of_le (hfB c hc) h1.size) hcB (by omega)
  have hspec : ∀ (w1 : World) (a1 : Option Addr) (f1 : List Nat) (a2 : Option Addr) (f2 : List Nat) (h1 : SubAt w1 a1 kA f1) (h2 : SubAt w1 a2 kB f2) (h3 : ∀ c ∈ f1, c < w1.heap.size) (h4 : ∀ c ∈ f2, c < w1.heap.size),
      Calls Try.prog 48 #[.agg #[.int .i64 oA, .int .i64 nA, .string tA, .slice a1 kA.len kA.len], .agg #[.int .i64 oB, .int .i64 nB, .string tB, .slice a2 kB.len kB.len]] w1 fun e w' => e = .returned (.bool (sameD oA nA tA kA oB nB tB kB)) ∧ Below w1.heap.size w1 w' := fun w1 a1 f1 a2 f2 h1 h2 h3 h4 => SpecS.docSame_any kA kB oA nA oB nB tA tB w1 a1 a2 kA.len kB.len f1 f2 h1 h2 h3 h4 (Nat.le_refl _) (Nat.le_refl _) (by omega) (by omega) hftA hftB
  have himpl : ∀ (w1 : World) (a1 : Option Addr) (f1 : List Nat) (a2 : Option Addr) (f2 : List Nat) (h1 : SubAt w1 a1 kA f1) (h2 : SubAt w1 a2 kB f2) (h3 : ∀ c ∈ f1, c < w1.heap.size ∧ ∀ o, w1.frozen? ⟨c, o, none⟩ = false) (h4 : ∀ c ∈ f2, c < w1.heap.size ∧ ∀ o, w1.frozen? ⟨c, o, none⟩ = false),
      Calls Try.prog 21 #[.agg #[.int .i64 oA, .int .i64 nA, .string tA, .slice a1 kA.len kA.len], .agg #[.int .i64 oB, .int .i64 nB, .string tB, .slice a2 kB.len kB.len]] w1 fun e w' => e = .returned (.bool (sameD oA nA tA kA oB nB tB kB)) ∧ Below w1.heap.size w1 w' := fun w1 a1 f1 a2 f2 h1 h2 h3 h4 => SameL.docSame w1 (oA, nA, tA, kA) (oB, nB, tB, kB) _ _ ⟨a1, kA.len, f1, rfl, Nat.le_refl _, h1, h3, by show kA.size ≤ _; omega⟩ ⟨a2, kB.len, f2, rfl, Nat.le_refl _, h2, h4, by show kB.size ≤ _; omega⟩
  have heq := @eqDoc_self
  obtain ⟨v, hv⟩ : ∃ v, sameD oA nA tA kA oB nB tB kB = v := ⟨_, rfl⟩
  rw [hv] at hspec himpl
  have hsA1 : kA.size ≤ 2097152 := by omega
  have hsB1 : kB.size ≤ 2097152 := by omega
  have HVA := Lib.hid hvA
  have HVB := Lib.hid hvB
  have HSZA := Lib.hid hszA
  have HSZB := Lib.hid hszB
  have HTOA := Lib.hid htoA
  have HTOB := Lib.hid htoB
  have HSP := Lib.hid hspec
  have HIM := Lib.hid himpl
  have HEQ := Lib.hid heq
  have hvv : (v != v) = false := by simp
  clear hvA hvB hszA hszB htoA htoB hspec himpl heq hv hftA hftB hsA hfA hcA hsB hfB hcB hz1 hz2 hm hlA hlB
  have E0 : ∀ x y, Ext w ((w.alloc x).alloc y) := fun x y => ((Ext.refl w).alloc x).alloc y
  have HE0 := Lib.hid E0
  clear E0
  go_enter Try.func13, Try.ntmps13
  go_wp2_with fail
  refine (HSZA.out _ (HE0.out _ _)).mono ?_
  rintro e1 w1 ⟨rfl, hb1⟩
  have e1 : Ext w w1 := (HE0.out _ _).trans hb1
  have hA1 := (HVA.out _).ext hb1
  have hB1 := (HVB.out _).ext hb1
  have H1 := Lib.hid (And.intro e1 (And.intro hA1 hB1))
  obtain ⟨y0, y1, y2, y3⟩ := hB1.box
  clear hb1 e1 hA1 hB1
  go_wp2_with fail
  refine (HSZB.out _ H1.out.1).mono ?_
  rintro e2 w2 ⟨rfl, hb2⟩
  have H2 := Lib.hid (And.intro (H1.out.1.trans hb2) (And.intro (H1.out.2.1.ext hb2) (H1.out.2.2.ext hb2)))
  clear hb2 y0 y1 y2 y3 H1
  obtain ⟨x0, x1, x2, x3, y0, y1, y2, y3⟩ := two_boxes H2.out.2.1 H2.out.2.2
  go_wp2_with fail
  go_upto_region 8 with (fail)
  go_cut [6] (fun s6 wx => s6 = .bool v ∧ Ext w2 wx)
  case first =>
    go_region_held3 (fun w' => w'.cell? ⟨w.heap.size, 0, none⟩ = some (.int .i64 oA) ∧ w'.cell? ⟨w.heap.size, 1, none⟩ = some (.int .i64 nA) ∧ w'.cell? ⟨w.heap.size, 2, none⟩ = some (.string tA) ∧ w'.cell? ⟨w.heap.size, 3, none⟩ = some (.slice aA kA.len cA) ∧
        w'.cell? ⟨w.heap.size + 1, 0, none⟩ = some (.int .i64 oB) ∧ w'.cell? ⟨w.heap.size + 1, 1, none⟩ = some (.int .i64 nB) ∧ w'.cell? ⟨w.heap.size + 1, 2, none⟩ = some (.string tB) ∧ w'.cell? ⟨w.heap.size + 1, 3, none⟩ = some (.slice aB kB.len cB))
      (first | go_keep | exact two_boxes (H2.out.2.1.ext r3) (H2.out.2.2.ext r3) | exact two_boxes (H2.out.2.1.ext r4) (H2.out.2.2.ext r4) | exact two_boxes (H2.out.2.1.ext r5) (H2.out.2.2.ext r5))
      (first
        | (go_at_call_of 49 (Value.agg #[.int .i64 oA, .int .i64 nA, .string tA, .slice aA kA.len cA]); refine (HTOA.out _ (by first | exact H2.out.1.drew | exact H2.out.1)).mono ?_; rintro e1 v3 ⟨i3, g3, rfl, hs3, hfr3, hb3⟩; have r3 : Ext w2 v3 := Ext.trans (by first | exact (Ext.refl w2).drew | exact Ext.refl w2) hb3)
        | (go_at_call_of 49 (Value.agg #[.int .i64 oB, .int .i64 nB, .string tB, .slice aB kB.len cB]); refine (HTOB.out _ (by exact H2.out.1.trans r3)).mono ?_; rintro e1 v4 ⟨i4, g4, rfl, hs4, hfr4, hb4⟩; have r34 : Ext v3 v4 := hb4; have r4 : Ext w2 v4 := r3.trans r34)
        | (go_at_call 48; refine (HSP.out _ i3 g3 i4 g4 (by exact r34.sub hs3 hfr3.lt) (by exact hs4) (by exact (r34.fresh hfr3).lt) (by exact hfr4.lt)).mono ?_; rintro e1 v5 ⟨rfl, hb5⟩; have r5 : Ext w2 v5 := r4.trans hb5))
    all_goals
      go_wp2_with fail
      go_meet
    all_goals
      case rel => exact ⟨rfl, r5⟩
  case rest =>
    obtain ⟨rfl, hN6⟩ := hcut
    have H6 := Lib.hid (And.intro (H2.out.1.trans hN6) (And.intro (H2.out.2.1.ext hN6) (H2.out.2.2.ext hN6)))
    clear hN6
    obtain ⟨x0, x1, x2, x3⟩ := H6.out.2.1.box
    clear y0 y1 y2 y3
    go_wp2_with fail
    refine (HTOA.out _ H6.out.1).mono ?_
    rintro e6 w6 ⟨a6, f6, rfl, hs6, hfr6, hb6⟩
    have e6 : Ext wc w6 := hb6
    have hB6 := H6.out.2.2.ext e6
    have H7 := Lib.hid (And.intro (H6.out.1.trans e6) (And.intro (H6.out.2.1.ext e6) (And.intro hB6 (And.intro hs6 hfr6))))
    obtain ⟨y0, y1, y2, y3⟩ := hB6.box
    have l6 := hB6.blt
    clear e6 hB6 hs6 hfr6 hb6
    go_wp2_with fail
    refine (HTOB.out _ (H7.out.1.alloc _)).mono ?_
    rintro e7 w7 ⟨a7, f7, rfl, hs7, hfr7, hb7⟩
    have e7 : Ext w6 w7 := ((Ext.refl w6).alloc _).trans hb7
    have hX7 := (DocAt.new H7.out.2.2.2.1 H7.out.2.2.2.2.lt (Nat.le_refl _) oA nA tA _).ext hb7
    have H8 := Lib.hid (And.intro (H7.out.1.trans e7) (And.intro (H7.out.2.1.ext e7) (And.intro (H7.out.2.2.1.ext e7) (And.intro hX7 (And.intro hs7 (And.intro hfr7 (e7.fresh H7.out.2.2.2.2)))))))
    obtain ⟨x0, x1, x2, x3⟩ := hX7.box
    have l7 := hX7.blt
    clear y0 y1 y2 y3 hX7 hs7 hfr7 hb7 e7 l6 H7
    go_wp2_with fail
    refine (HIM.out _ a6 f6 a7 f7 (by exact (Ext.alloc (Ext.refl w7) _).sub H8.out.2.2.2.1.sub H8.out.2.2.2.1.lt) (by exact (Ext.alloc (Ext.refl w7) _).sub H8.out.2.2.2.2.1 H8.out.2.2.2.2.2.1.lt) (fun c hc => fresh_ok (Ext.fresh (Ext.alloc (Ext.refl w7) _) H8.out.2.2.2.2.2.2) c hc) (fun c hc => fresh_ok (Ext.fresh (Ext.alloc (Ext.refl w7) _) H8.out.2.2.2.2.2.1) c hc)).mono ?_
    rintro e8 w8 ⟨rfl, hb8⟩
    have e8 : Ext w7 w8 := ((Ext.refl w7).alloc _).trans hb8
    have hX8 := (DocAt.new H8.out.2.2.2.2.1 H8.out.2.2.2.2.2.1.lt (Nat.le_refl _) oB nB tB _).ext hb8
    have P9 := Lib.hid (And.intro (H8.out.2.1.ext e8) (And.intro (H8.out.2.2.1.ext e8) (And.intro (H8.out.2.2.2.1.ext e8) hX8)))
    have E9 := Lib.hid (H8.out.1.trans e8)
    clear x0 x1 x2 x3 hX8 hb8 e8 l7 H8
    obtain ⟨x0, x1, x2, x3, y0, y1, y2, y3⟩ := two_boxes P9.out.2.2.1 P9.out.1
    go_wp2_with fail
    go_region_held3 (fun w' => w'.cell? ⟨w6.heap.size, 0, none⟩ = some (.int .i64 oA) ∧ w'.cell? ⟨w6.heap.size, 1, none⟩ = some (.int .i64 nA) ∧ w'.cell? ⟨w6.heap.size, 2, none⟩ = some (.string tA) ∧ w'.cell? ⟨w6.heap.size, 3, none⟩ = some (.slice a6 kA.len kA.len) ∧ w'.cell? ⟨w.heap.size, 0, none⟩ = some (.int .i64 oA) ∧ w'.cell? ⟨w.heap.size, 1, none⟩ = some (.int .i64 nA) ∧ w'.cell? ⟨w.heap.size, 2, none⟩ = some (.string tA) ∧ w'.cell? ⟨w.heap.size, 3, none⟩ = some (.slice aA kA.len cA))
      (first | go_keep | exact two_boxes (P9.out.2.2.1.ext q10) (P9.out.1.ext q10) | exact two_boxes (P9.out.2.2.1.ext q11) (P9.out.1.ext q11))
      (first
        | (go_at_call 49; refine (HTOA.out _ (by exact E9.out.drew)).mono ?_; rintro e1 w10 ⟨a10, f10, rfl, hs10, hfr10, hb10⟩; have q10 : Ext w8 w10 := (Ext.refl w8).drew.trans hb10)
        | (go_at_call 50; refine (HEQ.out oA nA tA kA hsA1 _ a6 a10 _ _ f6 f10 (by exact (P9.out.2.2.1.ext q10).sub) (by exact hs10) (by exact (P9.out.2.2.1.ext q10).lt) (by exact hfr10.lt) (Nat.le_refl _) (Nat.le_refl _)).mono ?_; rintro e1 w11 ⟨rfl, hb11⟩; have q11 : Ext w8 w11 := q10.trans hb11))
    have P11 := Lib.hid (And.intro (P9.out.1.ext q11) (And.intro (P9.out.2.1.ext q11) (And.intro (P9.out.2.2.1.ext q11) (P9.out.2.2.2.ext q11))))
    have E11 := Lib.hid (E9.out.trans q11)
    clear x0 x1 x2 x3 y0 y1 y2 y3 hs10 hfr10 hb10 hb11 q10 q11 P9 E9
    obtain ⟨x0, x1, x2, x3, y0, y1, y2, y3⟩ := two_boxes P11.out.2.2.2 P11.out.2.1
    go_wp2_with fail
    go_region_held3 (fun w' => w'.cell? ⟨w7.heap.size, 0, none⟩ = some (.int .i64 oB) ∧ w'.cell? ⟨w7.heap.size, 1, none⟩ = some (.int .i64 nB) ∧ w'.cell? ⟨w7.heap.size, 2, none⟩ = some (.string tB) ∧ w'.cell? ⟨w7.heap.size, 3, none⟩ = some (.slice a7 kB.len kB.len) ∧ w'.cell? ⟨w.heap.size + 1, 0, none⟩ = some (.int .i64 oB) ∧ w'.cell? ⟨w.heap.size + 1, 1, none⟩ = some (.int .i64 nB) ∧ w'.cell? ⟨w.heap.size + 1, 2, none⟩ = some (.string tB) ∧ w'.cell? ⟨w.heap.size + 1, 3, none⟩ = some (.slice aB kB.len cB))
      (first | go_keep | exact two_boxes (P11.out.2.2.2.ext q12) (P11.out.2.1.ext q12) | exact two_boxes (P11.out.2.2.2.ext q13) (P11.out.2.1.ext q13))
      (first
        | (go_at_call 49; refine (HTOB.out _ (by exact E11.out.drew)).mono ?_; rintro e1 w12 ⟨a12, f12, rfl, hs12, hfr12, hb12⟩; have q12 : Ext w11 w12 := (Ext.refl w11).drew.trans hb12)
        | (go_at_call 50; refine (HEQ.out oB nB tB kB hsB1 _ a7 a12 _ _ f7 f12 (by exact (P11.out.2.2.2.ext q12).sub) (by exact hs12) (by exact (P11.out.2.2.2.ext q12).lt) (by exact hfr12.lt) (Nat.le_refl _) (Nat.le_refl _)).mono ?_; rintro e1 w13 ⟨rfl, hb13⟩; have q13 : Ext w11 w13 := q12.trans hb13))
    have E13 := Lib.hid (E11.out.trans q13)
    clear x0 x1 x2 x3 y0 y1 y2 y3 hs12 hfr12 hb12 hb13 q12 q13 P11 E11
    go_wp2_with fail
    go_ret
    exact ⟨rfl, E13.out⟩

set_option maxRecDepth 100000 in
set_option maxHeartbeats 3200000 in
theorem walk_big1 (hsA : SubAt w aA kA fA) (hfA : ∀ c ∈ fA, c < w.heap.size) (hcA : kA.len ≤ cA) (hlA : kA.len ≤ maxLen) (hftA : kA.Fits) (htA : tA.size ≤ maxLen) (hbig : (1048576 : Int) < ((tA.size + kA.size : Nat) : Int)) (lB : Nat) :
    Calls Try.prog 13 #[.agg #[.int .i64 oA, .int .i64 nA, .string tA, .slice aA kA.len cA], .agg #[.int .i64 oB, .int .i64 nB, .string tB, .slice aB lB cB]] w fun e w' => e = .returned (.bool true) ∧ Below w.heap.size w w' := by
  have hsz := fun (w1 : World) (h1 : Ext w w1) => Sz.szDoc (Sz.szS_any kA) oA nA tA w1 aA cA fA 1048576 (h1.sub hsA hfA) (fun c hc => Nat.lt_of_lt_of_le (hfA c hc) h1.size) hcA hlA hftA htA (by omega) (by omega)
  rw [Sz.szR_no hbig] at hsz
  have HS := Lib.hid hsz
  have HE0 := Lib.hid (show ∀ x y, Ext w ((w.alloc x).alloc y) from fun x y => ((Ext.refl w).alloc x).alloc y)
  clear hsz hsA hfA hcA hlA hftA htA hbig
  go_enter Try.func13, Try.ntmps13
  go_wp2_with fail
  refine (HS.out _ (HE0.out _ _)).mono ?_
  rintro e1 w1 ⟨rfl, hb1⟩
  have HB := Lib.hid hb1
  clear hb1
  go_wp2_with fail
  go_ret
  exact ⟨rfl, (HE0.out _ _).trans HB.out⟩

set_option maxRecDepth 100000 in
set_option maxHeartbeats 3200000 in
theorem walk_big2 (hsA : SubAt w aA kA fA) (hfA : ∀ c ∈ fA, c < w.heap.size) (hcA : kA.len ≤ cA) (hlA : kA.len ≤ maxLen) (hftA : kA.Fits) (htA : tA.size ≤ maxLen) (hsB : SubAt w aB kB fB) (hfB : ∀ c ∈ fB, c < w.heap.size) (hcB : kB.len ≤ cB) (hlB : kB.len ≤ maxLen) (hftB : kB.Fits) (htB : tB.size ≤ maxLen)
    (hsmall : ((tA.size + kA.size : Nat) : Int) ≤ 1048576) (hbig : (1048576 : Int) - ((tA.size + kA.size : Nat) : Int) < ((tB.size + kB.size : Nat) : Int)) :
    Calls Try.prog 13 #[.agg #[.int .i64 oA, .int .i64 nA, .string tA, .slice aA kA.len cA], .agg #[.int .i64 oB, .int .i64 nB, .string tB, .slice aB kB.len cB]] w fun e w' => e = .returned (.bool true) ∧ Below w.heap.size w w' := by
  have hszA := fun (w1 : World) (h1 : Ext w w1) => Sz.szDoc (Sz.szS_any kA) oA nA tA w1 aA cA fA 1048576 (h1.sub hsA hfA) (fun c hc => Nat.lt_of_lt_of_le (hfA c hc) h1.size) hcA hlA hftA htA (by omega) (by omega)
  rw [Sz.szR_yes hsmall] at hszA
  obtain ⟨z1, hz1⟩ : ∃ z : Int, (1048576 : Int) - ((tA.size + kA.size : Nat) : Int) = z := ⟨_, rfl⟩
  rw [hz1] at hszA hbig
  have hszB := fun (w1 : World) (h1 : Ext w w1) => Sz.szDoc (Sz.szS_any kB) oB nB tB w1 aB cB fB z1 (h1.sub hsB hfB) (fun c hc => Nat.lt_of_lt_of_le (hfB c hc) h1.size) hcB hlB hftB htB (by omega) (by omega)
  rw [Sz.szR_no hbig] at hszB
  have hz1n : ¬ (z1 < 0) := by omega
  have hvB : ∀ ob, DocAt ((w.alloc ob).alloc (.cells #[.int .i64 oB, .int .i64 nB, .string tB, .slice aB kB.len cB] 52)) (w.heap.size + 1) oB nB tB kB aB cB fB := fun ob => by
    have := DocAt.new (w := w.alloc ob) (((Ext.refl w).alloc ob).sub hsB hfB) (fun c hc => by have := hfB c hc; simp; omega) hcB oB nB tB 52
    simpa using this
  have HSA := Lib.hid hszA
  have HSB := Lib.hid hszB
  have HVB := Lib.hid hvB
  have HE0 := Lib.hid (show ∀ x y, Ext w ((w.alloc x).alloc y) from fun x y => ((Ext.refl w).alloc x).alloc y)
  clear hszA hszB hsA hfA hcA hlA hftA htA hsB hfB hcB hlB hftB htB hbig hsmall hz1 hvB
  go_enter Try.func13, Try.ntmps13
  go_wp2_with fail
  refine (HSA.out _ (HE0.out _ _)).mono ?_
  rintro e1 w1 ⟨rfl, hb1⟩
  have e1 : Ext w w1 := (HE0.out _ _).trans hb1
  obtain ⟨y0, y1, y2, y3⟩ := ((HVB.out _).ext hb1).box
  have H1 := Lib.hid e1
  clear e1 hb1
  go_wp2_with fail
  refine (HSB.out _ H1.out).mono ?_
  rintro e2 w2 ⟨rfl, hb2⟩
  have H2 := Lib.hid (H1.out.trans hb2)
  clear y0 y1 y2 y3 hb2
  go_wp2_with fail
  go_ret
  exact ⟨rfl, H2.out⟩

theorem walk (hsA : SubAt w aA kA fA) (hfA : ∀ c ∈ fA, c < w.heap.size) (hcA : kA.len ≤ cA) (hlA : kA.len ≤ maxLen) (hftA : kA.Fits) (htA : tA.size ≤ maxLen) (hsB : SubAt w aB kB fB) (hfB : ∀ c ∈ fB, c < w.heap.size) (hcB : kB.len ≤ cB) (hlB : kB.len ≤ maxLen) (hftB : kB.Fits) (htB : tB.size ≤ maxLen) :
    Calls Try.prog 13 #[.agg #[.int .i64 oA, .int .i64 nA, .string tA, .slice aA kA.len cA], .agg #[.int .i64 oB, .int .i64 nB, .string tB, .slice aB kB.len cB]] w fun e w' => e = .returned (.bool true) ∧ Below w.heap.size w w' := by
  by_cases h1 : (1048576 : Int) < ((tA.size + kA.size : Nat) : Int)
  · exact walk_big1 w oA nA tA kA aA cA fA oB nB tB aB cB hsA hfA hcA hlA hftA htA h1 kB.len
  · by_cases h2 : (1048576 : Int) - ((tA.size + kA.size : Nat) : Int) < ((tB.size + kB.size : Nat) : Int)
    · exact walk_big2 w oA nA tA kA aA cA fA oB nB tB kB aB cB fB hsA hfA hcA hlA hftA htA hsB hfB hcB hlB hftB htB (by omega) h2
    · exact walk_good w oA nA tA kA aA cA fA oB nB tB kB aB cB fB hsA hfA hcA hsB hfB hcB (by omega)
end

set_option maxRecDepth 100000 in
theorem lifted (os : Os) (started : os.Started) (H : Type) (enc : TypeId × Value → H) :
    ReturnsInHanded {} Try.checked os 13 .any (Rows.fnExactDocSameSpec.pre6 enc Try.prog Try.f13 Rows.fnExactDocSameRow.domain false) (Rows.fnExactDocSameSpec.post enc Try.prog Try.f13 false true false false) := by
  refine returnsInHanded_of_change (C := Try.checked) Facts.own started (by kernel_rfl) Try.func13
    (ChangeSpec.witness6 (enc := enc) (C := Try.checked) false ⟨#[], #[.agg #[.int .i64 0, .int .i64 0, .string ⟨#[]⟩, .slice none 0 0], .agg #[.int .i64 0, .int .i64 0, .string ⟨#[]⟩, .slice none 0 0]], []⟩ 8 (by kernel_rfl) (by kernel_rfl) (by kernel_rfl) (by kernel_rfl)) ?_
  intro W base args ds gs before hval0 hW hcnd0 _
  clear hcnd0
  have hval : ∀ (j : Nat) t v, Try.f13.params[j]? = some t → args[j]? = some v → Value.okWide Try.prog W .any base t v := hval0
  have hW' := hW
  obtain ⟨p, q, hA0, hV, rfl, hfz, hnd⟩ := hW
  have hA : DataW.TrodAll enc Try.prog W 0 (fun _ => true) true Try.f13.params.toList args.toList ds p := hA0
  rw [Try.params13] at hA hval
  obtain ⟨v0, v1, d0, d1, p0, p1, rfl, rfl, rfl, h0, h1⟩ := trodAll_two hA
  obtain ⟨rfl, rfl⟩ := trodVars_none hV
  obtain ⟨o, n, t, k, a, cap, fs, rfl, ht, hl, hft, hc, hs, hfs⟩ := Open.open_doc (hval 0 52 v0 rfl rfl) h0
  obtain ⟨o', n', t', k', a', cap', fs', rfl, ht', hl', hft', hc', hs', hfs'⟩ := Open.open_doc (hval 1 52 v1 rfl rfl) h1
  clear hA0 hval0
  simp only [List.append_nil] at hW'
  have hlt : ∀ x ∈ p0 ++ p1, x.block < W.heap.size := fun x hx => by simpa using hW'.lt x hx
  refine (walk W o n t k a cap fs o' n' t' k' a' cap' fs' hs hfs hc hl hft ht hs' hfs' hc' hl' hft' ht').mono fun e W' ⟨he, hb⟩ => ?_
  subst he
  refine ⟨_, rfl, [d0, d1], [], p0 ++ p1, [], p0 ++ p1, [], hW', trodAll_mk1 (shut_bool Try.underlying4 _), ?_, rfl, hb.frame _, fun h => by cases h⟩
  exact trodAll_mk2 (Below.trod Facts.laidOut (by kernel_rfl) (of_decide_eq_true (by kernel_rfl)) h0 hb (fun x hx => hlt x (List.mem_append_left _ hx))) (Below.trod Facts.laidOut (by kernel_rfl) (of_decide_eq_true (by kernel_rfl)) h1 hb (fun x hx => hlt x (List.mem_append_right _ hx)))

theorem named : Try.prog.funcNamed Rows.fnExactDocSameRow.func = some 13 := by kernel_rfl
theorem closed : joinedFacts Try.prog 13 Try.f13 Rows.fnExactDocSameSpec Rows.fnExactDocSameRow = true :=
  Facts.closed_of rfl rfl rfl rfl (h28b := rfl) (by kernel_rfl) (by kernel_rfl) (by kernel_rfl) (by kernel_rfl) (by kernel_rfl) (by kernel_rfl) (by kernel_rfl) (by kernel_rfl) (by kernel_rfl) (by kernel_rfl) (by kernel_rfl) (by kernel_rfl) (by kernel_rfl) (by kernel_rfl) (by kernel_rfl) (by kernel_rfl) (by kernel_rfl) (by kernel_rfl) (by kernel_rfl) (by kernel_rfl) (by kernel_rfl) (by kernel_rfl) (by kernel_rfl) (by kernel_rfl)
theorem instanced : Try.f13.isInstance Try.prog Rows.fnExactDocSameRow.origin Rows.fnExactDocSameRow.targs := of_decide_eq_true (by kernel_rfl)
theorem wrapped : Try.f13.isWrapper Try.prog Rows.fnExactDocSameRow.wrapper Rows.fnExactDocSameRow.mainSum := by
  unfold Func.isWrapper
  rw [if_neg (of_decide_eq_false (by kernel_rfl))]
  exact ⟨rfl, rfl⟩

theorem holds : Rows.FnExactDocSameSaid :=
  OpenClaim.holds_of_wide 13 Try.f13 rfl rfl rfl rfl rfl rfl rfl ⟨rfl, rfl, rfl, rfl, rfl⟩ rfl rfl rfl rfl rfl named Try.func13 closed instanced wrapped
    (fun os started H enc _ => lifted os started H enc)

end Go.Proofs.Ytjpgnhpfmdjamaa.lawDocSame
