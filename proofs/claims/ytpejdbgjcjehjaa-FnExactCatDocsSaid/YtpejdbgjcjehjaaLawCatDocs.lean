/-
  For every two documents that can be read as data, CatDocs of the program answers as CatDocs of the model, changes nothing of its arguments, and its answer owns its memory: the law FnExactCatDocs returns true, and its arguments read as they did. No condition of ours; as the row says, a document that leads back into itself is not read.
-/
import Derived.Test.YtpejdbgjcjehjaaLawKit
import Derived.Test.YtpejdbgjcjehjaaCatD
import Derived.Test.YtpejdbgjcjehjaaHeld
import Derived.Test.YtpejdbgjcjehjaaOpen
import Derived.Test.YtpejdbgjcjehjaaSz
import Derived.Test.YtpejdbgjcjehjaaEq
import Derived.Test.YtpejdbgjcjehjaaFacts
import Derived.Test.YtpejdbgjcjehjaaRows
import Derived.Deep.RegionHeld3
import Derived.Deep.DeepCutAuto
set_option linter.unusedVariables false
set_option linter.unusedSimpArgs false
namespace Go.Proofs.Ytpejdbgjcjehjaa.lawCatDocs
open Go.ChangeShapes Go.WideShapes Go.ChangeAt Go.RowKit P1 CatD

theorem eqDoc_self (o n : Int) (t : ByteArray) (k : F) (h0 : k.size ≤ 2097152) (w1 : World) (a1 a2 : Option Addr) (c1 c2 : Nat) (f1 f2 : List Nat) (h1 : SubAt w1 a1 k f1) (h2 : SubAt w1 a2 k f2) (h3 : ∀ c ∈ f1, c < w1.heap.size) (h4 : ∀ c ∈ f2, c < w1.heap.size) (h5 : k.len ≤ c1) (h6 : k.len ≤ c2) :
    Calls Try.prog 43 #[.agg #[.int .i64 o, .int .i64 n, .string t, .slice a1 k.len c1], .agg #[.int .i64 o, .int .i64 n, .string t, .slice a2 k.len c2]] w1 fun e w' => e = .returned (.bool true) ∧ Below w1.heap.size w1 w' := by
  have := F.len_le_size k
  have h := Eq.eqDoc (Eq.eqS_any k k) o n o n t t w1 a1 a2 c1 c2 f1 f2 h1 h2 h3 h4 h5 h6 (by unfold maxLen; omega) (by unfold maxLen; omega) (fits_of_size (m := 2097152) (by unfold maxLen; omega) k h0) (fits_of_size (m := 2097152) (by unfold maxLen; omega) k h0)
  rw [sameD_yes, F.same_self] at h
  exact h

section
variable (w : World) (oA nA : Int) (tA : ByteArray) (kA : F) (aA : Option Addr) (cA : Nat) (fA : List Nat) (oB nB : Int) (tB : ByteArray) (kB : F) (aB : Option Addr) (cB : Nat) (fB : List Nat)

set_option maxRecDepth 100000 in
set_option maxHeartbeats 12800000 in
theorem walk_good (hsA : SubAt w aA kA fA) (hfA : ∀ c ∈ fA, c < w.heap.size) (hcA : kA.len ≤ cA) (hsB : SubAt w aB kB fB) (hfB : ∀ c ∈ fB, c < w.heap.size) (hcB : kB.len ≤ cB) (hle : tA.size + kA.size + (tB.size + kB.size) ≤ 1048576) :
    Calls Try.prog 16 #[.agg #[.int .i64 oA, .int .i64 nA, .string tA, .slice aA kA.len cA], .agg #[.int .i64 oB, .int .i64 nB, .string tB, .slice aB kB.len cB]] w fun e w' => e = .returned (.bool true) ∧ Below w.heap.size w w' := by
  have hm : (1048576 : Nat) ≤ maxLen := by unfold maxLen; omega
  have hlA := F.len_le_size kA
  have hlB := F.len_le_size kB
  have hftA : kA.Fits := fits_of_size hm kA (by omega)
  have hftB : kB.Fits := fits_of_size hm kB (by omega)
  obtain ⟨K, hK⟩ : ∃ K, F.cons oA nA tA kA (.cons oB nB tB kB .nil) = K := ⟨_, rfl⟩
  have hKs : K.size = 2 + (tA.size + kA.size + (tB.size + kB.size)) := by rw [← hK]; simp only [F.size]; omega
  obtain ⟨r, hr⟩ : ∃ r, catR K = r := ⟨_, rfl⟩
  obtain ⟨ok, o, n, t, k⟩ := r
  have hks : k.size ≤ 2097152 ∧ t.size = 0 := by
    unfold catR at hr
    split at hr
    · simp only [Prod.mk.injEq] at hr; rw [← hr.2.2.2.2, ← hr.2.2.2.1]; exact ⟨by omega, rfl⟩
    · simp only [Prod.mk.injEq, zeroD] at hr; rw [← hr.2.2.2.2, ← hr.2.2.2.1]; simp [F.size]; rfl
  have hkc := F.cnt_le_size k
  have hkl := F.len_le_size k
  have hcAc := F.cnt_le_size kA
  have hcBc := F.cnt_le_size kB
  have hftk : k.Fits := fits_of_size (m := 2097152) (by unfold maxLen; omega) k hks.1
  -- the variables of the arguments
  have hvA : ∀ ob, DocAt ((w.alloc (.cells #[.int .i64 oA, .int .i64 nA, .string tA, .slice aA kA.len cA] 44)).alloc ob) w.heap.size oA nA tA kA aA cA fA := fun ob => (DocAt.new hsA hfA hcA oA nA tA _).ext ((Ext.refl _).alloc _)
  have hvB : ∀ ob, DocAt ((w.alloc ob).alloc (.cells #[.int .i64 oB, .int .i64 nB, .string tB, .slice aB kB.len cB] 44)) (w.heap.size + 1) oB nB tB kB aB cB fB := fun ob => by
    have := DocAt.new (w := w.alloc ob) (((Ext.refl w).alloc ob).sub hsB hfB) (fun c hc => by have := hfB c hc; simp; omega) hcB oB nB tB 44
    simpa using this
  -- each call by its contract, at whatever world lies above
  have hszA := fun (w1 : World) (h1 : Ext w w1) => Sz.szDoc (Sz.szS_any kA) oA nA tA w1 aA cA fA 1048576 (h1.sub hsA hfA) (fun c hc => Nat.lt_of_lt_of_le (hfA c hc) h1.size) hcA (by omega) hftA (by omega) (by omega) (by omega)
  rw [Sz.szR_yes (by omega)] at hszA
  obtain ⟨z1, hz1⟩ : ∃ z : Int, (1048576 : Int) - ((tA.size + kA.size : Nat) : Int) = z := ⟨_, rfl⟩
  have hszB := fun (w1 : World) (h1 : Ext w w1) => Sz.szDoc (Sz.szS_any kB) oB nB tB w1 aB cB fB z1 (h1.sub hsB hfB) (fun c hc => Nat.lt_of_lt_of_le (hfB c hc) h1.size) hcB (by omega) hftB (by omega) (by omega) (by omega)
  rw [Sz.szR_yes (by omega)] at hszB
  obtain ⟨z2, hz2⟩ : ∃ z : Int, z1 - ((tB.size + kB.size : Nat) : Int) = z := ⟨_, rfl⟩
  have hz1' : ¬ (z1 < 0) := by omega
  have hz2' : ¬ (z2 < 0) := by omega
  rw [hz1] at hszA
  rw [hz2] at hszB
  have htoA := fun (w1 : World) (h1 : Ext w w1) => To.toDoc (To.toS_any kA) oA nA tA w1 aA cA fA (h1.sub hsA hfA) (fun c hc => Nat.lt_of_lt_of_le (hfA c hc) h1.size) hcA (by omega)
  have htoB := fun (w1 : World) (h1 : Ext w w1) => To.toDoc (To.toS_any kB) oB nB tB w1 aB cB fB (h1.sub hsB hfB) (fun c hc => Nat.lt_of_lt_of_le (hfB c hc) h1.size) hcB (by omega)
  have hspec := fun (w1 : World) (a1 : Option Addr) (f1 : List Nat) (a2 : Option Addr) (f2 : List Nat) (h1 : SubAt w1 a1 kA f1) (h2 : SubAt w1 a2 kB f2) (h3 : ∀ c ∈ f1, c < w1.heap.size) (h4 : ∀ c ∈ f2, c < w1.heap.size) => specCatDocs w1 oA nA tA kA a1 kA.len f1 oB nB tB kB a2 kB.len f2 h1 h2 h3 h4 (Nat.le_refl _) (Nat.le_refl _) (by rw [hK]; omega)
  have himpl := fun (w1 : World) (a1 : Option Addr) (f1 : List Nat) (a2 : Option Addr) (f2 : List Nat) (h1 : SubAt w1 a1 kA f1) (h2 : SubAt w1 a2 kB f2) (h3 : ∀ c ∈ f1, c < w1.heap.size) (h4 : ∀ c ∈ f2, c < w1.heap.size) => implCatDocs w1 oA nA tA kA a1 kA.len f1 oB nB tB kB a2 kB.len f2 h1 h2 h3 h4 (Nat.le_refl _) (Nat.le_refl _) (by rw [hK]; omega)
  rw [hK, hr] at hspec himpl
  have heq := @eqDoc_self
  obtain ⟨m1, hm1⟩ : ∃ m, 1 + 3 * kA.cnt = m := ⟨_, rfl⟩
  obtain ⟨m2, hm2⟩ : ∃ m, m1 + 3 * kB.cnt = m := ⟨_, rfl⟩
  obtain ⟨m3, hm3⟩ : ∃ m, 1 + 3 * k.cnt = m := ⟨_, rfl⟩
  have hmkA := MarkDocs.markDocI oA nA tA kA 1 m1 1 rfl hm1 (Nat.le_refl _) (by omega)
  have hmkB := MarkDocs.markDocI oB nB tB kB m1 m2 m1 rfl hm2 (by omega) (by omega)
  have hmkG := MarkDocs.markDocI o n t k 1 m3 1 rfl hm3 (Nat.le_refl _) (by omega)
  have hhdG := Held.heldDocI o n t k 1 m3 k.len 1 rfl hm3 rfl (Nat.le_refl _) (by omega)
  have HMA := Lib.hid hmkA
  have HMB := Lib.hid hmkB
  have HMG := Lib.hid hmkG
  have HHG := Lib.hid hhdG
  have hm2n : ¬ ((m2 : Int) < 0) := by omega
  have hm3n : ¬ ((m3 : Int) < 0) := by omega
  have hm3e : ((m3 : Int) != (m3 : Int)) = false := by simp
  have hsA1 : kA.size ≤ 2097152 := by omega
  have hsB1 : kB.size ≤ 2097152 := by omega
  clear hmkA hmkB hmkG hhdG hm1 hm2 hm3
  have HVA := Lib.hid hvA
  have HVB := Lib.hid hvB
  have HSZA := Lib.hid hszA
  have HSZB := Lib.hid hszB
  have HTOA := Lib.hid htoA
  have HTOB := Lib.hid htoB
  have HSP := Lib.hid hspec
  have HIM := Lib.hid himpl
  have HEQ := Lib.hid heq
  have hKs' : k.size ≤ 2097152 := hks.1
  have hvv : (ok != ok) = false := by simp
  clear hvA hvB hszA hszB htoA htoB hspec himpl heq hr hK hKs hks hftA hftB hftk hsA hfA hcA hsB hfB hcB hz1 hz2 hm hlA hlB
  have E0 : ∀ x y, Ext w ((w.alloc x).alloc y) := fun x y => ((Ext.refl w).alloc x).alloc y
  have HE0 := Lib.hid E0
  clear E0
  go_enter Try.func16, Try.ntmps16
  go_wp2_with fail
  refine (HSZA.out _ (HE0.out _ _)).mono ?_
  rintro e1 w1 ⟨rfl, hb1⟩
  have e1 : Ext w w1 := (HE0.out _ _).trans hb1
  have hA1 := (HVA.out _).ext hb1
  have hB1 := (HVB.out _).ext hb1
  have H1 := Lib.hid (And.intro e1 (And.intro hA1 hB1))
  obtain ⟨y0, y1, y2, y3⟩ := hB1.box
  clear hb1 e1 hA1 hB1
  go_wp2_with fail
  refine (HSZB.out _ H1.out.1).mono ?_
  rintro e2 w2 ⟨rfl, hb2⟩
  have H2 := Lib.hid (And.intro (H1.out.1.trans hb2) (And.intro (H1.out.2.1.ext hb2) (H1.out.2.2.ext hb2)))
  clear hb2 y0 y1 y2 y3 H1
  obtain ⟨x0, x1, x2, x3, y0, y1, y2, y3⟩ := two_boxes H2.out.2.1 H2.out.2.2
  go_wp2_with fail
  go_upto_region 8 with (fail)
  go_cut [6, 7] (fun s6 s7 wx => ∃ (b6 : Nat) (a5 : Option Addr) (c5 : Nat) (f5 : List Nat), s6 = .pointer (some ⟨b6, 0, none⟩) ∧ s7 = .bool ok ∧ NewAt w2 wx b6 o n t k a5 c5 f5)
  case first =>
    go_region_held3 (fun w' => w'.cell? ⟨w.heap.size, 0, none⟩ = some (.int .i64 oA) ∧ w'.cell? ⟨w.heap.size, 1, none⟩ = some (.int .i64 nA) ∧ w'.cell? ⟨w.heap.size, 2, none⟩ = some (.string tA) ∧ w'.cell? ⟨w.heap.size, 3, none⟩ = some (.slice aA kA.len cA) ∧
        w'.cell? ⟨w.heap.size + 1, 0, none⟩ = some (.int .i64 oB) ∧ w'.cell? ⟨w.heap.size + 1, 1, none⟩ = some (.int .i64 nB) ∧ w'.cell? ⟨w.heap.size + 1, 2, none⟩ = some (.string tB) ∧ w'.cell? ⟨w.heap.size + 1, 3, none⟩ = some (.slice aB kB.len cB))
      (first | go_keep | exact two_boxes (H2.out.2.1.ext r3) (H2.out.2.2.ext r3) | exact two_boxes (H2.out.2.1.ext r4) (H2.out.2.2.ext r4) | exact two_boxes (H2.out.2.1.ext r5) (H2.out.2.2.ext r5) | exact two_boxes (H2.out.2.1.ext ((Ext.refl w2).drew.alloc _)) (H2.out.2.2.ext ((Ext.refl w2).drew.alloc _)) | exact two_boxes (H2.out.2.1.ext (r3.alloc _)) (H2.out.2.2.ext (r3.alloc _)) | exact two_boxes (H2.out.2.1.ext (r4.alloc _)) (H2.out.2.2.ext (r4.alloc _)) | exact two_boxes (H2.out.2.1.ext (r5.alloc _)) (H2.out.2.2.ext (r5.alloc _)) | exact two_boxes (H2.out.2.1.ext ((((r5.setNew (by first | (simp; done) | (simp; omega)) _).setNew (by first | (simp; done) | (simp; omega)) _).setNew (by first | (simp; done) | (simp; omega)) _).setNew (by first | (simp; done) | (simp; omega)) _)) (H2.out.2.2.ext ((((r5.setNew (by first | (simp; done) | (simp; omega)) _).setNew (by first | (simp; done) | (simp; omega)) _).setNew (by first | (simp; done) | (simp; omega)) _).setNew (by first | (simp; done) | (simp; omega)) _)))
      (first
        | (go_at_call_of 42 (Value.agg #[.int .i64 oA, .int .i64 nA, .string tA, .slice aA kA.len cA]); refine (HTOA.out _ (by first | exact H2.out.1.drew | exact H2.out.1.drew.alloc _ | exact H2.out.1)).mono ?_; rintro e1 v3 ⟨i3, g3, rfl, hs3, hfr3, hb3⟩; have r3 : Ext w2 v3 := Ext.trans (by first | exact (Ext.refl w2).drew | exact (Ext.refl w2).drew.alloc _ | exact Ext.refl w2) hb3; have l3 := r3.size; first | (have Z3 : ZBox v3 w2.heap.size := (by first | exact ZBox.new hb3 | exact ZBox.new (W := w2.drew) hb3)) | skip)
        | (go_at_call_of 42 (Value.agg #[.int .i64 oB, .int .i64 nB, .string tB, .slice aB kB.len cB]); refine (HTOB.out _ (by first | exact H2.out.1.trans r3 | exact (H2.out.1.trans r3).alloc _)).mono ?_; rintro e1 v4 ⟨i4, g4, rfl, hs4, hfr4, hb4⟩; have r34 : Ext v3 v4 := Ext.trans (by first | exact Ext.refl v3 | exact (Ext.refl v3).alloc _) hb4; have r4 : Ext w2 v4 := r3.trans r34; have l4 := r34.size; first | (have Z4 : ZBox v4 w2.heap.size := (by exact ZBox.ext Z3 r34)) | (have Z4 : ZBox v4 v3.heap.size := (by exact ZBox.new hb4)) | skip)
        | (go_at_call 21; refine (HSP.out _ i3 g3 i4 g4 (by first | exact r34.sub hs3 hfr3.lt | exact (r34.alloc _).sub hs3 hfr3.lt) (by first | exact hs4 | exact ((Ext.refl v4).alloc _).sub hs4 hfr4.lt) (by first | exact (r34.fresh hfr3).lt | exact ((r34.alloc _).fresh hfr3).lt) (by first | exact hfr4.lt | exact (((Ext.refl v4).alloc _).fresh hfr4).lt)).mono ?_; rintro e1 v5 ⟨i5, j5, g5, rfl, hc5, hs5, hfr5, hb5⟩; have r45 : Ext v4 v5 := Ext.trans (by first | exact Ext.refl v4 | exact (Ext.refl v4).alloc _) hb5; have r5 : Ext w2 v5 := r4.trans r45; have l5 := r45.size; first | (have Z5 : ZBox v5 w2.heap.size := (by exact ZBox.ext Z4 r45); obtain ⟨⟨z0, z1, z2, z3⟩, ⟨z4, z5, z6, z7⟩, z8⟩ := Z5) | (have Z5 : ZBox v5 v3.heap.size := (by exact ZBox.ext Z4 r45); obtain ⟨⟨z0, z1, z2, z3⟩, ⟨z4, z5, z6, z7⟩, z8⟩ := Z5) | (have Z5 : ZBox v5 v4.heap.size := (by exact ZBox.new hb5); obtain ⟨⟨z0, z1, z2, z3⟩, ⟨z4, z5, z6, z7⟩, z8⟩ := Z5) | skip))
    all_goals
      go_wp2_with fail
      go_meet
    all_goals
      case rel =>
        have hB : w2.heap.size ≤ v4.heap.size := r4.size
        first
        | exact ⟨_, i5, j5, g5, rfl, rfl, NewAt.last hs5 hfr5 hB hc5 r5 o n t _⟩
        | exact ⟨_, i5, j5, g5, rfl, rfl, NewAt.stored hs5 hfr5 hB hc5 r5 Z4.2.2 (by omega) ⟨⟨z0, z1, z2, z3⟩, ⟨z4, z5, z6, z7⟩, z8⟩ o n t⟩
        | exact ⟨_, i5, j5, g5, rfl, rfl, NewAt.stored hs5 hfr5 (Nat.le_trans hB (by simp)) hc5 r5 (by simp) hB ⟨⟨z0, z1, z2, z3⟩, ⟨z4, z5, z6, z7⟩, z8⟩ o n t⟩
  case rest =>
    obtain ⟨b6, a5, c5, f5, rfl, rfl, hN6⟩ := hcut
    have H6 := Lib.hid (And.intro hN6 (And.intro (H2.out.1.trans hN6.2.1) (And.intro (H2.out.2.1.ext hN6.2.1) (H2.out.2.2.ext hN6.2.1))))
    clear hN6
    obtain ⟨x0, x1, x2, x3⟩ := H6.out.2.2.1.box
    clear y0 y1 y2 y3
    go_wp2_with fail
    refine (HTOA.out _ H6.out.2.1).mono ?_
    rintro e6 w6 ⟨a6, f6, rfl, hs6, hfr6, hb6⟩
    have e6 : Ext wc w6 := hb6
    have hB6 := H6.out.2.2.2.ext e6
    have H7 := Lib.hid (And.intro (H6.out.2.1.trans e6) (And.intro (H6.out.2.2.1.ext e6) (And.intro hB6 (And.intro (H6.out.1.1.ext e6) (And.intro hs6 (And.intro hfr6 e6))))))
    obtain ⟨y0, y1, y2, y3⟩ := hB6.box
    have l6 := hB6.blt
    clear e6 hB6 hs6 hfr6 hb6
    go_wp2_with fail
    refine (HTOB.out _ (H7.out.1.alloc _)).mono ?_
    rintro e7 w7 ⟨a7, f7, rfl, hs7, hfr7, hb7⟩
    have e7 : Ext w6 w7 := ((Ext.refl w6).alloc _).trans hb7
    have hX7 := (DocAt.new H7.out.2.2.2.2.1 H7.out.2.2.2.2.2.1.lt (Nat.le_refl _) oA nA tA _).ext hb7
    have hI7 : In (w6.heap.size + 1) w7.heap.size f7 := fun c hc => ⟨by have := (hfr7.2 c hc).1; simp at this; omega, hfr7.lt c hc⟩
    have H8 := Lib.hid (And.intro (H7.out.1.trans e7) (And.intro (H7.out.2.1.ext e7) (And.intro (H7.out.2.2.1.ext e7) (And.intro (H7.out.2.2.2.1.ext e7) (And.intro hX7 (And.intro hs7 (And.intro hfr7 (And.intro hI7 e7))))))))
    obtain ⟨x0, x1, x2, x3⟩ := hX7.box
    have l7 := hX7.blt
    clear y0 y1 y2 y3 hX7 hs7 hfr7 hb7 e7 l6 hI7
    go_wp2_with fail
    refine (HIM.out _ a6 f6 a7 f7 (by exact (Ext.alloc (Ext.refl w7) _).sub H8.out.2.2.2.2.1.sub H8.out.2.2.2.2.1.lt) (by exact (Ext.alloc (Ext.refl w7) _).sub H8.out.2.2.2.2.2.1 H8.out.2.2.2.2.2.2.1.lt) (fun c hc => by have := H8.out.2.2.2.2.1.lt c hc; simp; omega) (fun c hc => by have := H8.out.2.2.2.2.2.2.1.lt c hc; simp; omega)).mono ?_
    rintro e8 w8 ⟨a8, c8, f8, rfl, hc8, hs8, hfr8, hb8⟩
    have e8 : Ext w7 w8 := ((Ext.refl w7).alloc _).trans hb8
    have hX8 := (DocAt.new H8.out.2.2.2.2.2.1 H8.out.2.2.2.2.2.2.1.lt (Nat.le_refl _) oB nB tB _).ext hb8
    have hI8 : In (w7.heap.size + 1) w8.heap.size f8 := fun c hc => ⟨by have := (hfr8.2 c hc).1; simp at this; omega, hfr8.lt c hc⟩
    have hW8 := H8.out.2.2.2.1.ext e8
    have H9 := Lib.hid (And.intro (H8.out.1.trans e8) (And.intro (H8.out.2.1.ext e8) (And.intro (H8.out.2.2.1.ext e8) (And.intro hW8 (And.intro (H8.out.2.2.2.2.1.ext e8) (And.intro hX8 (And.intro hs8 (And.intro hfr8 (And.intro hI8 (And.intro e8 hc8))))))))))
    obtain ⟨y0, y1, y2, y3⟩ := hW8.box
    have l8 := hW8.blt
    clear x0 x1 x2 x3 hX8 hs8 hfr8 hb8 e8 l7 hI8 hW8 hc8
    go_wp2_with fail
    refine (HEQ.out o n t k hKs' _ a8 a5 c8 c5 f8 f5 (by exact (Ext.alloc (Ext.refl w8) _).sub H9.out.2.2.2.2.2.2.1 H9.out.2.2.2.2.2.2.2.1.lt) (by exact (Ext.alloc (Ext.refl w8) _).sub H9.out.2.2.2.1.sub H9.out.2.2.2.1.lt) (fun c hc => by have := H9.out.2.2.2.2.2.2.2.1.lt c hc; simp; omega) (fun c hc => by have := H9.out.2.2.2.1.lt c hc; simp; omega) H9.out.2.2.2.2.2.2.2.2.2.2 H9.out.2.2.2.1.cap_le).mono ?_
    rintro e9 w9 ⟨rfl, hb9⟩
    have e9 : Ext w8 w9 := ((Ext.refl w8).alloc _).trans hb9
    have hG9 := (DocAt.new H9.out.2.2.2.2.2.2.1 H9.out.2.2.2.2.2.2.2.1.lt H9.out.2.2.2.2.2.2.2.2.2.2 o n t _).ext hb9
    -- all variables, in the world as it stands
    have P9 := Lib.hid (And.intro (H9.out.2.1.ext e9) (And.intro (H9.out.2.2.1.ext e9) (And.intro (H9.out.2.2.2.1.ext e9) (And.intro (H9.out.2.2.2.2.1.ext e9) (And.intro (H9.out.2.2.2.2.2.1.ext e9) hG9)))))
    have E9 := Lib.hid (H9.out.1.trans e9)
    -- where each one's memory lies
    have hR : w.heap.size + 2 ≤ w2.heap.size ∧ w2.heap.size ≤ wc.heap.size ∧ wc.heap.size ≤ w6.heap.size ∧ w6.heap.size < w7.heap.size ∧ w7.heap.size < w8.heap.size := ⟨by have := H2.out.2.2.blt; omega, H6.out.1.2.1.size, H7.out.2.2.2.2.2.2.size, H8.out.2.2.2.2.1.blt, H9.out.2.2.2.2.2.1.blt⟩
    have HR := Lib.hid hR
    have hIs : In w2.heap.size wc.heap.size f5 ∧ In wc.heap.size w6.heap.size f6 ∧ In (w6.heap.size + 1) w7.heap.size f7 ∧ In (w7.heap.size + 1) w8.heap.size f8 ∧ w2.heap.size ≤ b6 ∧ b6 < wc.heap.size := ⟨H6.out.1.2.2.2.1, In.of H7.out.2.2.2.2.2.1, H8.out.2.2.2.2.2.2.2.1, H9.out.2.2.2.2.2.2.2.2.1, H6.out.1.2.2.1, H6.out.1.1.blt⟩
    have HIS := Lib.hid hIs
    have hFS := And.intro H7.out.2.2.2.2.2.1 (And.intro H8.out.2.2.2.2.2.2.1 H9.out.2.2.2.2.2.2.2.1)
    have HFS := Lib.hid (And.intro (Ext.fresh (H8.out.2.2.2.2.2.2.2.2.trans (H9.out.2.2.2.2.2.2.2.2.2.1.trans e9)) hFS.1) (And.intro (Ext.fresh (H9.out.2.2.2.2.2.2.2.2.2.1.trans e9) hFS.2.1) (Ext.fresh e9 hFS.2.2)))
    clear y0 y1 y2 y3 hG9 e9 hb9 l8 hR hIs hFS H6 H7 H8 H9
    obtain ⟨x0, x1, x2, x3, y0, y1, y2, y3⟩ := two_boxes P9.out.2.2.2.1 P9.out.1
    go_wp2_with fail
    go_region_held3 (fun w' => w'.cell? ⟨w6.heap.size, 0, none⟩ = some (.int .i64 oA) ∧ w'.cell? ⟨w6.heap.size, 1, none⟩ = some (.int .i64 nA) ∧ w'.cell? ⟨w6.heap.size, 2, none⟩ = some (.string tA) ∧ w'.cell? ⟨w6.heap.size, 3, none⟩ = some (.slice a6 kA.len kA.len) ∧ w'.cell? ⟨w.heap.size, 0, none⟩ = some (.int .i64 oA) ∧ w'.cell? ⟨w.heap.size, 1, none⟩ = some (.int .i64 nA) ∧ w'.cell? ⟨w.heap.size, 2, none⟩ = some (.string tA) ∧ w'.cell? ⟨w.heap.size, 3, none⟩ = some (.slice aA kA.len cA))
      (first | go_keep | exact two_boxes (P9.out.2.2.2.1.ext q10) (P9.out.1.ext q10) | exact two_boxes (P9.out.2.2.2.1.ext q11) (P9.out.1.ext q11))
      (first
        | (go_at_call 42; refine (HTOA.out _ (by exact E9.out.drew)).mono ?_; rintro e1 w10 ⟨a10, f10, rfl, hs10, hfr10, hb10⟩; have q10 : Ext w9 w10 := (Ext.refl w9).drew.trans hb10)
        | (go_at_call 43; refine (HEQ.out oA nA tA kA hsA1 _ a6 a10 _ _ f6 f10 (by exact (P9.out.2.2.2.1.ext q10).sub) (by exact hs10) (by exact (P9.out.2.2.2.1.ext q10).lt) (by exact hfr10.lt) (Nat.le_refl _) (Nat.le_refl _)).mono ?_; rintro e1 w11 ⟨rfl, hb11⟩; have q11 : Ext w9 w11 := q10.trans hb11))
    have P11 := Lib.hid (And.intro (P9.out.1.ext q11) (And.intro (P9.out.2.1.ext q11) (And.intro (P9.out.2.2.1.ext q11) (And.intro (P9.out.2.2.2.1.ext q11) (And.intro (P9.out.2.2.2.2.1.ext q11) (P9.out.2.2.2.2.2.ext q11))))))
    have E11 := Lib.hid (E9.out.trans q11)
    have HF11 := Lib.hid (And.intro (q11.fresh HFS.out.1) (And.intro (q11.fresh HFS.out.2.1) (q11.fresh HFS.out.2.2)))
    clear x0 x1 x2 x3 y0 y1 y2 y3 hs10 hfr10 hb10 hb11 q10 q11 P9 E9 HFS
    obtain ⟨x0, x1, x2, x3, y0, y1, y2, y3⟩ := two_boxes P11.out.2.2.2.2.1 P11.out.2.1
    go_wp2_with fail
    go_region_held3 (fun w' => w'.cell? ⟨w7.heap.size, 0, none⟩ = some (.int .i64 oB) ∧ w'.cell? ⟨w7.heap.size, 1, none⟩ = some (.int .i64 nB) ∧ w'.cell? ⟨w7.heap.size, 2, none⟩ = some (.string tB) ∧ w'.cell? ⟨w7.heap.size, 3, none⟩ = some (.slice a7 kB.len kB.len) ∧ w'.cell? ⟨w.heap.size + 1, 0, none⟩ = some (.int .i64 oB) ∧ w'.cell? ⟨w.heap.size + 1, 1, none⟩ = some (.int .i64 nB) ∧ w'.cell? ⟨w.heap.size + 1, 2, none⟩ = some (.string tB) ∧ w'.cell? ⟨w.heap.size + 1, 3, none⟩ = some (.slice aB kB.len cB))
      (first | go_keep | exact two_boxes (P11.out.2.2.2.2.1.ext q12) (P11.out.2.1.ext q12) | exact two_boxes (P11.out.2.2.2.2.1.ext q13) (P11.out.2.1.ext q13))
      (first
        | (go_at_call 42; refine (HTOB.out _ (by exact E11.out.drew)).mono ?_; rintro e1 w12 ⟨a12, f12, rfl, hs12, hfr12, hb12⟩; have q12 : Ext w11 w12 := (Ext.refl w11).drew.trans hb12)
        | (go_at_call 43; refine (HEQ.out oB nB tB kB hsB1 _ a7 a12 _ _ f7 f12 (by exact (P11.out.2.2.2.2.1.ext q12).sub) (by exact hs12) (by exact (P11.out.2.2.2.2.1.ext q12).lt) (by exact hfr12.lt) (Nat.le_refl _) (Nat.le_refl _)).mono ?_; rintro e1 w13 ⟨rfl, hb13⟩; have q13 : Ext w11 w13 := q12.trans hb13))
    have P13 := Lib.hid (And.intro (P11.out.1.ext q13) (And.intro (P11.out.2.1.ext q13) (And.intro (P11.out.2.2.1.ext q13) (And.intro (P11.out.2.2.2.1.ext q13) (And.intro (P11.out.2.2.2.2.1.ext q13) (P11.out.2.2.2.2.2.ext q13))))))
    have E13 := Lib.hid (E11.out.trans q13)
    have HF13 := Lib.hid (And.intro (q13.fresh HF11.out.1) (And.intro (q13.fresh HF11.out.2.1) (q13.fresh HF11.out.2.2)))
    clear x0 x1 x2 x3 y0 y1 y2 y3 hs12 hfr12 hb12 hb13 q12 q13 P11 E11 HF11
    obtain ⟨x0, x1, x2, x3⟩ := P13.out.2.2.2.1.box
    go_wp2_with fail
    refine (HMA.out w13 a6 kA.len f6 _ P13.out.2.2.2.1.sub HF13.out.1 (Nat.le_refl _)).mono ?_
    rintro e14 w14 ⟨rfl, hs14, hO14⟩
    have hap : ∀ fs, In wc.heap.size w8.heap.size fs → (w.heap.size ∉ fs ∧ w.heap.size + 1 ∉ fs ∧ b6 ∉ fs) ∧ (∀ c ∈ fA, c ∉ fs) ∧ (∀ c ∈ fB, c ∉ fs) ∧ (∀ c ∈ f5, c ∉ fs) := by
      intro fs hI
      obtain ⟨r1, r2, r3, r4, r5⟩ := HR.out
      obtain ⟨i5, i6, i7, i8, i9, i10⟩ := HIS.out
      exact ⟨⟨hI.out (Or.inl (by omega)), hI.out (Or.inl (by omega)), hI.out (Or.inl (by omega))⟩, fun c hc hm => by have h1 := H2.out.2.1.lt c hc; have h2 := hI c hm; omega, fun c hc hm => by have h1 := H2.out.2.2.lt c hc; have h2 := hI c hm; omega, i5.apart hI (Or.inl (by omega))⟩
    have hI6 : In wc.heap.size w8.heap.size f6 := fun c hc => by have := HIS.out.2.1 c hc; have := HR.out; omega
    have hI7 : In wc.heap.size w8.heap.size f7 := fun c hc => by have := HIS.out.2.2.1 c hc; have := HR.out; omega
    have hI8 : In wc.heap.size w8.heap.size f8 := fun c hc => by have := HIS.out.2.2.2.1 c hc; have := HR.out; omega
    have HAP := Lib.hid hap
    have HI := Lib.hid (And.intro hI6 (And.intro hI7 hI8))
    have P14 := Lib.hid (And.intro (P13.out.1.only hO14 (hap f6 hI6).1.1 (hap f6 hI6).2.1) (And.intro (P13.out.2.1.only hO14 (hap f6 hI6).1.2.1 (hap f6 hI6).2.2.1) (And.intro (P13.out.2.2.1.only hO14 (hap f6 hI6).1.2.2 (hap f6 hI6).2.2.2)
      (And.intro (P13.out.2.2.2.2.1.only hO14 (HIS.out.2.1.out (Or.inr (by have := HR.out; omega))) (HIS.out.2.2.1.apart HIS.out.2.1 (Or.inr (by omega)))) (P13.out.2.2.2.2.2.only hO14 (HIS.out.2.1.out (Or.inr (by have := HR.out; omega))) (HIS.out.2.2.2.1.apart HIS.out.2.1 (Or.inr (by have := HR.out; omega))))))))
    have E14 := Lib.hid (E13.out.only hO14 (fun c hc => by have := hI6 c hc; have := HR.out; omega))
    have HF14 := Lib.hid (And.intro (hO14.fresh HF13.out.2.1) (hO14.fresh HF13.out.2.2))
    clear x0 x1 x2 x3 hs14 hO14 hap hI6 hI7 hI8 P13 E13 HF13
    obtain ⟨y0, y1, y2, y3⟩ := P14.out.2.2.2.1.box
    go_wp2_with fail
    refine (HMB.out w14 a7 kB.len f7 _ P14.out.2.2.2.1.sub HF14.out.1 (Nat.le_refl _)).mono ?_
    rintro e15 w15 ⟨rfl, hs15, hO15⟩
    have P15 := Lib.hid (And.intro (P14.out.1.only hO15 (HAP.out f7 HI.out.2.1).1.1 (HAP.out f7 HI.out.2.1).2.1) (And.intro (P14.out.2.1.only hO15 (HAP.out f7 HI.out.2.1).1.2.1 (HAP.out f7 HI.out.2.1).2.2.1) (And.intro (P14.out.2.2.1.only hO15 (HAP.out f7 HI.out.2.1).1.2.2 (HAP.out f7 HI.out.2.1).2.2.2)
      (P14.out.2.2.2.2.only hO15 (HIS.out.2.2.1.out (Or.inr (by have := HR.out; omega))) (HIS.out.2.2.2.1.apart HIS.out.2.2.1 (Or.inr (by omega)))))))
    have E15 := Lib.hid (E14.out.only hO15 (fun c hc => by have := HI.out.2.1 c hc; have := HR.out; omega))
    have HF15 := Lib.hid (hO15.fresh HF14.out.2)
    clear y0 y1 y2 y3 hs15 hO15 P14 E14 HF14
    obtain ⟨x0, x1, x2, x3, y0, y1, y2, y3⟩ := two_boxes P15.out.2.2.2 P15.out.2.2.1
    go_wp2_with fail
    refine (HEQ.out o n t k hKs' w15 a8 a5 c8 c5 f8 f5 P15.out.2.2.2.sub P15.out.2.2.1.sub P15.out.2.2.2.lt P15.out.2.2.1.lt P15.out.2.2.2.cap_le P15.out.2.2.1.cap_le).mono ?_
    rintro e16 w16 ⟨rfl, hb16⟩
    have e16 : Ext w15 w16 := hb16
    have P16 := Lib.hid (And.intro (P15.out.1.ext e16) (And.intro (P15.out.2.1.ext e16) (And.intro (P15.out.2.2.1.ext e16) (P15.out.2.2.2.ext e16))))
    have E16 := Lib.hid (E15.out.trans e16)
    have HF16 := Lib.hid (e16.fresh HF15.out)
    clear x0 x1 x2 x3 y0 y1 y2 y3 hb16 e16 P15 E15 HF15
    obtain ⟨x0, x1, x2, x3⟩ := P16.out.2.2.2.box
    go_wp2_with fail
    refine (HMG.out w16 a8 c8 f8 _ P16.out.2.2.2.sub HF16.out P16.out.2.2.2.cap_le).mono ?_
    rintro e17 w17 ⟨rfl, hs17, hO17⟩
    have hG17 := P16.out.2.2.2.marked hO17 (HIS.out.2.2.2.1.out (Or.inr (Nat.le_refl _))) hs17
    have hx17 : Box w17 w8.heap.size o n t a8 k.len c8 := by have := hG17.box; rw [F.len_mk] at this; exact this
    have P17 := Lib.hid (And.intro (P16.out.1.only hO17 (HAP.out f8 HI.out.2.2).1.1 (HAP.out f8 HI.out.2.2).2.1) (And.intro (P16.out.2.1.only hO17 (HAP.out f8 HI.out.2.2).1.2.1 (HAP.out f8 HI.out.2.2).2.2.1) (And.intro (P16.out.2.2.1.only hO17 (HAP.out f8 HI.out.2.2).1.2.2 (HAP.out f8 HI.out.2.2).2.2.2) (And.intro hG17 P16.out.2.2.2.cap_le))))
    have E17 := Lib.hid (E16.out.only hO17 (fun c hc => by have := HI.out.2.2 c hc; have := HR.out; omega))
    clear x0 x1 x2 x3 hs17 hO17 hG17 P16 E16 HF16 HR HIS HAP HI H2
    obtain ⟨x0, x1, x2, x3⟩ := hx17
    go_wp2_with fail
    refine (HHG.out w17 a8 c8 f8 P17.out.2.2.2.1.sub P17.out.2.2.2.1.lt P17.out.2.2.2.2).mono ?_
    rintro e18 w18 ⟨rfl, hb18⟩
    have e18 : Ext w17 w18 := hb18
    have P18 := Lib.hid (And.intro (P17.out.1.ext e18) (And.intro (P17.out.2.1.ext e18) (And.intro (P17.out.2.2.1.ext e18) (And.intro (P17.out.2.2.2.1.ext e18) P17.out.2.2.2.2))))
    have E18 := Lib.hid (E17.out.trans e18)
    clear x0 x1 x2 x3 hb18 e18 P17 E17
    obtain ⟨x0, x1, x2, x3, y0, y1, y2, y3⟩ := two_boxes P18.out.1 P18.out.2.1
    go_upto_region 31 with (fail)
    go_cut [15, 16] (fun s15 s16 wx => ∃ (b7 : Nat) (a9 : Option Addr) (c9 : Nat) (f9 : List Nat), s15 = .pointer (some ⟨b7, 0, none⟩) ∧ s16 = .bool ok ∧ NewAt w18 wx b7 o n t k a9 c9 f9)
    case first =>
      go_region_held3 (fun w' => w'.cell? ⟨w.heap.size, 0, none⟩ = some (.int .i64 oA) ∧ w'.cell? ⟨w.heap.size, 1, none⟩ = some (.int .i64 nA) ∧ w'.cell? ⟨w.heap.size, 2, none⟩ = some (.string tA) ∧ w'.cell? ⟨w.heap.size, 3, none⟩ = some (.slice aA kA.len cA) ∧
          w'.cell? ⟨w.heap.size + 1, 0, none⟩ = some (.int .i64 oB) ∧ w'.cell? ⟨w.heap.size + 1, 1, none⟩ = some (.int .i64 nB) ∧ w'.cell? ⟨w.heap.size + 1, 2, none⟩ = some (.string tB) ∧ w'.cell? ⟨w.heap.size + 1, 3, none⟩ = some (.slice aB kB.len cB))
        (first | go_keep | exact two_boxes (P18.out.1.ext r3) (P18.out.2.1.ext r3) | exact two_boxes (P18.out.1.ext r4) (P18.out.2.1.ext r4) | exact two_boxes (P18.out.1.ext r5) (P18.out.2.1.ext r5) | exact two_boxes (P18.out.1.ext ((Ext.refl w18).drew.alloc _)) (P18.out.2.1.ext ((Ext.refl w18).drew.alloc _)) | exact two_boxes (P18.out.1.ext (r3.alloc _)) (P18.out.2.1.ext (r3.alloc _)) | exact two_boxes (P18.out.1.ext (r4.alloc _)) (P18.out.2.1.ext (r4.alloc _)) | exact two_boxes (P18.out.1.ext (r5.alloc _)) (P18.out.2.1.ext (r5.alloc _)) | exact two_boxes (P18.out.1.ext ((((r5.setNew (by first | (simp; done) | (simp; omega)) _).setNew (by first | (simp; done) | (simp; omega)) _).setNew (by first | (simp; done) | (simp; omega)) _).setNew (by first | (simp; done) | (simp; omega)) _)) (P18.out.2.1.ext ((((r5.setNew (by first | (simp; done) | (simp; omega)) _).setNew (by first | (simp; done) | (simp; omega)) _).setNew (by first | (simp; done) | (simp; omega)) _).setNew (by first | (simp; done) | (simp; omega)) _)))
        (first
          | (go_at_call_of 42 (Value.agg #[.int .i64 oA, .int .i64 nA, .string tA, .slice aA kA.len cA]); refine (HTOA.out _ (by first | exact E18.out.drew | exact E18.out.drew.alloc _ | exact E18.out)).mono ?_; rintro e1 v3 ⟨i3, g3, rfl, hs3, hfr3, hb3⟩; have r3 : Ext w18 v3 := Ext.trans (by first | exact (Ext.refl w18).drew | exact (Ext.refl w18).drew.alloc _ | exact Ext.refl w18) hb3; have l3 := r3.size; first | (have Z3 : ZBox v3 w18.heap.size := (by first | exact ZBox.new hb3 | exact ZBox.new (W := w18.drew) hb3)) | skip)
          | (go_at_call_of 42 (Value.agg #[.int .i64 oB, .int .i64 nB, .string tB, .slice aB kB.len cB]); refine (HTOB.out _ (by first | exact E18.out.trans r3 | exact (E18.out.trans r3).alloc _)).mono ?_; rintro e1 v4 ⟨i4, g4, rfl, hs4, hfr4, hb4⟩; have r34 : Ext v3 v4 := Ext.trans (by first | exact Ext.refl v3 | exact (Ext.refl v3).alloc _) hb4; have r4 : Ext w18 v4 := r3.trans r34; have l4 := r34.size; first | (have Z4 : ZBox v4 w18.heap.size := (by exact ZBox.ext Z3 r34)) | (have Z4 : ZBox v4 v3.heap.size := (by exact ZBox.new hb4)) | skip)
          | (go_at_call 20; refine (HIM.out _ i3 g3 i4 g4 (by first | exact r34.sub hs3 hfr3.lt | exact (r34.alloc _).sub hs3 hfr3.lt) (by first | exact hs4 | exact ((Ext.refl v4).alloc _).sub hs4 hfr4.lt) (by first | exact (r34.fresh hfr3).lt | exact ((r34.alloc _).fresh hfr3).lt) (by first | exact hfr4.lt | exact (((Ext.refl v4).alloc _).fresh hfr4).lt)).mono ?_; rintro e1 v5 ⟨i5, j5, g5, rfl, hc5, hs5, hfr5, hb5⟩; have r45 : Ext v4 v5 := Ext.trans (by first | exact Ext.refl v4 | exact (Ext.refl v4).alloc _) hb5; have r5 : Ext w18 v5 := r4.trans r45; have l5 := r45.size; first | (have Z5 : ZBox v5 w18.heap.size := (by exact ZBox.ext Z4 r45); obtain ⟨⟨z0, z1, z2, z3⟩, ⟨z4, z5, z6, z7⟩, z8⟩ := Z5) | (have Z5 : ZBox v5 v3.heap.size := (by exact ZBox.ext Z4 r45); obtain ⟨⟨z0, z1, z2, z3⟩, ⟨z4, z5, z6, z7⟩, z8⟩ := Z5) | (have Z5 : ZBox v5 v4.heap.size := (by exact ZBox.new hb5); obtain ⟨⟨z0, z1, z2, z3⟩, ⟨z4, z5, z6, z7⟩, z8⟩ := Z5) | skip))
      all_goals
        go_wp2_with fail
        go_meet
      all_goals
        case rel =>
          have hB : w18.heap.size ≤ v4.heap.size := r4.size
          first
          | exact ⟨_, i5, j5, g5, rfl, rfl, NewAt.last hs5 hfr5 hB hc5 r5 o n t _⟩
          | exact ⟨_, i5, j5, g5, rfl, rfl, NewAt.stored hs5 hfr5 hB hc5 r5 Z4.2.2 (by omega) ⟨⟨z0, z1, z2, z3⟩, ⟨z4, z5, z6, z7⟩, z8⟩ o n t⟩
          | exact ⟨_, i5, j5, g5, rfl, rfl, NewAt.stored hs5 hfr5 (Nat.le_trans hB (by simp)) hc5 r5 (by simp) hB ⟨⟨z0, z1, z2, z3⟩, ⟨z4, z5, z6, z7⟩, z8⟩ o n t⟩

    case rest =>
      clear x0 x1 x2 x3 y0 y1 y2 y3
      obtain ⟨b7, a9, c9, f9, rfl, rfl, hN⟩ := hcut
      have P19 := Lib.hid (And.intro hN.1 (And.intro (P18.out.2.2.1.ext hN.2.1) (And.intro (P18.out.2.2.2.1.ext hN.2.1) P18.out.2.2.2.2)))
      have E19 := Lib.hid (E18.out.trans hN.2.1)
      clear hN P18 E18
      obtain ⟨x0, x1, x2, x3, y0, y1, y2, y3⟩ := two_boxes P19.out.1 P19.out.2.1
      go_wp2_with fail
      refine (HEQ.out o n t k hKs' wc a9 a5 c9 c5 f9 f5 P19.out.1.sub P19.out.2.1.sub P19.out.1.lt P19.out.2.1.lt P19.out.1.cap_le P19.out.2.1.cap_le).mono ?_
      rintro e20 w20 ⟨rfl, hb20⟩
      have e20 : Ext wc w20 := hb20
      have hG20 := P19.out.2.2.1.ext e20
      have hx20 : Box w20 w8.heap.size o n t a8 k.len c8 := by have := hG20.box; rw [F.len_mk] at this; exact this
      have P20 := Lib.hid (And.intro hG20 P19.out.2.2.2)
      have E20 := Lib.hid (E19.out.trans e20)
      clear x0 x1 x2 x3 y0 y1 y2 y3 e20 hb20 hG20 P19 E19
      obtain ⟨x0, x1, x2, x3⟩ := hx20
      go_wp2_with fail
      refine (HHG.out w20 a8 c8 f8 P20.out.1.sub P20.out.1.lt P20.out.2).mono ?_
      rintro e21 w21 ⟨rfl, hb21⟩
      have E21 := Lib.hid (Ext.trans E20.out hb21)
      clear x0 x1 x2 x3 hb21 P20 E20
      go_wp2_with fail
      go_ret
      exact ⟨rfl, E21.out⟩

set_option maxRecDepth 100000 in
set_option maxHeartbeats 3200000 in
theorem walk_big1 (hsA : SubAt w aA kA fA) (hfA : ∀ c ∈ fA, c < w.heap.size) (hcA : kA.len ≤ cA) (hlA : kA.len ≤ maxLen) (hftA : kA.Fits) (htA : tA.size ≤ maxLen) (hbig : (1048576 : Int) < ((tA.size + kA.size : Nat) : Int)) (lB : Nat) :
    Calls Try.prog 16 #[.agg #[.int .i64 oA, .int .i64 nA, .string tA, .slice aA kA.len cA], .agg #[.int .i64 oB, .int .i64 nB, .string tB, .slice aB lB cB]] w fun e w' => e = .returned (.bool true) ∧ Below w.heap.size w w' := by
  have hsz := fun (w1 : World) (h1 : Ext w w1) => Sz.szDoc (Sz.szS_any kA) oA nA tA w1 aA cA fA 1048576 (h1.sub hsA hfA) (fun c hc => Nat.lt_of_lt_of_le (hfA c hc) h1.size) hcA hlA hftA htA (by omega) (by omega)
  rw [Sz.szR_no hbig] at hsz
  have HS := Lib.hid hsz
  have HE0 := Lib.hid (show ∀ x y, Ext w ((w.alloc x).alloc y) from fun x y => ((Ext.refl w).alloc x).alloc y)
  clear hsz hsA hfA hcA hlA hftA htA hbig
  go_enter Try.func16, Try.ntmps16
  go_wp2_with fail
  refine (HS.out _ (HE0.out _ _)).mono ?_
  rintro e1 w1 ⟨rfl, hb1⟩
  have HB := Lib.hid hb1
  clear hb1
  go_wp2_with fail
  go_ret
  exact ⟨rfl, (HE0.out _ _).trans HB.out⟩

set_option maxRecDepth 100000 in
set_option maxHeartbeats 3200000 in
theorem walk_big2 (hsA : SubAt w aA kA fA) (hfA : ∀ c ∈ fA, c < w.heap.size) (hcA : kA.len ≤ cA) (hlA : kA.len ≤ maxLen) (hftA : kA.Fits) (htA : tA.size ≤ maxLen) (hsB : SubAt w aB kB fB) (hfB : ∀ c ∈ fB, c < w.heap.size) (hcB : kB.len ≤ cB) (hlB : kB.len ≤ maxLen) (hftB : kB.Fits) (htB : tB.size ≤ maxLen)
    (hsmall : ((tA.size + kA.size : Nat) : Int) ≤ 1048576) (hbig : (1048576 : Int) - ((tA.size + kA.size : Nat) : Int) < ((tB.size + kB.size : Nat) : Int)) :
    Calls Try.prog 16 #[.agg #[.int .i64 oA, .int .i64 nA, .string tA, .slice aA kA.len cA], .agg #[.int .i64 oB, .int .i64 nB, .string tB, .slice aB kB.len cB]] w fun e w' => e = .returned (.bool true) ∧ Below w.heap.size w w' := by
  have hszA := fun (w1 : World) (h1 : Ext w w1) => Sz.szDoc (Sz.szS_any kA) oA nA tA w1 aA cA fA 1048576 (h1.sub hsA hfA) (fun c hc => Nat.lt_of_lt_of_le (hfA c hc) h1.size) hcA hlA hftA htA (by omega) (by omega)
  rw [Sz.szR_yes hsmall] at hszA
  obtain ⟨z1, hz1⟩ : ∃ z : Int, (1048576 : Int) - ((tA.size + kA.size : Nat) : Int) = z := ⟨_, rfl⟩
  rw [hz1] at hszA hbig
  have hszB := fun (w1 : World) (h1 : Ext w w1) => Sz.szDoc (Sz.szS_any kB) oB nB tB w1 aB cB fB z1 (h1.sub hsB hfB) (fun c hc => Nat.lt_of_lt_of_le (hfB c hc) h1.size) hcB hlB hftB htB (by omega) (by omega)
  rw [Sz.szR_no hbig] at hszB
  have hz1n : ¬ (z1 < 0) := by omega
  have hvB : ∀ ob, DocAt ((w.alloc ob).alloc (.cells #[.int .i64 oB, .int .i64 nB, .string tB, .slice aB kB.len cB] 44)) (w.heap.size + 1) oB nB tB kB aB cB fB := fun ob => by
    have := DocAt.new (w := w.alloc ob) (((Ext.refl w).alloc ob).sub hsB hfB) (fun c hc => by have := hfB c hc; simp; omega) hcB oB nB tB 44
    simpa using this
  have HSA := Lib.hid hszA
  have HSB := Lib.hid hszB
  have HVB := Lib.hid hvB
  have HE0 := Lib.hid (show ∀ x y, Ext w ((w.alloc x).alloc y) from fun x y => ((Ext.refl w).alloc x).alloc y)
  clear hszA hszB hsA hfA hcA hlA hftA htA hsB hfB hcB hlB hftB htB hbig hsmall hz1 hvB
  go_enter Try.func16, Try.ntmps16
  go_wp2_with fail
  refine (HSA.out _ (HE0.out _ _)).mono ?_
  rintro e1 w1 ⟨rfl, hb1⟩
  have e1 : Ext w w1 := (HE0.out _ _).trans hb1
  obtain ⟨y0, y1, y2, y3⟩ := ((HVB.out _).ext hb1).box
  have H1 := Lib.hid e1
  clear e1 hb1
  go_wp2_with fail
  refine (HSB.out _ H1.out).mono ?_
  rintro e2 w2 ⟨rfl, hb2⟩
  have H2 := Lib.hid (H1.out.trans hb2)
  clear y0 y1 y2 y3 hb2
  go_wp2_with fail
  go_ret
  exact ⟨rfl, H2.out⟩

theorem walk (hsA : SubAt w aA kA fA) (hfA : ∀ c ∈ fA, c < w.heap.size) (hcA : kA.len ≤ cA) (hlA : kA.len ≤ maxLen) (hftA : kA.Fits) (htA : tA.size ≤ maxLen) (hsB : SubAt w aB kB fB) (hfB : ∀ c ∈ fB, c < w.heap.size) (hcB : kB.len ≤ cB) (hlB : kB.len ≤ maxLen) (hftB : kB.Fits) (htB : tB.size ≤ maxLen) :
    Calls Try.prog 16 #[.agg #[.int .i64 oA, .int .i64 nA, .string tA, .slice aA kA.len cA], .agg #[.int .i64 oB, .int .i64 nB, .string tB, .slice aB kB.len cB]] w fun e w' => e = .returned (.bool true) ∧ Below w.heap.size w w' := by
  by_cases h1 : (1048576 : Int) < ((tA.size + kA.size : Nat) : Int)
  · exact walk_big1 w oA nA tA kA aA cA fA oB nB tB aB cB hsA hfA hcA hlA hftA htA h1 kB.len
  · by_cases h2 : (1048576 : Int) - ((tA.size + kA.size : Nat) : Int) < ((tB.size + kB.size : Nat) : Int)
    · exact walk_big2 w oA nA tA kA aA cA fA oB nB tB kB aB cB fB hsA hfA hcA hlA hftA htA hsB hfB hcB hlB hftB htB (by omega) h2
    · exact walk_good w oA nA tA kA aA cA fA oB nB tB kB aB cB fB hsA hfA hcA hsB hfB hcB (by omega)
end

set_option maxRecDepth 100000 in
theorem lifted (os : Os) (started : os.Started) (H : Type) (enc : TypeId × Value → H) :
    ReturnsInHanded {} Try.checked os 16 .any (Rows.fnExactCatDocsSpec.pre6 enc Try.prog Try.f16 Rows.fnExactCatDocsRow.domain false) (Rows.fnExactCatDocsSpec.post enc Try.prog Try.f16 false true false false) := by
  refine returnsInHanded_of_change (C := Try.checked) Facts.own started (by kernel_rfl) Try.func16
    (ChangeSpec.witness6 (enc := enc) (C := Try.checked) false ⟨#[], #[.agg #[.int .i64 0, .int .i64 0, .string ⟨#[]⟩, .slice none 0 0], .agg #[.int .i64 0, .int .i64 0, .string ⟨#[]⟩, .slice none 0 0]], []⟩ 8 (by kernel_rfl) (by kernel_rfl) (by kernel_rfl) (by kernel_rfl)) ?_
  intro W base args ds gs before hval0 hW hcnd0 _
  clear hcnd0
  have hval : ∀ (j : Nat) t v, Try.f16.params[j]? = some t → args[j]? = some v → Value.okWide Try.prog W .any base t v := hval0
  have hW' := hW
  obtain ⟨p, q, hA0, hV, rfl, hfz, hnd⟩ := hW
  have hA : DataW.TrodAll enc Try.prog W 0 (fun _ => true) true Try.f16.params.toList args.toList ds p := hA0
  rw [Try.params16] at hA hval
  obtain ⟨v0, v1, d0, d1, p0, p1, rfl, rfl, rfl, h0, h1⟩ := trodAll_two hA
  obtain ⟨rfl, rfl⟩ := trodVars_none hV
  obtain ⟨o, n, t, k, a, cap, fs, rfl, ht, hl, hft, hc, hs, hfs⟩ := Open.open_doc (hval 0 44 v0 rfl rfl) h0
  obtain ⟨o', n', t', k', a', cap', fs', rfl, ht', hl', hft', hc', hs', hfs'⟩ := Open.open_doc (hval 1 44 v1 rfl rfl) h1
  clear hA0 hval0
  simp only [List.append_nil] at hW'
  have hlt : ∀ x ∈ p0 ++ p1, x.block < W.heap.size := fun x hx => by simpa using hW'.lt x hx
  refine (walk W o n t k a cap fs o' n' t' k' a' cap' fs' hs hfs hc hl hft ht hs' hfs' hc' hl' hft' ht').mono fun e W' ⟨he, hb⟩ => ?_
  subst he
  refine ⟨_, rfl, [d0, d1], [], p0 ++ p1, [], p0 ++ p1, [], hW', trodAll_mk1 (shut_bool Try.underlying4 _), ?_, rfl, hb.frame _, fun h => by cases h⟩
  exact trodAll_mk2 (Below.trod Facts.laidOut (by kernel_rfl) (of_decide_eq_true (by kernel_rfl)) h0 hb (fun x hx => hlt x (List.mem_append_left _ hx))) (Below.trod Facts.laidOut (by kernel_rfl) (of_decide_eq_true (by kernel_rfl)) h1 hb (fun x hx => hlt x (List.mem_append_right _ hx)))

theorem named : Try.prog.funcNamed Rows.fnExactCatDocsRow.func = some 16 := by kernel_rfl
theorem closed : joinedFacts Try.prog 16 Try.f16 Rows.fnExactCatDocsSpec Rows.fnExactCatDocsRow = true :=
  Facts.closed_of rfl rfl rfl rfl (h28b := rfl) (by kernel_rfl) (by kernel_rfl) (by kernel_rfl) (by kernel_rfl) (by kernel_rfl) (by kernel_rfl) (by kernel_rfl) (by kernel_rfl) (by kernel_rfl) (by kernel_rfl) (by kernel_rfl) (by kernel_rfl) (by kernel_rfl) (by kernel_rfl) (by kernel_rfl) (by kernel_rfl) (by kernel_rfl) (by kernel_rfl) (by kernel_rfl) (by kernel_rfl) (by kernel_rfl) (by kernel_rfl) (by kernel_rfl) (by kernel_rfl)
theorem instanced : Try.f16.isInstance Try.prog Rows.fnExactCatDocsRow.origin Rows.fnExactCatDocsRow.targs := of_decide_eq_true (by kernel_rfl)
theorem wrapped : Try.f16.isWrapper Try.prog Rows.fnExactCatDocsRow.wrapper Rows.fnExactCatDocsRow.mainSum := by
  unfold Func.isWrapper
  rw [if_neg (of_decide_eq_false (by kernel_rfl))]
  exact ⟨rfl, rfl⟩

theorem holds : Rows.FnExactCatDocsSaid :=
  OpenClaim.holds_of_wide 16 Try.f16 rfl rfl rfl rfl rfl rfl rfl ⟨rfl, rfl, rfl, rfl, rfl⟩ rfl rfl rfl rfl rfl named Try.func16 closed instanced wrapped
    (fun os started H enc _ => lifted os started H enc)

end Go.Proofs.Ytpejdbgjcjehjaa.lawCatDocs
