import Derived.Test.YtmkibpimjaofgaaPl
import Derived.Test.YtmkibpimjaofgaaWoS
import Derived.Test.YtmkibpimjaofgaaHeld
import Derived.Test.YtmkibpimjaofgaaOpen
import Derived.Test.YtmkibpimjaofgaaSz
import Derived.Test.YtmkibpimjaofgaaEq
import Derived.Test.YtmkibpimjaofgaaTo
import Derived.Test.YtmkibpimjaofgaaFacts
import Derived.Test.YtmkibpimjaofgaaRows
import Derived.Deep.RegionHeld3
/-
  For every document that can be read as data, WithoutGroups of the program answers as WithoutGroups of the model, changes nothing of its argument, and its answer owns its memory: the law FnExactWithoutGroups returns true, and its argument reads as it did. No condition of ours; as the row says, a document that leads back into itself is not read.
-/
set_option linter.unusedVariables false
set_option linter.unusedSimpArgs false
namespace Go.Proofs.Ytmkibpimjaofgaa.lawWithoutGroups
open Go.ChangeShapes Go.WideShapes Go.ChangeAt Go.RowKit P1 CatD

theorem eqDoc_self (o n : Int) (t : ByteArray) (k : F) (h0 : k.size ≤ 2097152) (w1 : World) (a1 a2 : Option Addr) (c1 c2 : Nat) (f1 f2 : List Nat) (h1 : SubAt w1 a1 k f1) (h2 : SubAt w1 a2 k f2) (h3 : ∀ c ∈ f1, c < w1.heap.size) (h4 : ∀ c ∈ f2, c < w1.heap.size) (h5 : k.len ≤ c1) (h6 : k.len ≤ c2) :
    Calls Try.prog 20 #[.agg #[.int .i64 o, .int .i64 n, .string t, .slice a1 k.len c1], .agg #[.int .i64 o, .int .i64 n, .string t, .slice a2 k.len c2]] w1 fun e w' => e = .returned (.bool true) ∧ Below w1.heap.size w1 w' := by
  have := F.len_le_size k
  have h := Eq.eqDoc (Eq.eqS_any k k) o n o n t t w1 a1 a2 c1 c2 f1 f2 h1 h2 h3 h4 h5 h6 (by unfold maxLen; omega) (by unfold maxLen; omega) (fits_of_size (m := 2097152) (by unfold maxLen; omega) k h0) (fits_of_size (m := 2097152) (by unfold maxLen; omega) k h0)
  rw [sameD_yes, F.same_self] at h
  exact h

section
variable (w : World) (oA nA : Int) (tA : ByteArray) (kA : F) (aA : Option Addr) (cA : Nat) (fA : List Nat)

set_option maxRecDepth 100000 in
set_option maxHeartbeats 12800000 in
theorem walk_good (hsA : SubAt w aA kA fA) (hfA : ∀ c ∈ fA, c < w.heap.size) (hcA : kA.len ≤ cA) (hle : tA.size + kA.size ≤ 1048576) :
    Calls Try.prog 4 #[.agg #[.int .i64 oA, .int .i64 nA, .string tA, .slice aA kA.len cA]] w fun e w' => e = .returned (.bool true) ∧ Below w.heap.size w w' := by
  have hm : (1048576 : Nat) ≤ maxLen := by unfold maxLen; omega
  have hlA := F.len_le_size kA
  have hftA : kA.Fits := fits_of_size hm kA (by omega)
  have hrz := Nf.wo_size oA nA tA kA
  obtain ⟨r, hr⟩ : ∃ r, Nf.woRes oA nA tA kA = r := ⟨_, rfl⟩
  rw [hr] at hrz
  obtain ⟨ok, o, n, t, k⟩ := r
  have hks : k.size ≤ 2097152 := hrz
  have hkc := F.cnt_le_size k
  have hkl := F.len_le_size k
  have hcAc := F.cnt_le_size kA
  have hvA := DocAt.new hsA hfA hcA oA nA tA 24
  have hsz := fun (w1 : World) (h1 : Ext w w1) => Sz.szDoc (Sz.szS_any kA) oA nA tA w1 aA cA fA 1048576 (h1.sub hsA hfA) (fun c hc => Nat.lt_of_lt_of_le (hfA c hc) h1.size) hcA (by omega) hftA (by omega) (by omega) (by omega)
  rw [Sz.szR_yes (by omega)] at hsz
  obtain ⟨z1, hz1⟩ : ∃ z : Int, (1048576 : Int) - ((tA.size + kA.size : Nat) : Int) = z := ⟨_, rfl⟩
  have hz1' : ¬ (z1 < 0) := by omega
  rw [hz1] at hsz
  have hto := fun (w1 : World) (h1 : Ext w w1) => To.toDoc (To.toS_any kA) oA nA tA w1 aA cA fA (h1.sub hsA hfA) (fun c hc => Nat.lt_of_lt_of_le (hfA c hc) h1.size) hcA (by omega)
  have hspec := fun (w1 : World) (a1 : Option Addr) (f1 : List Nat) (h1 : SubAt w1 a1 kA f1) (m1 : ∀ c ∈ f1, c < w1.heap.size ∧ ∀ o, w1.frozen? ⟨c, o, none⟩ = false) => Nf.specWithoutGroups w1 oA nA tA kA a1 kA.len f1 h1 m1 (Nat.le_refl _) hle
  have himpl := fun (w1 : World) (a1 : Option Addr) (f1 : List Nat) (h1 : SubAt w1 a1 kA f1) (m1 : ∀ c ∈ f1, c < w1.heap.size ∧ ∀ o, w1.frozen? ⟨c, o, none⟩ = false) => Nf.implWithoutGroups w1 oA nA tA kA a1 kA.len f1 h1 m1 (Nat.le_refl _) hle
  rw [hr] at hspec himpl
  obtain ⟨m1, hm1⟩ : ∃ m, 1 + 3 * kA.cnt = m := ⟨_, rfl⟩
  obtain ⟨m3, hm3⟩ : ∃ m, 1 + 3 * k.cnt = m := ⟨_, rfl⟩
  have HMA := Lib.hid (MarkDocs.markDocI oA nA tA kA 1 m1 1 rfl hm1 (Nat.le_refl _) (by omega))
  have HMG := Lib.hid (MarkDocs.markDocI o n t k 1 m3 1 rfl hm3 (Nat.le_refl _) (by omega))
  have HHG := Lib.hid (Held.heldDocI o n t k 1 m3 k.len 1 rfl hm3 rfl (Nat.le_refl _) (by omega))
  have hm1n : ¬ ((m1 : Int) < 0) := by omega
  have hm3n : ¬ ((m3 : Int) < 0) := by omega
  have hm3e : ((m3 : Int) != (m3 : Int)) = false := by simp
  have hsA1 : kA.size ≤ 2097152 := by omega
  have HSZ := Lib.hid hsz
  have HTO := Lib.hid hto
  have HSP := Lib.hid hspec
  have HIM := Lib.hid himpl
  have HEQ := Lib.hid (@eqDoc_self)
  have hvv : (ok != ok) = false := by simp
  have DA0 := Lib.hid hvA
  have HFA := Lib.hid hfA
  have E0 := Lib.hid ((Ext.refl w).alloc (.cells #[.int .i64 oA, .int .i64 nA, .string tA, .slice aA kA.len cA] 24))
  clear hvA hsz hto hspec himpl hr hftA hsA hfA hcA hz1 hm hlA hm1 hm3 hrz hkc hkl hcAc hle
  go_enter Try.func4, Try.ntmps4
  go_wp2_with fail
  refine (HSZ.out _ E0.out).mono ?_
  rintro e1 w1 ⟨rfl, hb⟩
  have E1 := Lib.hid (E0.out.trans hb)
  have DA1 := Lib.hid (DA0.out.ext hb)
  clear hb DA0 E0
  obtain ⟨x0, x1, x2, x3⟩ := DA1.out.box
  go_wp2_with fail
  refine (HTO.out _ E1.out).mono ?_
  rintro e2 w2 ⟨a2, f2, rfl, hs2, hfr2, hb⟩
  have E2 := Lib.hid (E1.out.trans hb)
  have DA2 := Lib.hid (DA1.out.ext hb)
  have K2 := Lib.hid (And.intro hs2 hfr2)
  clear hb hs2 hfr2 E1 DA1 x0 x1 x2 x3
  go_wp2_with fail
  refine (HSP.out _ a2 f2 K2.out.1 (fun c hc => ⟨K2.out.2.lt c hc, (K2.out.2.2 c hc).2.2⟩)).mono ?_
  rintro e3 w3 ⟨a3, c3, f3, rfl, hc3, hs3, hfr3, hb⟩
  have E3 := Lib.hid (E2.out.trans hb)
  have DA3 := Lib.hid (DA2.out.ext hb)
  have K3 := Lib.hid (And.intro hs3 (And.intro hfr3 hc3))
  have R3 := Lib.hid (show w.heap.size < w2.heap.size ∧ w2.heap.size ≤ w3.heap.size from ⟨DA2.out.blt, Ext.size hb⟩)
  clear hb hs3 hfr3 hc3 E2 DA2 K2
  obtain ⟨x0, x1, x2, x3⟩ := DA3.out.box
  have ly := DA3.out.blt
  go_wp2_with fail
  refine (HTO.out _ (E3.out.alloc _)).mono ?_
  rintro e4 w4 ⟨a4, f4, rfl, hs4, hfr4, hb⟩
  have e4 : Ext w3 w4 := ((Ext.refl w3).alloc _).trans hb
  have E4 := Lib.hid (E3.out.trans e4)
  have DA4 := Lib.hid (DA3.out.ext e4)
  have DW4 := Lib.hid ((DocAt.new K3.out.1 K3.out.2.1.lt K3.out.2.2 o n t _).ext hb)
  have K4 := Lib.hid (And.intro hs4 hfr4)
  have I3 := Lib.hid (show In w2.heap.size w3.heap.size f3 from In.of K3.out.2.1)
  have I4 := Lib.hid (show In (w3.heap.size + 1) w4.heap.size f4 from fun c hc => ⟨by have := (hfr4.2 c hc).1; simp at this; omega, hfr4.lt c hc⟩)
  have R4 := Lib.hid (show w3.heap.size < w4.heap.size from DW4.out.blt)
  clear hb hs4 hfr4 e4 E3 DA3 K3 x0 x1 x2 x3 ly
  go_wp2_with fail
  refine (HIM.out _ a4 f4 (((Ext.refl w4).alloc _).sub K4.out.1 K4.out.2.lt) (fun c hc => ⟨by have := K4.out.2.lt c hc; simp; omega, fun o => ((((Ext.refl w4).alloc _).fresh K4.out.2).2 c hc).2.2 o⟩)).mono ?_
  rintro e5 w5 ⟨a5, c5, f5, rfl, hc5, hs5, hfr5, hb⟩
  have e5 : Ext w4 w5 := ((Ext.refl w4).alloc _).trans hb
  have E5 := Lib.hid (E4.out.trans e5)
  have DA5 := Lib.hid (DA4.out.ext e5)
  have DW5 := Lib.hid (DW4.out.ext e5)
  have DX5 := Lib.hid ((DocAt.new K4.out.1 K4.out.2.lt (Nat.le_refl _) oA nA tA _).ext hb)
  have FX5 := Lib.hid (e5.fresh K4.out.2)
  have K5 := Lib.hid (And.intro hs5 (And.intro hfr5 hc5))
  have I5 := Lib.hid (show In (w4.heap.size + 1) w5.heap.size f5 from fun c hc => ⟨by have := (hfr5.2 c hc).1; simp at this; omega, hfr5.lt c hc⟩)
  have R5 := Lib.hid (show w4.heap.size < w5.heap.size from DX5.out.blt)
  clear hb hs5 hfr5 hc5 e5 E4 DA4 DW4 K4
  obtain ⟨y0, y1, y2, y3⟩ := DW5.out.box
  have ly := DW5.out.blt
  go_wp2_with fail
  refine (HEQ.out o n t k hks _ a5 a3 c5 c3 f5 f3 (by exact ((Ext.refl w5).alloc _).sub K5.out.1 K5.out.2.1.lt) (by exact ((Ext.refl w5).alloc _).sub DW5.out.sub DW5.out.lt) (fun c hc => by have := K5.out.2.1.lt c hc; simp; omega) (fun c hc => by have := DW5.out.lt c hc; simp; omega) K5.out.2.2 DW5.out.cap_le).mono ?_
  rintro e6 w6 ⟨rfl, hb⟩
  have e6 : Ext w5 w6 := ((Ext.refl w5).alloc _).trans hb
  have E6 := Lib.hid (E5.out.trans e6)
  have DA6 := Lib.hid (DA5.out.ext e6)
  have DW6 := Lib.hid (DW5.out.ext e6)
  have DX6 := Lib.hid (DX5.out.ext e6)
  have FX6 := Lib.hid (e6.fresh FX5.out)
  have DG6 := Lib.hid ((DocAt.new K5.out.1 K5.out.2.1.lt K5.out.2.2 o n t _).ext hb)
  have FG6 := Lib.hid (e6.fresh K5.out.2.1)
  clear hb e6 E5 DA5 DW5 DX5 FX5 K5 y0 y1 y2 y3 ly
  obtain ⟨x0, x1, x2, x3, y0, y1, y2, y3⟩ := two_boxes DX6.out DA6.out
  go_wp2_with fail
  go_region_held3 (fun w' => w'.cell? ⟨w4.heap.size, 0, none⟩ = some (.int .i64 oA) ∧ w'.cell? ⟨w4.heap.size, 1, none⟩ = some (.int .i64 nA) ∧ w'.cell? ⟨w4.heap.size, 2, none⟩ = some (.string tA) ∧ w'.cell? ⟨w4.heap.size, 3, none⟩ = some (.slice a4 kA.len kA.len) ∧ w'.cell? ⟨w.heap.size, 0, none⟩ = some (.int .i64 oA) ∧ w'.cell? ⟨w.heap.size, 1, none⟩ = some (.int .i64 nA) ∧ w'.cell? ⟨w.heap.size, 2, none⟩ = some (.string tA) ∧ w'.cell? ⟨w.heap.size, 3, none⟩ = some (.slice aA kA.len cA))
    (first | go_keep | exact two_boxes (DX6.out.ext q7) (DA6.out.ext q7) | exact two_boxes (DX6.out.ext q8) (DA6.out.ext q8))
    (first
      | (go_at_call 18; refine (HTO.out _ (by exact E6.out.drew)).mono ?_; rintro e1 w7 ⟨a7, f7, rfl, hs7, hfr7, hb7⟩; have q7 : Ext w6 w7 := (Ext.refl w6).drew.trans hb7)
      | (go_at_call 20; refine (HEQ.out oA nA tA kA hsA1 _ a4 a7 _ _ f4 f7 (by exact (DX6.out.ext q7).sub) (by exact hs7) (by exact (DX6.out.ext q7).lt) (by exact hfr7.lt) (Nat.le_refl _) (Nat.le_refl _)).mono ?_; rintro e1 w8 ⟨rfl, hb8⟩; have q8 : Ext w6 w8 := q7.trans hb8))
  have E8 := Lib.hid (E6.out.trans q8)
  have DA8 := Lib.hid (DA6.out.ext q8)
  have DW8 := Lib.hid (DW6.out.ext q8)
  have DX8 := Lib.hid (DX6.out.ext q8)
  have FX8 := Lib.hid (q8.fresh FX6.out)
  have DG8 := Lib.hid (DG6.out.ext q8)
  have FG8 := Lib.hid (q8.fresh FG6.out)
  clear x0 x1 x2 x3 y0 y1 y2 y3 hs7 hfr7 hb7 hb8 q7 q8 E6 DA6 DW6 DX6 FX6 DG6 FG6
  obtain ⟨x0, x1, x2, x3⟩ := DX8.out.box
  go_wp2_with fail
  refine (HMA.out w8 a4 kA.len f4 _ DX8.out.sub FX8.out (Nat.le_refl _)).mono ?_
  rintro e9 w9 ⟨rfl, hs9, hO⟩
  have E9 := Lib.hid (E8.out.only hO (fun c hc => by have := I4.out c hc; have := R3.out; omega))
  have DA9 := Lib.hid (DA8.out.only hO (I4.out.out (Or.inl (by have := R3.out; omega))) (fun c hc hg => by have h1 := HFA.out c hc; have h2 := I4.out c hg; have := R3.out; omega))
  have DW9 := Lib.hid (DW8.out.only hO (I4.out.out (Or.inl (by omega))) (I3.out.apart I4.out (Or.inl (by omega))))
  have DG9 := Lib.hid (DG8.out.only hO (I4.out.out (Or.inr (by have := R5.out; omega))) (I5.out.apart I4.out (Or.inr (by omega))))
  have FG9 := Lib.hid (hO.fresh FG8.out)
  clear x0 x1 x2 x3 hs9 hO E8 DA8 DW8 DX8 FX8 DG8 FG8
  obtain ⟨x0, x1, x2, x3, y0, y1, y2, y3⟩ := two_boxes DG9.out DW9.out
  go_wp2_with fail
  refine (HEQ.out o n t k hks w9 a5 a3 c5 c3 f5 f3 DG9.out.sub DW9.out.sub DG9.out.lt DW9.out.lt DG9.out.cap_le DW9.out.cap_le).mono ?_
  rintro e10 w10 ⟨rfl, hb⟩
  have e10 : Ext w9 w10 := hb
  have E10 := Lib.hid (E9.out.trans e10)
  have DA10 := Lib.hid (DA9.out.ext e10)
  have DW10 := Lib.hid (DW9.out.ext e10)
  have DG10 := Lib.hid (DG9.out.ext e10)
  have FG10 := Lib.hid (e10.fresh FG9.out)
  clear x0 x1 x2 x3 y0 y1 y2 y3 hb e10 E9 DA9 DW9 DG9 FG9
  obtain ⟨x0, x1, x2, x3⟩ := DG10.out.box
  go_wp2_with fail
  refine (HMG.out w10 a5 c5 f5 _ DG10.out.sub FG10.out DG10.out.cap_le).mono ?_
  rintro e11 w11 ⟨rfl, hs11, hO⟩
  have hG11 := DG10.out.marked hO (I5.out.out (Or.inr (Nat.le_refl _))) hs11
  have hx11 : Box w11 w5.heap.size o n t a5 k.len c5 := by have := hG11.box; rw [F.len_mk] at this; exact this
  have DG11 := Lib.hid (And.intro hG11 DG10.out.cap_le)
  have E11 := Lib.hid (E10.out.only hO (fun c hc => by have := I5.out c hc; have := R3.out; have := R4.out; omega))
  have DA11 := Lib.hid (DA10.out.only hO (I5.out.out (Or.inl (by have := R3.out; have := R4.out; omega))) (fun c hc hg => by have h1 := HFA.out c hc; have h2 := I5.out c hg; have := R3.out; have := R4.out; omega))
  have DW11 := Lib.hid (DW10.out.only hO (I5.out.out (Or.inl (by have := R4.out; omega))) (I3.out.apart I5.out (Or.inl (by have := R4.out; omega))))
  clear x0 x1 x2 x3 hs11 hO hG11 E10 DA10 DW10 DG10 FG10
  obtain ⟨x0, x1, x2, x3⟩ := hx11
  go_wp2_with fail
  refine (HHG.out w11 a5 c5 f5 DG11.out.1.sub DG11.out.1.lt DG11.out.2).mono ?_
  rintro e12 w12 ⟨rfl, hb⟩
  have e12 : Ext w11 w12 := hb
  have E12 := Lib.hid (E11.out.trans e12)
  have DA12 := Lib.hid (DA11.out.ext e12)
  have DW12 := Lib.hid (DW11.out.ext e12)
  have DG12 := Lib.hid (And.intro (DG11.out.1.ext e12) DG11.out.2)
  clear x0 x1 x2 x3 hb e12 E11 DA11 DW11 DG11
  obtain ⟨x0, x1, x2, x3⟩ := DA12.out.box
  go_wp2_with fail
  refine (HTO.out _ E12.out).mono ?_
  rintro e13 w13 ⟨a13, f13, rfl, hs13, hfr13, hb⟩
  have e13 : Ext w12 w13 := hb
  have E13 := Lib.hid (E12.out.trans e13)
  have DW13 := Lib.hid (DW12.out.ext e13)
  have DG13 := Lib.hid (And.intro (DG12.out.1.ext e13) DG12.out.2)
  have K13 := Lib.hid (And.intro hs13 hfr13)
  clear x0 x1 x2 x3 hb hs13 hfr13 e13 E12 DA12 DW12 DG12
  go_wp2_with fail
  refine (HIM.out _ a13 f13 K13.out.1 (fun c hc => ⟨K13.out.2.lt c hc, (K13.out.2.2 c hc).2.2⟩)).mono ?_
  rintro e14 w14 ⟨a14, c14, f14, rfl, hc14, hs14, hfr14, hb⟩
  have e14 : Ext w13 w14 := hb
  have E14 := Lib.hid (E13.out.trans e14)
  have DW14 := Lib.hid (DW13.out.ext e14)
  have DG14 := Lib.hid (And.intro (DG13.out.1.ext e14) DG13.out.2)
  have K14 := Lib.hid (And.intro hs14 (And.intro hfr14 hc14))
  clear hb hs14 hfr14 hc14 e14 E13 DW13 DG13 K13
  obtain ⟨y0, y1, y2, y3⟩ := DW14.out.box
  have ly := DW14.out.blt
  go_wp2_with fail
  refine (HEQ.out o n t k hks _ a14 a3 c14 c3 f14 f3 (by exact ((Ext.refl w14).alloc _).sub K14.out.1 K14.out.2.1.lt) (by exact ((Ext.refl w14).alloc _).sub DW14.out.sub DW14.out.lt) (fun c hc => by have := K14.out.2.1.lt c hc; simp; omega) (fun c hc => by have := DW14.out.lt c hc; simp; omega) K14.out.2.2 DW14.out.cap_le).mono ?_
  rintro e15 w15 ⟨rfl, hb⟩
  have e15 : Ext w14 w15 := ((Ext.refl w14).alloc _).trans hb
  have E15 := Lib.hid (E14.out.trans e15)
  have hG15 := DG14.out.1.ext e15
  have hx15 : Box w15 w5.heap.size o n t a5 k.len c5 := by have := hG15.box; rw [F.len_mk] at this; exact this
  have DG15 := Lib.hid (And.intro hG15 DG14.out.2)
  clear hb y0 y1 y2 y3 ly e15 hG15 E14 DW14 DG14 K14
  obtain ⟨x0, x1, x2, x3⟩ := hx15
  go_wp2_with fail
  refine (HHG.out w15 a5 c5 f5 DG15.out.1.sub DG15.out.1.lt DG15.out.2).mono ?_
  rintro e16 w16 ⟨rfl, hb⟩
  have E16 := Lib.hid (Ext.trans E15.out hb)
  clear x0 x1 x2 x3 hb E15 DG15
  go_wp2_with fail
  go_ret
  exact ⟨rfl, E16.out⟩

set_option maxRecDepth 100000 in
set_option maxHeartbeats 3200000 in
theorem walk_big (hsA : SubAt w aA kA fA) (hfA : ∀ c ∈ fA, c < w.heap.size) (hcA : kA.len ≤ cA) (hlA : kA.len ≤ maxLen) (hftA : kA.Fits) (htA : tA.size ≤ maxLen) (hbig : (1048576 : Int) < ((tA.size + kA.size : Nat) : Int)) :
    Calls Try.prog 4 #[.agg #[.int .i64 oA, .int .i64 nA, .string tA, .slice aA kA.len cA]] w fun e w' => e = .returned (.bool true) ∧ Below w.heap.size w w' := by
  have hsz := fun (w1 : World) (h1 : Ext w w1) => Sz.szDoc (Sz.szS_any kA) oA nA tA w1 aA cA fA 1048576 (h1.sub hsA hfA) (fun c hc => Nat.lt_of_lt_of_le (hfA c hc) h1.size) hcA hlA hftA htA (by omega) (by omega)
  rw [Sz.szR_no hbig] at hsz
  have HS := Lib.hid hsz
  have E0 := Lib.hid ((Ext.refl w).alloc (.cells #[.int .i64 oA, .int .i64 nA, .string tA, .slice aA kA.len cA] 24))
  clear hsz hsA hfA hcA hlA hftA htA hbig
  go_enter Try.func4, Try.ntmps4
  go_wp2_with fail
  refine (HS.out _ E0.out).mono ?_
  rintro e1 w1 ⟨rfl, hb1⟩
  have HB := Lib.hid (E0.out.trans hb1)
  clear hb1
  go_wp2_with fail
  go_ret
  exact ⟨rfl, HB.out⟩

theorem walk (hsA : SubAt w aA kA fA) (hfA : ∀ c ∈ fA, c < w.heap.size) (hcA : kA.len ≤ cA) (hlA : kA.len ≤ maxLen) (hftA : kA.Fits) (htA : tA.size ≤ maxLen) :
    Calls Try.prog 4 #[.agg #[.int .i64 oA, .int .i64 nA, .string tA, .slice aA kA.len cA]] w fun e w' => e = .returned (.bool true) ∧ Below w.heap.size w w' := by
  by_cases h1 : (1048576 : Int) < ((tA.size + kA.size : Nat) : Int)
  · exact walk_big w oA nA tA kA aA cA fA hsA hfA hcA hlA hftA htA h1
  · exact walk_good w oA nA tA kA aA cA fA hsA hfA hcA (by omega)
end

set_option maxRecDepth 100000 in
theorem lifted (os : Os) (started : os.Started) (H : Type) (enc : TypeId × Value → H) :
    ReturnsInHanded {} Try.checked os 4 .any (Rows.fnExactWithoutGroupsSpec.pre6 enc Try.prog Try.f4 Rows.fnExactWithoutGroupsRow.domain false) (Rows.fnExactWithoutGroupsSpec.post enc Try.prog Try.f4 false true false false) := by
  refine returnsInHanded_of_change (C := Try.checked) Facts.own started (by kernel_rfl) Try.func4
    (ChangeSpec.witness6 (enc := enc) (C := Try.checked) false ⟨#[], #[.agg #[.int .i64 0, .int .i64 0, .string ⟨#[]⟩, .slice none 0 0]], []⟩ 8 (by kernel_rfl) (by kernel_rfl) (by kernel_rfl) (by kernel_rfl)) ?_
  intro W base args ds gs before hval0 hW hcnd0 _
  clear hcnd0
  have hval : ∀ (j : Nat) t v, Try.f4.params[j]? = some t → args[j]? = some v → Value.okWide Try.prog W .any base t v := hval0
  have hW' := hW
  obtain ⟨p, q, hA0, hV, rfl, hfz, hnd⟩ := hW
  have hA : DataW.TrodAll enc Try.prog W 0 (fun _ => true) true Try.f4.params.toList args.toList ds p := hA0
  rw [Try.params4] at hA hval
  obtain ⟨v0, d0, rfl, rfl, h0⟩ := trodAll_one hA
  obtain ⟨rfl, rfl⟩ := trodVars_none hV
  obtain ⟨o, n, t, k, a, cap, fs, rfl, ht, hl, hft, hc, hs, hfs⟩ := Open.open_doc (hval 0 24 v0 rfl rfl) h0
  clear hA0 hval0
  simp only [List.append_nil] at hW'
  have hlt : ∀ x ∈ p, x.block < W.heap.size := fun x hx => by simpa using hW'.lt x hx
  refine (walk W o n t k a cap fs hs hfs hc hl hft ht).mono fun e W' ⟨he, hb⟩ => ?_
  subst he
  refine ⟨_, rfl, [d0], [], p, [], p, [], hW', trodAll_mk1 (shut_bool Try.underlying4 _), ?_, rfl, hb.frame _, fun h => by cases h⟩
  exact trodAll_mk1 (Below.trod Facts.laidOut (by kernel_rfl) (of_decide_eq_true (by kernel_rfl)) h0 hb hlt)

theorem named : Try.prog.funcNamed Rows.fnExactWithoutGroupsRow.func = some 4 := by kernel_rfl
theorem closed : joinedFacts Try.prog 4 Try.f4 Rows.fnExactWithoutGroupsSpec Rows.fnExactWithoutGroupsRow = true :=
  Facts.closed_of rfl rfl rfl rfl (h28b := rfl) (by kernel_rfl) (by kernel_rfl) (by kernel_rfl) (by kernel_rfl) (by kernel_rfl) (by kernel_rfl) (by kernel_rfl) (by kernel_rfl) (by kernel_rfl) (by kernel_rfl) (by kernel_rfl) (by kernel_rfl) (by kernel_rfl) (by kernel_rfl) (by kernel_rfl) (by kernel_rfl) (by kernel_rfl) (by kernel_rfl) (by kernel_rfl) (by kernel_rfl) (by kernel_rfl) (by kernel_rfl) (by kernel_rfl) (by kernel_rfl)
theorem instanced : Try.f4.isInstance Try.prog Rows.fnExactWithoutGroupsRow.origin Rows.fnExactWithoutGroupsRow.targs := of_decide_eq_true (by kernel_rfl)
theorem wrapped : Try.f4.isWrapper Try.prog Rows.fnExactWithoutGroupsRow.wrapper Rows.fnExactWithoutGroupsRow.mainSum := by
  unfold Func.isWrapper
  rw [if_neg (of_decide_eq_false (by kernel_rfl))]
  exact ⟨rfl, rfl⟩

theorem holds : Rows.FnExactWithoutGroupsSaid :=
  OpenClaim.holds_of_wide 4 Try.f4 rfl rfl rfl rfl rfl rfl rfl ⟨rfl, rfl, rfl, rfl, rfl⟩ rfl rfl rfl rfl rfl named Try.func4 closed instanced wrapped
    (fun os started H enc _ => lifted os started H enc)

end Go.Proofs.Ytmkibpimjaofgaa.lawWithoutGroups

