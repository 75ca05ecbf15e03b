import Derived.Test.YtmkibpimjaofgaaLdS
import Derived.Test.YtmkibpimjaofgaaPl
import Derived.Test.YtmkibpimjaofgaaLyA
import Derived.Test.YtmkibpimjaofgaaOpenL
import Derived.Test.YtmkibpimjaofgaaHeld
import Derived.Test.YtmkibpimjaofgaaEq
import Derived.Test.YtmkibpimjaofgaaFacts
import Derived.Test.YtmkibpimjaofgaaRows
/-
  For every layout that can be read as data, LayoutDoc of the program answers as LayoutDoc of the model, changes nothing of its argument, and its answer owns its memory: the law FnExactLayoutDoc returns true, and its argument reads as it did. No condition of ours.
-/
set_option linter.unusedVariables false
set_option linter.unusedSimpArgs false
namespace Go.Proofs.Ytmkibpimjaofgaa.lawLayoutDoc
open Go.ChangeShapes Go.WideShapes Go.ChangeAt Go.RowKit P1 CatD

theorem eqDoc_self (o n : Int) (t : ByteArray) (k : F) (h0 : k.size ≤ 2097152) (w1 : World) (a1 a2 : Option Addr) (c1 c2 : Nat) (f1 f2 : List Nat) (h1 : SubAt w1 a1 k f1) (h2 : SubAt w1 a2 k f2) (h3 : ∀ c ∈ f1, c < w1.heap.size) (h4 : ∀ c ∈ f2, c < w1.heap.size) (h5 : k.len ≤ c1) (h6 : k.len ≤ c2) :
    Calls Try.prog 20 #[.agg #[.int .i64 o, .int .i64 n, .string t, .slice a1 k.len c1], .agg #[.int .i64 o, .int .i64 n, .string t, .slice a2 k.len c2]] w1 fun e w' => e = .returned (.bool true) ∧ Below w1.heap.size w1 w' := by
  have := F.len_le_size k
  have h := Eq.eqDoc (Eq.eqS_any k k) o n o n t t w1 a1 a2 c1 c2 f1 f2 h1 h2 h3 h4 h5 h6 (by unfold maxLen; omega) (by unfold maxLen; omega) (fits_of_size (m := 2097152) (by unfold maxLen; omega) k h0) (fits_of_size (m := 2097152) (by unfold maxLen; omega) k h0)
  rw [sameD_yes, F.same_self] at h
  exact h

section
variable (w : World) (l0 : List (Int × ByteArray)) (a0 : Option Addr) (c0 : Nat) (f0 : List Nat)

set_option maxRecDepth 100000 in
set_option maxHeartbeats 4000000 in
theorem walk_good (hs0 : LaySub w a0 l0 f0) (hc0 : l0.length ≤ c0) (hl0 : l0.length ≤ maxLen) (ht0 : L.Fits l0) (hle : L.size l0 ≤ 1048576) :
    Calls Try.prog 9 #[.slice a0 l0.length c0] w fun e w' => e = .returned (.bool true) ∧ Below w.heap.size w w' := by
  have hle0 : l0.length ≤ 1048576 := by unfold L.size at hle; omega
  have hrz := Nf.ld_size l0
  obtain ⟨r, hr⟩ : ∃ r, Nf.ldR l0 = r := ⟨_, rfl⟩
  rw [hr] at hrz
  obtain ⟨ok, o, n, t, k⟩ := r
  have hks : k.size ≤ 2097152 := hrz
  have hkc := F.cnt_le_size k
  have hkl := F.len_le_size k
  have hsz := fun (w1 : World) (h1 : Ext w w1) => LayL.szRowS l0 w1 a0 c0 f0 1048576 (hs0.below hs0.lt h1) hc0 hl0 ht0 (by omega) (by omega)
  rw [leftR_yes (by omega)] at hsz
  obtain ⟨z1, hz1⟩ : ∃ z : Int, (1048576 : Int) - (L.size l0 : Int) = z := ⟨_, rfl⟩
  have hz1' : ¬ (z1 < 0) := by omega
  rw [hz1] at hsz
  have hto := fun (w1 : World) (h1 : Ext w w1) => LayL.toRowS l0 w1 a0 c0 f0 (hs0.below hs0.lt h1) hc0 hle0
  have hspec := fun (w1 : World) (a1 : Option Addr) (f1 : List Nat) (h1 : LaySub w1 a1 l0 f1) => Nf.specLayoutDoc w1 l0 a1 l0.length f1 h1 (Nat.le_refl _) hl0 ht0
  have himpl := fun (w1 : World) (a1 : Option Addr) (f1 : List Nat) (h1 : LaySub w1 a1 l0 f1) => Nf.implLayoutDoc w1 l0 a1 l0.length f1 h1 (Nat.le_refl _) hl0 ht0
  rw [hr] at hspec himpl
  have heqL := fun (w1 : World) (a1 a2 : Option Addr) (f1 f2 : List Nat) (h1 : LaySub w1 a1 l0 f1) (h2 : LaySub w1 a2 l0 f2) => LayL.eqRowS l0 l0 w1 a1 a2 l0.length l0.length f1 f2 h1 h2 (Nat.le_refl _) (Nat.le_refl _) hl0 hl0
  rw [decide_eq_true rfl] at heqL
  obtain ⟨m1, hm1⟩ : ∃ m, 1 + 2 * l0.length = m := ⟨_, rfl⟩
  obtain ⟨m3, hm3⟩ : ∃ m, 1 + 3 * k.cnt = m := ⟨_, rfl⟩
  have HMA := Lib.hid (fun (w1 : World) (b : Option Addr) (g : List Nat) (lo : Nat) (h : LaySub w1 b l0 g) (hF : Fresh lo w1 g) => LayM.markRowS l0 1 m1 1 rfl hm1 (by omega) (by omega) w1 b l0.length g lo h hF (Nat.le_refl _))
  have HMG := Lib.hid (MarkDocs.markDocI o n t k 1 m3 1 rfl hm3 (Nat.le_refl _) (by omega))
  have HHG := Lib.hid (Held.heldDocI o n t k 1 m3 k.len 1 rfl hm3 rfl (Nat.le_refl _) (by omega))
  have hm1n : ¬ ((m1 : Int) < 0) := by omega
  have hm3n : ¬ ((m3 : Int) < 0) := by omega
  have hm3e : ((m3 : Int) != (m3 : Int)) = false := by simp
  have HSZ := Lib.hid hsz
  have HTO := Lib.hid hto
  have HSP := Lib.hid hspec
  have HIM := Lib.hid himpl
  have HEL := Lib.hid heqL
  have HEQ := Lib.hid (@eqDoc_self)
  have hvv : (ok != ok) = false := by simp
  clear hsz hto hspec himpl heqL hr hs0 hc0 hl0 ht0 hz1 hm1 hm3 hrz hkc hkl hle hle0
  go_enter Try.func9, Try.ntmps9
  go_wp2_with fail
  refine (HSZ.out _ (Ext.refl w)).mono ?_
  rintro e1 w1 ⟨rfl, hb⟩
  have E1 := Lib.hid (show Ext w w1 from hb)
  clear hb
  go_wp2_with fail
  refine (HTO.out _ E1.out).mono ?_
  rintro e2 w2 ⟨a2, f2, rfl, hs2, hfr2, hb⟩
  have E2 := Lib.hid (E1.out.trans hb)
  have K2 := Lib.hid (And.intro hs2 hfr2)
  clear hb hs2 hfr2 E1
  go_wp2_with fail
  refine (HSP.out _ a2 f2 K2.out.1).mono ?_
  rintro e3 w3 ⟨a3, c3, f3, rfl, hc3, hs3, hfr3, hb⟩
  simp only at hc3 hs3 ⊢
  have E3 := Lib.hid (E2.out.trans hb)
  have K3 := Lib.hid (And.intro hs3 (And.intro hfr3 hc3))
  have R3 := Lib.hid (show w.heap.size ≤ w2.heap.size ∧ w2.heap.size ≤ w3.heap.size from ⟨Ext.size E2.out, Ext.size hb⟩)
  clear hb hs3 hfr3 hc3 E2 K2
  go_wp2_with fail
  refine (HTO.out _ (E3.out.alloc _)).mono ?_
  rintro e4 w4 ⟨a4, f4, rfl, hs4, hfr4, hb⟩
  have e4 : Ext w3 w4 := ((Ext.refl w3).alloc _).trans hb
  have E4 := Lib.hid (E3.out.trans e4)
  have DW4 := Lib.hid ((DocAt.new K3.out.1 K3.out.2.1.lt K3.out.2.2 o n t _).ext hb)
  have K4 := Lib.hid (And.intro hs4 hfr4)
  have I3 := Lib.hid (show In w2.heap.size w3.heap.size f3 from In.of K3.out.2.1)
  have I4 := Lib.hid (show In (w3.heap.size + 1) w4.heap.size f4 from fun c hc => ⟨by have := (hfr4.2 c hc).1; simp at this; omega, hfr4.lt c hc⟩)
  have R4 := Lib.hid (show w3.heap.size < w4.heap.size from DW4.out.blt)
  clear hb hs4 hfr4 e4 E3 K3
  go_wp2_with fail
  refine (HIM.out _ a4 f4 K4.out.1).mono ?_
  rintro e5 w5 ⟨a5, c5, f5, rfl, hc5, hs5, hfr5, hb⟩
  simp only at hc5 hs5 ⊢
  have e5 : Ext w4 w5 := hb
  have E5 := Lib.hid (E4.out.trans e5)
  have DW5 := Lib.hid (DW4.out.ext e5)
  have L5 := Lib.hid (And.intro (K4.out.1.below K4.out.1.lt e5) (e5.fresh K4.out.2))
  have K5 := Lib.hid (And.intro hs5 (And.intro hfr5 hc5))
  have I5 := Lib.hid (show In w4.heap.size w5.heap.size f5 from In.of hfr5)
  have R5 := Lib.hid (show w4.heap.size ≤ w5.heap.size from Ext.size e5)
  clear hb hs5 hfr5 hc5 e5 E4 DW4 K4
  obtain ⟨y0, y1, y2, y3⟩ := DW5.out.box
  have ly := DW5.out.blt
  go_wp2_with fail
  refine (HEQ.out o n t k hks _ a5 a3 c5 c3 f5 f3 (by exact ((Ext.refl w5).alloc _).sub K5.out.1 K5.out.2.1.lt) (by exact ((Ext.refl w5).alloc _).sub DW5.out.sub DW5.out.lt) (fun c hc => by have := K5.out.2.1.lt c hc; simp; omega) (fun c hc => by have := DW5.out.lt c hc; simp; omega) K5.out.2.2 DW5.out.cap_le).mono ?_
  rintro e6 w6 ⟨rfl, hb⟩
  have e6 : Ext w5 w6 := ((Ext.refl w5).alloc _).trans hb
  have E6 := Lib.hid (E5.out.trans e6)
  have DW6 := Lib.hid (DW5.out.ext e6)
  have L6 := Lib.hid (And.intro (L5.out.1.below L5.out.1.lt e6) (e6.fresh L5.out.2))
  have DG6 := Lib.hid ((DocAt.new K5.out.1 K5.out.2.1.lt K5.out.2.2 o n t _).ext hb)
  have FG6 := Lib.hid (e6.fresh K5.out.2.1)
  clear hb e6 E5 DW5 L5 K5 y0 y1 y2 y3 ly
  go_wp2_with fail
  refine (HTO.out _ E6.out).mono ?_
  rintro e7 w7 ⟨a7, f7, rfl, hs7, hfr7, hb⟩
  have hel := HEL.out w7 a4 a7 f4 f7 (L6.out.1.below L6.out.1.lt hb) hs7
  have HEL7 := Lib.hid hel
  have q7 := Lib.hid (show Ext w6 w7 from hb)
  clear hb hs7 hfr7 hel
  go_wp2_with fail
  refine HEL7.out.mono ?_
  rintro e8 w8 ⟨rfl, hb⟩
  have q8 : Ext w6 w8 := Ext.trans q7.out hb
  have E8 := Lib.hid (E6.out.trans q8)
  have DW8 := Lib.hid (DW6.out.ext q8)
  have L8 := Lib.hid (And.intro (L6.out.1.below L6.out.1.lt q8) (q8.fresh L6.out.2))
  have DG8 := Lib.hid (DG6.out.ext q8)
  have FG8 := Lib.hid (q8.fresh FG6.out)
  clear hb q8 q7 HEL7 E6 DW6 L6 DG6 FG6
  go_wp2_with fail
  refine (HMA.out w8 a4 f4 _ L8.out.1 L8.out.2).mono ?_
  rintro e9 w9 ⟨rfl, hs9, hO⟩
  have E9 := Lib.hid (E8.out.only hO (fun c hc => by have := I4.out c hc; have := R3.out; omega))
  have DW9 := Lib.hid (DW8.out.only hO (I4.out.out (Or.inl (by omega))) (I3.out.apart I4.out (Or.inl (by omega))))
  have DG9 := Lib.hid (DG8.out.only hO (I4.out.out (Or.inr (by have := R5.out; omega))) (I5.out.apart I4.out (Or.inr (by omega))))
  have FG9 := Lib.hid (hO.fresh FG8.out)
  clear hs9 hO E8 DW8 L8 DG8 FG8
  obtain ⟨x0, x1, x2, x3, y0, y1, y2, y3⟩ := two_boxes DG9.out DW9.out
  go_wp2_with fail
  refine (HEQ.out o n t k hks w9 a5 a3 c5 c3 f5 f3 DG9.out.sub DW9.out.sub DG9.out.lt DW9.out.lt DG9.out.cap_le DW9.out.cap_le).mono ?_
  rintro e10 w10 ⟨rfl, hb⟩
  have e10 : Ext w9 w10 := hb
  have E10 := Lib.hid (E9.out.trans e10)
  have DW10 := Lib.hid (DW9.out.ext e10)
  have DG10 := Lib.hid (DG9.out.ext e10)
  have FG10 := Lib.hid (e10.fresh FG9.out)
  clear x0 x1 x2 x3 y0 y1 y2 y3 hb e10 E9 DW9 DG9 FG9
  obtain ⟨x0, x1, x2, x3⟩ := DG10.out.box
  go_wp2_with fail
  refine (HMG.out w10 a5 c5 f5 _ DG10.out.sub FG10.out DG10.out.cap_le).mono ?_
  rintro e11 w11 ⟨rfl, hs11, hO⟩
  have hG11 := DG10.out.marked hO (I5.out.out (Or.inr (Nat.le_refl _))) hs11
  have hx11 : Box w11 w5.heap.size o n t a5 k.len c5 := by have := hG11.box; rw [F.len_mk] at this; exact this
  have DG11 := Lib.hid (And.intro hG11 DG10.out.cap_le)
  have E11 := Lib.hid (E10.out.only hO (fun c hc => by have := I5.out c hc; have := R3.out; have := R4.out; omega))
  have DW11 := Lib.hid (DW10.out.only hO (I5.out.out (Or.inl (by have := R4.out; omega))) (I3.out.apart I5.out (Or.inl (by have := R4.out; omega))))
  clear x0 x1 x2 x3 hs11 hO hG11 E10 DW10 DG10 FG10
  obtain ⟨x0, x1, x2, x3⟩ := hx11
  go_wp2_with fail
  refine (HHG.out w11 a5 c5 f5 DG11.out.1.sub DG11.out.1.lt DG11.out.2).mono ?_
  rintro e12 w12 ⟨rfl, hb⟩
  have e12 : Ext w11 w12 := hb
  have E12 := Lib.hid (E11.out.trans e12)
  have DW12 := Lib.hid (DW11.out.ext e12)
  have DG12 := Lib.hid (And.intro (DG11.out.1.ext e12) DG11.out.2)
  clear x0 x1 x2 x3 hb e12 E11 DW11 DG11
  go_wp2_with fail
  refine (HTO.out _ E12.out).mono ?_
  rintro e13 w13 ⟨a13, f13, rfl, hs13, hfr13, hb⟩
  have e13 : Ext w12 w13 := hb
  have E13 := Lib.hid (E12.out.trans e13)
  have DW13 := Lib.hid (DW12.out.ext e13)
  have DG13 := Lib.hid (And.intro (DG12.out.1.ext e13) DG12.out.2)
  have K13 := Lib.hid hs13
  clear hb hs13 hfr13 e13 E12 DW12 DG12
  go_wp2_with fail
  refine (HIM.out _ a13 f13 K13.out).mono ?_
  rintro e14 w14 ⟨a14, c14, f14, rfl, hc14, hs14, hfr14, hb⟩
  simp only at hc14 hs14 ⊢
  have e14 : Ext w13 w14 := hb
  have E14 := Lib.hid (E13.out.trans e14)
  have DW14 := Lib.hid (DW13.out.ext e14)
  have DG14 := Lib.hid (And.intro (DG13.out.1.ext e14) DG13.out.2)
  have K14 := Lib.hid (And.intro hs14 (And.intro hfr14 hc14))
  clear hb hs14 hfr14 hc14 e14 E13 DW13 DG13 K13
  obtain ⟨y0, y1, y2, y3⟩ := DW14.out.box
  have ly := DW14.out.blt
  go_wp2_with fail
  refine (HEQ.out o n t k hks _ a14 a3 c14 c3 f14 f3 (by exact ((Ext.refl w14).alloc _).sub K14.out.1 K14.out.2.1.lt) (by exact ((Ext.refl w14).alloc _).sub DW14.out.sub DW14.out.lt) (fun c hc => by have := K14.out.2.1.lt c hc; simp; omega) (fun c hc => by have := DW14.out.lt c hc; simp; omega) K14.out.2.2 DW14.out.cap_le).mono ?_
  rintro e15 w15 ⟨rfl, hb⟩
  have e15 : Ext w14 w15 := ((Ext.refl w14).alloc _).trans hb
  have E15 := Lib.hid (E14.out.trans e15)
  have hG15 := DG14.out.1.ext e15
  have hx15 : Box w15 w5.heap.size o n t a5 k.len c5 := by have := hG15.box; rw [F.len_mk] at this; exact this
  have DG15 := Lib.hid (And.intro hG15 DG14.out.2)
  clear hb y0 y1 y2 y3 ly e15 hG15 E14 DW14 DG14 K14
  obtain ⟨x0, x1, x2, x3⟩ := hx15
  go_wp2_with fail
  refine (HHG.out w15 a5 c5 f5 DG15.out.1.sub DG15.out.1.lt DG15.out.2).mono ?_
  rintro e16 w16 ⟨rfl, hb⟩
  have E16 := Lib.hid (Ext.trans E15.out hb)
  clear x0 x1 x2 x3 hb E15 DG15
  go_wp2_with fail
  go_ret
  exact ⟨rfl, E16.out⟩

set_option maxRecDepth 100000 in
set_option maxHeartbeats 3200000 in
theorem walk_big (hs0 : LaySub w a0 l0 f0) (hc0 : l0.length ≤ c0) (hl0 : l0.length ≤ maxLen) (ht0 : L.Fits l0) (hbig : (1048576 : Int) < (L.size l0 : Int)) :
    Calls Try.prog 9 #[.slice a0 l0.length c0] w fun e w' => e = .returned (.bool true) ∧ Below w.heap.size w w' := by
  have hsz := fun (w1 : World) (h1 : Ext w w1) => LayL.szRowS l0 w1 a0 c0 f0 1048576 (hs0.below hs0.lt h1) hc0 hl0 ht0 (by omega) (by omega)
  rw [leftR_no hbig] at hsz
  have HS := Lib.hid hsz
  clear hsz hs0 hc0 hl0 ht0 hbig
  go_enter Try.func9, Try.ntmps9
  go_wp2_with fail
  refine (HS.out _ (Ext.refl w)).mono ?_
  rintro e1 w1 ⟨rfl, hb1⟩
  have HB := Lib.hid (show Below w.heap.size w w1 from hb1)
  clear hb1
  go_wp2_with fail
  go_ret
  exact ⟨rfl, HB.out⟩

theorem walk (hs0 : LaySub w a0 l0 f0) (hc0 : l0.length ≤ c0) (hl0 : l0.length ≤ maxLen) (ht0 : L.Fits l0) :
    Calls Try.prog 9 #[.slice a0 l0.length c0] w fun e w' => e = .returned (.bool true) ∧ Below w.heap.size w w' := by
  by_cases h1 : (1048576 : Int) < (L.size l0 : Int)
  · exact walk_big w l0 a0 c0 f0 hs0 hc0 hl0 ht0 h1
  · exact walk_good w l0 a0 c0 f0 hs0 hc0 hl0 ht0 (by omega)
end

set_option maxRecDepth 100000 in
theorem lifted (os : Os) (started : os.Started) (H : Type) (enc : TypeId × Value → H) :
    ReturnsInHanded {} Try.checked os 9 .any (Rows.fnExactLayoutDocSpec.pre6 enc Try.prog Try.f9 Rows.fnExactLayoutDocRow.domain false) (Rows.fnExactLayoutDocSpec.post enc Try.prog Try.f9 false true false false) := by
  refine returnsInHanded_of_change (C := Try.checked) Facts.own started (by kernel_rfl) Try.func9
    (ChangeSpec.witness6 (enc := enc) (C := Try.checked) false ⟨#[], #[.slice none 0 0], []⟩ 8 (by kernel_rfl) (by kernel_rfl) (by kernel_rfl) (by kernel_rfl)) ?_
  intro W base args ds gs before hval0 hW hcnd0 _
  clear hcnd0
  have hval : ∀ (j : Nat) t v, Try.f9.params[j]? = some t → args[j]? = some v → Value.okWide Try.prog W .any base t v := hval0
  have hW' := hW
  obtain ⟨p, q, hA0, hV, rfl, hfz, hnd⟩ := hW
  have hA : DataW.TrodAll enc Try.prog W 0 (fun _ => true) true Try.f9.params.toList args.toList ds p := hA0
  rw [Try.params9] at hA hval
  obtain ⟨v0, d0, rfl, rfl, h0⟩ := trodAll_one hA
  obtain ⟨rfl, rfl⟩ := trodVars_none hV
  obtain ⟨l0, a0, c0, f0, rfl, ht0, hl0, hc0, hs0⟩ := OpenL.open_rows (hval 0 43 v0 rfl rfl) h0
  clear hA0 hval0
  simp only [List.append_nil] at hW'
  have hlt : ∀ x ∈ p, x.block < W.heap.size := fun x hx => by simpa using hW'.lt x hx
  refine (walk W l0 a0 c0 f0 hs0 hc0 hl0 ht0).mono fun e W' ⟨he, hb⟩ => ?_
  subst he
  refine ⟨_, rfl, [d0], [], p, [], p, [], hW', trodAll_mk1 (shut_bool Try.underlying4 _), ?_, rfl, hb.frame _, fun h => by cases h⟩
  exact trodAll_mk1 (Below.trod Facts.laidOut (by kernel_rfl) (of_decide_eq_true (by kernel_rfl)) h0 hb hlt)

theorem named : Try.prog.funcNamed Rows.fnExactLayoutDocRow.func = some 9 := by kernel_rfl
theorem closed : joinedFacts Try.prog 9 Try.f9 Rows.fnExactLayoutDocSpec Rows.fnExactLayoutDocRow = true :=
  Facts.closed_of rfl rfl rfl rfl (h28b := rfl) (by kernel_rfl) (by kernel_rfl) (by kernel_rfl) (by kernel_rfl) (by kernel_rfl) (by kernel_rfl) (by kernel_rfl) (by kernel_rfl) (by kernel_rfl) (by kernel_rfl) (by kernel_rfl) (by kernel_rfl) (by kernel_rfl) (by kernel_rfl) (by kernel_rfl) (by kernel_rfl) (by kernel_rfl) (by kernel_rfl) (by kernel_rfl) (by kernel_rfl) (by kernel_rfl) (by kernel_rfl) (by kernel_rfl) (by kernel_rfl)
theorem instanced : Try.f9.isInstance Try.prog Rows.fnExactLayoutDocRow.origin Rows.fnExactLayoutDocRow.targs := of_decide_eq_true (by kernel_rfl)
theorem wrapped : Try.f9.isWrapper Try.prog Rows.fnExactLayoutDocRow.wrapper Rows.fnExactLayoutDocRow.mainSum := by
  unfold Func.isWrapper
  rw [if_neg (of_decide_eq_false (by kernel_rfl))]
  exact ⟨rfl, rfl⟩

theorem holds : Rows.FnExactLayoutDocSaid :=
  OpenClaim.holds_of_wide 9 Try.f9 rfl rfl rfl rfl rfl rfl rfl ⟨rfl, rfl, rfl, rfl, rfl⟩ rfl rfl rfl rfl rfl named Try.func9 closed instanced wrapped
    (fun os started H enc _ => lifted os started H enc)

end Go.Proofs.Ytmkibpimjaofgaa.lawLayoutDoc

