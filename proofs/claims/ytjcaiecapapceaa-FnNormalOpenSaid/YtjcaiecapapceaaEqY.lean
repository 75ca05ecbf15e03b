import Derived.Test.YtjcaiecapapceaaOpX
/-
 What the walks over two documents share: a document in memory, the variables of two documents.
-/
set_option linter.unusedVariables false
set_option linter.unusedSimpArgs false
set_option maxRecDepth 100000
set_option maxHeartbeats 3200000
namespace Go.Proofs.Ytjcaiecapapceaa.Eqd
open Go.RowKit P1
structure DocIn (w : World) (t : ByteArray) (k : F) (a : Option Addr) (cap : Nat) (fs : List Nat) : Prop where
 sub : SubAt w a k fs
 ok : ∀ c ∈ fs, c < w.heap.size ∧ ∀ o, w.frozen? ⟨c, o, none⟩ = false
 cap_le : k.len ≤ cap
 size : t.size + k.size ≤ 2000000
 fits : k.Fits
 tfit : t.size ≤ maxLen
theorem DocIn.ext {w w' : World} {t : ByteArray} {k : F} {a : Option Addr} {cap : Nat} {fs : List Nat} (h : DocIn w t k a cap fs) (e : Ext w w') : DocIn w' t k a cap fs :=
 ⟨e.sub h.sub (fun c hc => (h.ok c hc).1), fun c hc => ⟨Nat.lt_of_lt_of_le (h.ok c hc).1 e.size, fun o => (e.frozen (h.ok c hc).1).trans ((h.ok c hc).2 o)⟩, h.cap_le, h.size, h.fits, h.tfit⟩
theorem DocIn.lt {w : World} {t : ByteArray} {k : F} {a : Option Addr} {cap : Nat} {fs : List Nat} (h : DocIn w t k a cap fs) : ∀ c ∈ fs, c < w.heap.size := fun c hc => (h.ok c hc).1
abbrev Fr (b : Nat) (u0 u1 u2 u3 : Value) (w : World) : Prop := w.cell? ⟨b, 0, none⟩ = some u0 ∧ w.cell? ⟨b, 1, none⟩ = some u1 ∧ w.cell? ⟨b, 2, none⟩ = some u2 ∧ w.cell? ⟨b, 3, none⟩ = some u3
theorem Fr.below {b B : Nat} {u0 u1 u2 u3 : Value} {W w' : World} (h : Fr b u0 u1 u2 u3 W) (k : Below B W w') (hb : b < B) : Fr b u0 u1 u2 u3 w' :=
 ⟨(k.cell (p := ⟨_, _, _⟩) hb).trans h.1, (k.cell (p := ⟨_, _, _⟩) hb).trans h.2.1, (k.cell (p := ⟨_, _, _⟩) hb).trans h.2.2.1, (k.cell (p := ⟨_, _, _⟩) hb).trans h.2.2.2⟩
theorem Fr.new (w : World) (u0 u1 u2 u3 : Value) (T : TypeId) : Fr w.heap.size u0 u1 u2 u3 (w.alloc (.cells #[u0, u1, u2, u3] T)) := by
 refine ⟨?_, ?_, ?_, ?_⟩ <;> (rw [World.cell?_alloc_new]; rfl)
theorem two_new (w : World) (u0 u1 u2 u3 v0 v1 v2 v3 : Value) (T : TypeId) {w' : World} (k : Ext ((w.alloc (.cells #[u0, u1, u2, u3] T)).alloc (.cells #[v0, v1, v2, v3] T)) w') : Fr w.heap.size u0 u1 u2 u3 w' ∧ Fr (w.heap.size + 1) v0 v1 v2 v3 w' ∧ Ext w w' := by
 have e : (w.alloc (.cells #[u0, u1, u2, u3] T)).heap.size = w.heap.size + 1 := by simp
 have h1 := Fr.new w u0 u1 u2 u3 T
 have h2 := Fr.new (w.alloc (.cells #[u0, u1, u2, u3] T)) v0 v1 v2 v3 T
 rw [e] at h2
 exact ⟨(h1.below ((Below.refl _ _).alloc (Nat.le_refl _) _) (by simp)).below k (by simp; omega), h2.below k (by simp), Ext.trans (((Ext.refl w).alloc _).alloc _) k⟩
end Go.Proofs.Ytjcaiecapapceaa.Eqd
namespace Go.Proofs.Ytjcaiecapapceaa.Eqd
open Go.RowKit P1 LayL LayV LayM LayN OpenR
def sameOp (o n : Int) (t : ByteArray) (k : F) (o' n' : Int) (t' : ByteArray) (k' : F) : Bool := (openRes o n t k).2 && ((openRes o' n' t' k').2 && decide ((openRes o n t k).1 = (openRes o' n' t' k').1))
theorem open_pair (o n : Int) (t : ByteArray) (k : F) : openRes o n t k = (if validD o n t k then openD o n t k else [], validD o n t k) := by
 cases h : validD o n t k with
 | true => rw [openRes_yes h]; rfl
 | false => rw [openRes_no h]; rfl
theorem implSameOpen (w : World) (o0 n0 : Int) (t0 : ByteArray) (k0 : F) (a0 : Option Addr) (c0 : Nat) (f0 : List Nat) (h0 : DocIn w t0 k0 a0 c0 f0) (o1 n1 : Int) (t1 : ByteArray) (k1 : F) (a1 : Option Addr) (c1 : Nat) (f1 : List Nat) (h1 : DocIn w t1 k1 a1 c1 f1) :
  Calls Try.prog 24 #[.agg #[.int .i64 o0, .int .i64 n0, .string t0, .slice a0 k0.len c0], .agg #[.int .i64 o1, .int .i64 n1, .string t1, .slice a1 k1.len c1]] w fun e w' => e = .returned (.bool (sameOp o0 n0 t0 k0 o1 n1 t1 k1)) ∧ Below w.heap.size w w' := by
 have hA := fun (W : World) (e : Ext w W) => (implOpenLayout W o0 n0 t0 k0 a0 c0 f0 (h0.ext e).sub (h0.ext e).lt (h0.ext e).cap_le (by have := h0.size; omega) h0.fits h0.tfit).mono fun _ _ g => LayRes.out (by rwa [open_pair] at g)
 have hB := fun (W : World) (e : Ext w W) => (implOpenLayout W o1 n1 t1 k1 a1 c1 f1 (h1.ext e).sub (h1.ext e).lt (h1.ext e).cap_le (by have := h1.size; omega) h1.fits h1.tfit).mono fun _ _ g => LayRes.out (by rwa [open_pair] at g)
 have hgx : (openRes o0 n0 t0 k0).1.length ≤ maxLen := by have := openRes_len o0 n0 t0 k0; unfold maxLen; omega
 have hgy : (openRes o1 n1 t1 k1).1.length ≤ maxLen := by have := openRes_len o1 n1 t1 k1; unfold maxLen; omega
 unfold sameOp
 rw [open_pair] at hgx hgy
 rw [open_pair o0, open_pair o1]
 obtain ⟨p0, hp0⟩ : ∃ p, validD o0 n0 t0 k0 = p := ⟨_, rfl⟩
 obtain ⟨p1, hp1⟩ : ∃ p, validD o1 n1 t1 k1 = p := ⟨_, rfl⟩
 rw [hp0] at hA hgx
 rw [hp1] at hB hgy
 rw [hp0, hp1]
 obtain ⟨X, hX⟩ : ∃ X : List (Int × ByteArray), (if p0 = true then openD o0 n0 t0 k0 else []) = X := ⟨_, rfl⟩
 obtain ⟨Y, hY⟩ : ∃ Y : List (Int × ByteArray), (if p1 = true then openD o1 n1 t1 k1 else []) = Y := ⟨_, rfl⟩
 rw [hX] at hA hgx
 rw [hY] at hB hgy
 rw [hX, hY]
 simp only at hgx hgy ⊢
 have HT := Lib.hid (fun (w' : World) => two_new w (.int .i64 o0) (.int .i64 n0) (.string t0) (.slice a0 k0.len c0) (.int .i64 o1) (.int .i64 n1) (.string t1) (.slice a1 k1.len c1) 25 (w' := w'))
 have HE := Lib.hid (show ∀ x y, Ext w ((w.alloc x).alloc y) from fun x y => ((Ext.refl w).alloc x).alloc y)
 obtain ⟨WW, hWW⟩ : ∃ W, ((w.alloc (.cells #[.int .i64 o0, .int .i64 n0, .string t0, .slice a0 k0.len c0] 25)).alloc (.cells #[.int .i64 o1, .int .i64 n1, .string t1, .slice a1 k1.len c1] 25)) = W := ⟨_, rfl⟩
 rw [hWW] at HT
 have hzz : w.heap.size + 1 < WW.heap.size := by rw [← hWW]; simp
 have HX0 := Lib.hid (show Ext w WW by rw [← hWW]; exact HE.out _ _)
 obtain ⟨L0, hL0⟩ : ∃ L, k0.len = L := ⟨_, rfl⟩
 obtain ⟨L1, hL1⟩ : ∃ L, k1.len = L := ⟨_, rfl⟩
 rw [hL0, hL1] at HT hWW ⊢
 have HWW := Lib.hid hWW
 clear hWW
 rw [hL0] at hA
 rw [hL1] at hB
 have HA := Lib.hid hA
 have HB := Lib.hid hB
 have HG := Lib.hid (And.intro hgx hgy)
 clear hA hB hX hY hp0 hp1 hL0 hL1 h0 h1 hgx hgy
 cases p0 <;> cases p1
 all_goals
  go_enter Try.func24, Try.ntmps24
  go_wp2_with fail
  try rw [HWW.out]
  refine (HA.out _ HX0.out).mono ?_
  rintro e1 w1 ⟨x1, y1, g1, rfl, hc1', hs1, hF1, hb1⟩
  have K1 := Lib.hid (show Ext WW w1 from hb1)
  have H1 := Lib.hid (And.intro hs1 hc1')
  clear hb1 hs1 hF1 hc1'
  obtain ⟨⟨u0, u1, u2, u3⟩, ⟨v0, v1, v2, v3⟩, hex⟩ := HT.out _ K1.out
  have HX1 := Lib.hid hex
  clear hex
  obtain ⟨m, hm⟩ : ∃ m, X.length = m := ⟨_, rfl⟩
  rw [hm]
  go_wp2_with fail
  refine (HB.out _ HX1.out).mono ?_
  rintro e2 w2 ⟨x2, y2, g2, rfl, hc2', hs2, hF2, hb2⟩
  have K2 := Lib.hid (Ext.trans HX1.out hb2)
  have hsame := LaySm.implLayoutSame X Y w2 x1 y1 g1 (H1.out.1.below H1.out.1.lt hb2) x2 y2 g2 hs2 H1.out.2 hc2' HG.out.1 HG.out.2
  clear hb2 hs2 hF2 hc2' u0 u1 u2 u3 v0 v1 v2 v3
  obtain ⟨m2, hm2⟩ : ∃ m, Y.length = m := ⟨_, rfl⟩
  rw [hm2]
  rw [hm, hm2] at hsame
  have HSM := Lib.hid hsame
  clear hsame hm hm2
  go_wp2_with fail
  first
   | (refine HSM.out.mono ?_
      rintro e3 w3 ⟨rfl, hb3⟩
      have K3 := Lib.hid (Ext.trans K2.out hb3)
      clear hb3
      go_wp2_with fail
      go_ret
      exact ⟨by simp, K3.out⟩)
   | (go_ret
      exact ⟨rfl, K2.out⟩)
end Go.Proofs.Ytjcaiecapapceaa.Eqd
