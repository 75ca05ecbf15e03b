import Derived.Test.YtjcaiecapapceaaGreatEqK
import Derived.Test.YtjcaiecapapceaaGreatLsX
/-
 The first layout of a list that another list has not; OnlyLayout and SameLayouts of the program.
-/
set_option linter.unusedVariables false
set_option linter.unusedSimpArgs false
set_option maxRecDepth 100000
set_option maxHeartbeats 3200000
namespace Go.Proofs.YtjcaiecapapceaaGreat.Eqd
open Go.RowKit P1 LayL LayV LayM LayN It
open Ls hiding Lay
def onlyR : List Ls.Lay → List Ls.Lay → Ls.Lay × Bool
 | [], _ => ([], false)
 | x :: xs, ys => if inL ys x then onlyR xs ys else (x, true)
theorem only_yes : ∀ {xs ys : List Ls.Lay} {k : Nat} (hk : k < xs.length), (∀ j, (hj : j < xs.length) → j < k → inL ys xs[j] = true) → inL ys xs[k] = false → onlyR xs ys = (xs[k], true) := by
 intro xs
 induction xs with
 | nil => intro ys k hk; simp at hk
 | cons x xs ih =>
   intro ys k hk h1 h2
   cases k with
   | zero => show (if inL ys x then _ else _) = _; rw [if_neg (by simpa using h2)]; rfl
   | succ k =>
     have h0 := h1 0 (by simp) (by omega)
     show (if inL ys x then _ else _) = _
     rw [if_pos (by simpa using h0)]
     exact ih (by simpa using hk) (fun j hj hjk => h1 (j + 1) (by simp; omega) (by omega)) (by simpa using h2)
theorem only_no : ∀ {xs ys : List Ls.Lay}, (∀ j, (hj : j < xs.length) → inL ys xs[j] = true) → onlyR xs ys = ([], false) := by
 intro xs
 induction xs with
 | nil => intro ys _; rfl
 | cons x xs ih =>
   intro ys h
   have h0 := h 0 (by simp)
   show (if inL ys x then _ else _) = _
   rw [if_pos (by simpa using h0)]
   exact ih (fun j hj => h (j + 1) (by simp; omega))
def onlyLay (o n : Int) (t : ByteArray) (k : F) (o' n' : Int) (t' : ByteArray) (k' : F) : Ls.Lay × Bool := if (toldD o n t k && toldD o' n' t' k') = true then onlyR (laysD o n t k) (laysD o' n' t' k') else ([], false)
def sameLay (o n : Int) (t : ByteArray) (k : F) (o' n' : Int) (t' : ByteArray) (k' : F) : Bool := (toldD o n t k && toldD o' n' t' k') && (!(onlyR (laysD o n t k) (laysD o' n' t' k')).2 && !(onlyR (laysD o' n' t' k') (laysD o n t k)).2)
theorem notIn (ys : List Ls.Lay) (l : Ls.Lay) (hg : ∀ x ∈ ys, x.length ≤ maxLen) (w : World) (a : Option Addr) (cap : Nat) (fs : List Nat) (hs : LLSub w a ys fs) (hc : ys.length ≤ cap) (hn : ys.length ≤ 1000000) (b : Nat) (a' : Option Addr) (cap' : Nat) (fs' : List Nat) (hs' : LaySub w a' l fs') (hc' : l.length ≤ cap') (hl : l.length ≤ maxLen) (hb : w.cell? ⟨b, 0, none⟩ = some (.slice a ys.length cap)) :
  Calls Tryz.prog 118 #[.slice a' l.length cap', .pointer (some ⟨b, 0, none⟩)] w fun e w' => e = .returned (.bool (!inL ys l)) ∧ Below w.heap.size w w' := by
 have H := Lib.hid (containsLayout ys l hg w a cap fs hs hc hn a' cap' fs' hs' hc' hl)
 clear hs hs'
 go_enter Tryz.func118, Tryz.ntmps118
 go_wp2_with fail
 refine H.out.mono ?_
 rintro e1 w1 ⟨rfl, hb1⟩
 have H1 := Lib.hid hb1
 clear hb1 hb
 go_wp2_with fail
 go_ret
 exact ⟨rfl, H1.out⟩
def IdxOut (w : World) (xs ys : List Ls.Lay) (e : Ending) (w' : World) : Prop := ∃ r : Int, e = .returned (.int .i64 r) ∧ ((r = -1 ∧ onlyR xs ys = ([], false)) ∨ ∃ (k : Nat) (hk : k < xs.length), r = (k : Int) ∧ onlyR xs ys = (xs[k], true)) ∧ Below w.heap.size w w'
theorem indexOnly (xs ys : List Ls.Lay) (hgx : ∀ x ∈ xs, x.length ≤ maxLen) (hgy : ∀ x ∈ ys, x.length ≤ maxLen) (w : World) (a : Option Addr) (cap : Nat) (fs : List Nat) (hs : LLSub w a xs fs) (hc : xs.length ≤ cap) (hn : xs.length ≤ 1000000) (b : Nat) (a' : Option Addr) (cap' : Nat) (fs' : List Nat) (hs' : LLSub w a' ys fs') (hc' : ys.length ≤ cap') (hn' : ys.length ≤ 1000000) (hb : w.cell? ⟨b, 0, none⟩ = some (.slice a' ys.length cap')) (hbw : b < w.heap.size) :
  Calls Tryz.prog 117 #[.slice a xs.length cap, .func (.func 118) #[] #[.pointer (some ⟨b, 0, none⟩)]] w (IdxOut w xs ys) := by
 have HR := Lib.hid (show ∀ W, Below w.heap.size w W → ∀ k, (h : k < xs.length) → ∃ bb off a1 c1, a = some ⟨bb, off, none⟩ ∧ bb < W.heap.size ∧ W.cell? ⟨bb, off + k, none⟩ = some (.slice a1 xs[k].length c1) ∧ Calls Tryz.prog 118 #[.slice a1 xs[k].length c1, .pointer (some ⟨b, 0, none⟩)] W fun e w' => e = .returned (.bool (!inL ys xs[k])) ∧ Below W.heap.size W w' from fun W hW k h => by
  obtain ⟨bb, off, a1, c1, f1, ha, hbb, hcell, hc1, hs1, _⟩ := (hs.below hs.lt hW).get h
  exact ⟨bb, off, a1, c1, ha, hbb, hcell, notIn ys xs[k] hgy W a' cap' fs' (hs'.below hs'.lt hW) hc' hn' b a1 c1 f1 hs1 hc1 (hgx _ (List.getElem_mem h)) ((hW.cell (p := ⟨b, 0, none⟩) hbw).trans hb)⟩)
 obtain ⟨m, hm⟩ : ∃ m, xs.length = m := ⟨_, rfl⟩
 have HM := Lib.hid hm
 rw [hm] at hc hn ⊢
 clear hm hs hs' hb hgx hgy hc' hn'
 go_enter Tryz.func117, Tryz.ntmps117
 go_wp2_with fail
 go_loopw [8] (fun i wr => ∃ (k : Nat), k ≤ m ∧ i = .int .i64 k ∧ Hid (∀ j, (hj : j < xs.length) → j < k → inL ys xs[j] = true) ∧ Below w.heap.size w wr) (fun i _ => m - (intOf i).toNat)
 case atStart => exact ⟨0, Nat.zero_le _, rfl, Lib.hid (fun j _ (h : j < 0) => absurd h (Nat.not_lt_zero j)), Below.refl _ _⟩
 case round =>
  obtain ⟨k, hk, rfl, HN, hbk⟩ := hrel
  by_cases hkm : k < m
  ·have hkl : k < xs.length := by rw [HM.out]; exact hkm
   obtain ⟨bb, off, a1, c1, rfl, hbb, hcell, hcall⟩ := HR.out wr hbk k hkl
   have HC := Lib.hid hcall
   obtain ⟨len1, hlen1⟩ : ∃ n, (xs[k]).length = n := ⟨_, rfl⟩
   rw [hlen1] at hcell HC
   cases he : inL ys xs[k] with
   | false =>
     rw [he] at HC
     have HY := Lib.hid (only_yes hkl HN.out he)
     have HB := Lib.hid hbk
     have HKL := Lib.hid hkl
     clear hcall hlen1 hbk he
     go_wp2_with fail
     refine HC.out.mono ?_
     rintro e1 w1 ⟨rfl, hb1⟩
     have H1 := Lib.hid (HB.out.trans (hb1.mono HB.out.size))
     clear hb1 hcell hbb
     go_wp2_with fail
     go_ret
     exact ⟨_, rfl, Or.inr ⟨k, HKL.out, rfl, HY.out⟩, H1.out⟩
   | true =>
     rw [he] at HC
     have HE := Lib.hid he
     have HB := Lib.hid hbk
     clear hcall hlen1 hbk he
     go_wp2_with fail
     refine HC.out.mono ?_
     rintro e1 w1 ⟨rfl, hb1⟩
     have H1 := Lib.hid (HB.out.trans (hb1.mono HB.out.size))
     clear hb1 hcell hbb
     go_wp2_with fail
     go_roundw
     case rel => exact ⟨k + 1, by omega, by go_num, Lib.hid (fun j hj h => by
      by_cases hjk : j < k
      ·exact HN.out j hj hjk
      ·obtain rfl : j = k := by omega
       exact HE.out), H1.out⟩
     case measure => simp [intOf]; omega
  ·have hF := Lib.hid (only_no (fun j hj => HN.out j hj (by have := HM.out; omega)))
   go_wp2_with fail
   go_ret
   exact ⟨_, rfl, Or.inl ⟨rfl, hF.out⟩, hbk⟩
def OneOf (w : World) (fs : List Nat) (r : Ls.Lay × Bool) (e : Ending) (w' : World) : Prop := ∃ (a : Option Addr) (cap : Nat) (f : List Nat), e = .returned (.tuple #[.slice a r.1.length cap, .bool r.2]) ∧ r.1.length ≤ cap ∧ LaySub w' a r.1 f ∧ (∀ c ∈ f, c ∈ fs) ∧ Below w.heap.size w w'
theorem firstOnly (xs ys : List Ls.Lay) (hgx : ∀ x ∈ xs, x.length ≤ maxLen) (hgy : ∀ x ∈ ys, x.length ≤ maxLen) (w : World) (a : Option Addr) (cap : Nat) (fs : List Nat) (hs : LLSub w a xs fs) (hc : xs.length ≤ cap) (hn : xs.length ≤ 1000000) (a' : Option Addr) (cap' : Nat) (fs' : List Nat) (hs' : LLSub w a' ys fs') (hc' : ys.length ≤ cap') (hn' : ys.length ≤ 1000000) :
  Calls Tryz.prog 67 #[.slice a xs.length cap, .slice a' ys.length cap'] w (OneOf w fs (onlyR xs ys)) := by
 have H := Lib.hid (fun (T : TypeId) => indexOnly xs ys hgx hgy (w.alloc (.cells #[.slice a' ys.length cap'] T)) a cap fs (hs.below hs.lt ((Ext.refl w).alloc _)) hc hn w.heap.size a' cap' fs' (hs'.below hs'.lt ((Ext.refl w).alloc _)) hc' hn' (by rw [World.cell?_alloc_new]; rfl) (by simp))
 have HR := Lib.hid (show ∀ W, Ext w W → ∀ k, (h : k < xs.length) → ∃ bb off a1 c1 f1, a = some ⟨bb, off, none⟩ ∧ bb < W.heap.size ∧ W.cell? ⟨bb, off + k, none⟩ = some (.slice a1 xs[k].length c1) ∧ xs[k].length ≤ c1 ∧ LaySub W a1 xs[k] f1 ∧ (∀ c ∈ f1, c ∈ fs) from fun W hW k h => (hs.ext hW).get h)
 have B1 := Lib.hid (show ∀ ob, Ext w (w.alloc ob) from fun ob => (Ext.refl w).alloc _)
 obtain ⟨m, hm⟩ : ∃ m, xs.length = m := ⟨_, rfl⟩
 obtain ⟨m', hm'⟩ : ∃ m', ys.length = m' := ⟨_, rfl⟩
 have HM := Lib.hid hm
 rw [hm, hm'] at H
 rw [hm'] at hc' hn' ⊢
 rw [hm] at hc hn ⊢
 clear hs hs' hgx hgy hm hm'
 go_enter Tryz.func67, Tryz.ntmps67
 go_wp2_with fail
 refine (H.out _).mono ?_
 rintro e1 w1 ⟨r, rfl, hr, hb1⟩
 have H1 := Lib.hid ((B1.out _).trans hb1)
 rcases hr with ⟨rfl, hr⟩ | ⟨k, hk, rfl, hr⟩
 ·have HQ := Lib.hid hr
  clear hb1 hr
  go_wp2_with fail
  go_ret2
  rw [HQ.out]
  exact ⟨none, 0, [], rfl, Nat.le_refl _, .inl ⟨rfl, rfl⟩, fun c hc => absurd hc (by simp), H1.out⟩
 ·obtain ⟨bb, off, a1, c1, f1, rfl, hbb, hcell, hc1, hs1, hm1⟩ := HR.out w1 H1.out k hk
  have HQ := Lib.hid (And.intro hr (And.intro hc1 (And.intro hs1 hm1)))
  have hkm : k < m := by have := HM.out; omega
  obtain ⟨len1, hlen1⟩ : ∃ n, (xs[k]).length = n := ⟨_, rfl⟩
  rw [hlen1] at hcell
  have HL := Lib.hid hlen1
  have i0 : (0 : Int) ≤ (k : Int) := Int.natCast_nonneg _
  have i1 : (k : Int) < (m : Int) := by omega
  clear hb1 hr hc1 hs1 hm1 hlen1
  go_wp2_with fail
  go_ret2
  obtain ⟨h1, h2, h3, h4⟩ := HQ.out
  rw [h1, ← HL.out]
  exact ⟨a1, c1, f1, rfl, h2, h3, h4, H1.out⟩
theorem implOnlyLayout (w : World) (o0 n0 : Int) (t0 : ByteArray) (k0 : F) (a0 : Option Addr) (c0 : Nat) (f0 : List Nat) (h0 : DocIn w t0 k0 a0 c0 f0) (o1 n1 : Int) (t1 : ByteArray) (k1 : F) (a1 : Option Addr) (c1 : Nat) (f1 : List Nat) (h1 : DocIn w t1 k1 a1 c1 f1) :
  Calls Tryz.prog 30 #[.agg #[.int .i64 o0, .int .i64 n0, .string t0, .slice a0 k0.len c0], .agg #[.int .i64 o1, .int .i64 n1, .string t1, .slice a1 k1.len c1]] w (LayRes w (onlyLay o0 n0 t0 k0 o1 n1 t1 k1)) := by
 have hA := fun (W : World) (e : Ext w W) => It.implLayoutsOf W o0 n0 t0 k0 a0 c0 f0 (h0.ext e).sub (h0.ext e).ok (h0.ext e).cap_le (h0.ext e).size (h0.ext e).fits (h0.ext e).tfit
 have hB := fun (W : World) (e : Ext w W) => It.implLayoutsOf W o1 n1 t1 k1 a1 c1 f1 (h1.ext e).sub (h1.ext e).ok (h1.ext e).cap_le (h1.ext e).size (h1.ext e).fits (h1.ext e).tfit
 have hgx := good_len (lays_good (o := o0) (n := n0) (t := t0) (k := k0))
 have hgy := good_len (lays_good (o := o1) (n := n1) (t := t1) (k := k1))
 have hnx := lays_len o0 n0 t0 k0
 have hny := lays_len o1 n1 t1 k1
 unfold onlyLay
 obtain ⟨X, hX⟩ : ∃ X, laysD o0 n0 t0 k0 = X := ⟨_, rfl⟩
 obtain ⟨Y, hY⟩ : ∃ Y, laysD o1 n1 t1 k1 = Y := ⟨_, rfl⟩
 obtain ⟨p0, hp0⟩ : ∃ p, toldD o0 n0 t0 k0 = p := ⟨_, rfl⟩
 obtain ⟨p1, hp1⟩ : ∃ p, toldD o1 n1 t1 k1 = p := ⟨_, rfl⟩
 rw [hX] at hA hgx hnx
 rw [hY] at hB hgy hny
 rw [hp0] at hA
 rw [hp1] at hB
 rw [hX, hY, hp0, hp1]
 have HT := Lib.hid (fun (w' : World) => two_new w (.int .i64 o0) (.int .i64 n0) (.string t0) (.slice a0 k0.len c0) (.int .i64 o1) (.int .i64 n1) (.string t1) (.slice a1 k1.len c1) 25 (w' := w'))
 have HE := Lib.hid (show ∀ x y, Ext w ((w.alloc x).alloc y) from fun x y => ((Ext.refl w).alloc x).alloc y)
 obtain ⟨L0, hL0⟩ : ∃ L, k0.len = L := ⟨_, rfl⟩
 obtain ⟨L1, hL1⟩ : ∃ L, k1.len = L := ⟨_, rfl⟩
 rw [hL0] at hA
 rw [hL1] at hB
 rw [hL0, hL1] at HT ⊢
 have HA := Lib.hid hA
 have HB := Lib.hid hB
 have HGX := Lib.hid (And.intro hgx hnx)
 have HGY := Lib.hid (And.intro hgy hny)
 clear hA hB hgx hgy hnx hny h0 h1 hX hY hp0 hp1 hL0 hL1
 by_cases hp : (p0 && p1) = true
 ·obtain ⟨rfl, rfl⟩ : p0 = true ∧ p1 = true := by simpa using hp
  clear hp
  rw [if_pos (by rfl : (true && true) = true)]
  obtain ⟨⟨R, q⟩, hR⟩ : ∃ r, onlyR X Y = r := ⟨_, rfl⟩
  rw [hR]
  have HR0 := Lib.hid hR
  clear hR
  go_enter Tryz.func30, Tryz.ntmps30
  go_wp2_with fail
  refine (HA.out _ (HE.out _ _)).mono ?_
  rintro e1 w1 ⟨x1, y1, g1, rfl, hc1', hs1, hF1, hb1⟩
  have H1 := Lib.hid (And.intro hs1 hF1)
  have K1 := Lib.hid (And.intro hb1 hc1')
  obtain ⟨⟨u0, u1, u2, u3⟩, ⟨v0, v1, v2, v3⟩, e1⟩ := HT.out _ hb1
  have E1 := Lib.hid e1
  clear hb1 hs1 hF1 hc1' e1
  obtain ⟨m, hm⟩ : ∃ m, X.length = m := ⟨_, rfl⟩
  rw [hm]
  go_wp2_with fail
  refine (HB.out _ E1.out).mono ?_
  rintro e2 w2 ⟨x2, y2, g2, rfl, hc2', hs2, hF2, hb2⟩
  have H2 := Lib.hid (And.intro hs2 (And.intro hF2 hc2'))
  have E2 := Lib.hid (Ext.trans E1.out hb2)
  have HS1 := Lib.hid (And.intro (H1.out.1.below H1.out.1.lt hb2) (H1.out.2.below H1.out.1.lt hb2))
  clear hb2 hs2 hF2 hc2' u0 u1 u2 u3 v0 v1 v2 v3
  obtain ⟨m2, hm2⟩ : ∃ m, Y.length = m := ⟨_, rfl⟩
  rw [hm2]
  have hfo := firstOnly X Y HGX.out.1 HGY.out.1 w2 x1 y1 g1 HS1.out.1 K1.out.2 (by have := HGX.out.2; omega) x2 y2 g2 H2.out.1 H2.out.2.2 (by have := HGY.out.2; omega)
  rw [hm, hm2] at hfo
  have HFO := Lib.hid hfo
  clear hfo hm hm2
  rw [HR0.out] at HFO
  go_wp2_with fail
  refine HFO.out.mono ?_
  rintro e3 w3 ⟨a3, c3, f3, rfl, hc3, hs3, hm3, hb3⟩
  have H3 := Lib.hid (And.intro hc3 (And.intro hs3 (And.intro hm3 hb3)))
  clear hc3 hs3 hm3 hb3
  go_wp2_with fail
  go_ret2
  obtain ⟨hc3, hs3, hm3, hb3⟩ := H3.out
  refine ⟨a3, c3, f3, rfl, hc3, hs3, lay_fresh hs3 hm3 ((HS1.out.2.mono ?_).below HS1.out.1.lt hb3), Ext.trans E2.out hb3⟩
  simp; omega
 ·have hq : (p0 && p1) = false := by simpa using hp
  rw [if_neg hp]
  clear hp
  cases p0 <;> cases p1 <;> first | (exact absurd hq (by decide)) | skip
  all_goals
   clear hq
   go_enter Tryz.func30, Tryz.ntmps30
   go_wp2_with fail
   refine (HA.out _ (HE.out _ _)).mono ?_
   rintro e1 w1 ⟨x1, y1, g1, rfl, hc1', hs1, hF1, hb1⟩
   have H1 := Lib.hid (And.intro hs1 hF1)
   have K1 := Lib.hid (And.intro hb1 hc1')
   obtain ⟨⟨u0, u1, u2, u3⟩, ⟨v0, v1, v2, v3⟩, e1⟩ := HT.out _ hb1
   have E1 := Lib.hid e1
   clear hb1 hs1 hF1 hc1' e1
   obtain ⟨m, hm⟩ : ∃ m, X.length = m := ⟨_, rfl⟩
   rw [hm]
   go_wp2_with fail
   refine (HB.out _ E1.out).mono ?_
   rintro e2 w2 ⟨x2, y2, g2, rfl, hc2', hs2, hF2, hb2⟩
   have H2 := Lib.hid (And.intro hs2 (And.intro hF2 hc2'))
   have E2 := Lib.hid (Ext.trans E1.out hb2)
   have HS1 := Lib.hid (And.intro (H1.out.1.below H1.out.1.lt hb2) (H1.out.2.below H1.out.1.lt hb2))
   clear hb2 hs2 hF2 hc2' u0 u1 u2 u3 v0 v1 v2 v3
   obtain ⟨m2, hm2⟩ : ∃ m, Y.length = m := ⟨_, rfl⟩
   rw [hm2]
   clear hm hm2
   go_wp2_with fail
   go_ret2
   exact ⟨none, 0, [], rfl, Nat.le_refl _, .inl ⟨rfl, rfl⟩, Fresh.nil _ _, E2.out⟩
theorem implSameLayouts (w : World) (o0 n0 : Int) (t0 : ByteArray) (k0 : F) (a0 : Option Addr) (c0 : Nat) (f0 : List Nat) (h0 : DocIn w t0 k0 a0 c0 f0) (o1 n1 : Int) (t1 : ByteArray) (k1 : F) (a1 : Option Addr) (c1 : Nat) (f1 : List Nat) (h1 : DocIn w t1 k1 a1 c1 f1) :
  Calls Tryz.prog 27 #[.agg #[.int .i64 o0, .int .i64 n0, .string t0, .slice a0 k0.len c0], .agg #[.int .i64 o1, .int .i64 n1, .string t1, .slice a1 k1.len c1]] w fun e w' => e = .returned (.bool (sameLay o0 n0 t0 k0 o1 n1 t1 k1)) ∧ Below w.heap.size w w' := by
 have hA := fun (W : World) (e : Ext w W) => It.implLayoutsOf W o0 n0 t0 k0 a0 c0 f0 (h0.ext e).sub (h0.ext e).ok (h0.ext e).cap_le (h0.ext e).size (h0.ext e).fits (h0.ext e).tfit
 have hB := fun (W : World) (e : Ext w W) => It.implLayoutsOf W o1 n1 t1 k1 a1 c1 f1 (h1.ext e).sub (h1.ext e).ok (h1.ext e).cap_le (h1.ext e).size (h1.ext e).fits (h1.ext e).tfit
 have hgx := good_len (lays_good (o := o0) (n := n0) (t := t0) (k := k0))
 have hgy := good_len (lays_good (o := o1) (n := n1) (t := t1) (k := k1))
 have hnx := lays_len o0 n0 t0 k0
 have hny := lays_len o1 n1 t1 k1
 unfold sameLay
 obtain ⟨X, hX⟩ : ∃ X, laysD o0 n0 t0 k0 = X := ⟨_, rfl⟩
 obtain ⟨Y, hY⟩ : ∃ Y, laysD o1 n1 t1 k1 = Y := ⟨_, rfl⟩
 obtain ⟨p0, hp0⟩ : ∃ p, toldD o0 n0 t0 k0 = p := ⟨_, rfl⟩
 obtain ⟨p1, hp1⟩ : ∃ p, toldD o1 n1 t1 k1 = p := ⟨_, rfl⟩
 rw [hX] at hA hgx hnx
 rw [hY] at hB hgy hny
 rw [hp0] at hA
 rw [hp1] at hB
 rw [hX, hY, hp0, hp1]
 have HT := Lib.hid (fun (w' : World) => two_new w (.int .i64 o0) (.int .i64 n0) (.string t0) (.slice a0 k0.len c0) (.int .i64 o1) (.int .i64 n1) (.string t1) (.slice a1 k1.len c1) 25 (w' := w'))
 have HE := Lib.hid (show ∀ x y, Ext w ((w.alloc x).alloc y) from fun x y => ((Ext.refl w).alloc x).alloc y)
 obtain ⟨L0, hL0⟩ : ∃ L, k0.len = L := ⟨_, rfl⟩
 obtain ⟨L1, hL1⟩ : ∃ L, k1.len = L := ⟨_, rfl⟩
 rw [hL0] at hA
 rw [hL1] at hB
 rw [hL0, hL1] at HT ⊢
 have HA := Lib.hid hA
 have HB := Lib.hid hB
 have HGX := Lib.hid (And.intro hgx hnx)
 have HGY := Lib.hid (And.intro hgy hny)
 clear hA hB hgx hgy hnx hny h0 h1 hX hY hp0 hp1 hL0 hL1
 by_cases hp : (p0 && p1) = true
 ·obtain ⟨rfl, rfl⟩ : p0 = true ∧ p1 = true := by simpa using hp
  clear hp
  rw [show (true && true && (!(onlyR X Y).2 && !(onlyR Y X).2)) = (!(onlyR X Y).2 && !(onlyR Y X).2) by simp]
  obtain ⟨⟨R, q⟩, hR⟩ : ∃ r, onlyR X Y = r := ⟨_, rfl⟩
  obtain ⟨⟨R', q'⟩, hR'⟩ : ∃ r, onlyR Y X = r := ⟨_, rfl⟩
  rw [hR, hR']
  have HR0 := Lib.hid hR
  have HR1 := Lib.hid hR'
  clear hR hR'
  go_enter Tryz.func27, Tryz.ntmps27
  go_wp2_with fail
  refine (HA.out _ (HE.out _ _)).mono ?_
  rintro e1 w1 ⟨x1, y1, g1, rfl, hc1', hs1, hF1, hb1⟩
  have H1 := Lib.hid (And.intro hs1 hF1)
  have K1 := Lib.hid (And.intro hb1 hc1')
  obtain ⟨⟨u0, u1, u2, u3⟩, ⟨v0, v1, v2, v3⟩, e1⟩ := HT.out _ hb1
  have E1 := Lib.hid e1
  clear hb1 hs1 hF1 hc1' e1
  obtain ⟨m, hm⟩ : ∃ m, X.length = m := ⟨_, rfl⟩
  rw [hm]
  go_wp2_with fail
  refine (HB.out _ E1.out).mono ?_
  rintro e2 w2 ⟨x2, y2, g2, rfl, hc2', hs2, hF2, hb2⟩
  have H2 := Lib.hid (And.intro hs2 (And.intro hF2 hc2'))
  have E2 := Lib.hid (Ext.trans E1.out hb2)
  have HS1 := Lib.hid (And.intro (H1.out.1.below H1.out.1.lt hb2) (H1.out.2.below H1.out.1.lt hb2))
  clear hb2 hs2 hF2 hc2' u0 u1 u2 u3 v0 v1 v2 v3
  obtain ⟨m2, hm2⟩ : ∃ m, Y.length = m := ⟨_, rfl⟩
  rw [hm2]
  have hfo := firstOnly X Y HGX.out.1 HGY.out.1 w2 x1 y1 g1 HS1.out.1 K1.out.2 (by have := HGX.out.2; omega) x2 y2 g2 H2.out.1 H2.out.2.2 (by have := HGY.out.2; omega)
  have hfp := fun (W : World) (e : Ext w2 W) => firstOnly Y X HGY.out.1 HGX.out.1 W x2 y2 g2 (H2.out.1.ext e) H2.out.2.2 (by have := HGY.out.2; omega) x1 y1 g1 (HS1.out.1.ext e) K1.out.2 (by have := HGX.out.2; omega)
  rw [hm, hm2] at hfo hfp
  have HFO := Lib.hid hfo
  have HFP := Lib.hid hfp
  clear hfo hfp hm hm2
  rw [HR0.out] at HFO
  rw [HR1.out] at HFP
  go_wp2_with fail
  refine HFO.out.mono ?_
  rintro e3 w3 ⟨a3, c3, f3, rfl, hc3, hs3, hm3, hb3⟩
  have E3 := Lib.hid (show Ext w2 w3 from hb3)
  clear hc3 hs3 hm3 hb3
  simp only
  obtain ⟨m3, hm3⟩ : ∃ m, R.length = m := ⟨_, rfl⟩
  rw [hm3]
  clear hm3
  go_wp2_with fail
  refine (HFP.out _ E3.out).mono ?_
  rintro e4 w4 ⟨a4, c4, f4, rfl, hc4, hs4, hm4, hb4⟩
  have E4 := Lib.hid (Ext.trans E2.out (Ext.trans E3.out hb4))
  clear hc4 hs4 hm4 hb4
  simp only
  obtain ⟨m4, hm4⟩ : ∃ m, R'.length = m := ⟨_, rfl⟩
  rw [hm4]
  clear hm4
  cases q <;> cases q'
  all_goals
   go_wp2_with fail
   go_ret
   exact ⟨rfl, E4.out⟩
 ·have hq : (p0 && p1) = false := by simpa using hp
  rw [hq, Bool.false_and]
  clear hp
  cases p0 <;> cases p1 <;> first | (exact absurd hq (by decide)) | skip
  all_goals
   clear hq
   go_enter Tryz.func27, Tryz.ntmps27
   go_wp2_with fail
   refine (HA.out _ (HE.out _ _)).mono ?_
   rintro e1 w1 ⟨x1, y1, g1, rfl, hc1', hs1, hF1, hb1⟩
   have H1 := Lib.hid (And.intro hs1 hF1)
   have K1 := Lib.hid (And.intro hb1 hc1')
   obtain ⟨⟨u0, u1, u2, u3⟩, ⟨v0, v1, v2, v3⟩, e1⟩ := HT.out _ hb1
   have E1 := Lib.hid e1
   clear hb1 hs1 hF1 hc1' e1
   obtain ⟨m, hm⟩ : ∃ m, X.length = m := ⟨_, rfl⟩
   rw [hm]
   go_wp2_with fail
   refine (HB.out _ E1.out).mono ?_
   rintro e2 w2 ⟨x2, y2, g2, rfl, hc2', hs2, hF2, hb2⟩
   have H2 := Lib.hid (And.intro hs2 (And.intro hF2 hc2'))
   have E2 := Lib.hid (Ext.trans E1.out hb2)
   have HS1 := Lib.hid (And.intro (H1.out.1.below H1.out.1.lt hb2) (H1.out.2.below H1.out.1.lt hb2))
   clear hb2 hs2 hF2 hc2' u0 u1 u2 u3 v0 v1 v2 v3
   obtain ⟨m2, hm2⟩ : ∃ m, Y.length = m := ⟨_, rfl⟩
   rw [hm2]
   clear hm hm2
   go_wp2_with fail
   go_ret
   exact ⟨rfl, E2.out⟩
end Go.Proofs.YtjcaiecapapceaaGreat.Eqd
namespace Go.Proofs.YtjcaiecapapceaaGreat.Eqd
open Go.RowKit P1 LayL LayV LayM LayN It
open Ls hiding Lay
theorem specOnlyLayout (w : World) (o0 n0 : Int) (t0 : ByteArray) (k0 : F) (a0 : Option Addr) (c0 : Nat) (f0 : List Nat) (h0 : DocIn w t0 k0 a0 c0 f0) (o1 n1 : Int) (t1 : ByteArray) (k1 : F) (a1 : Option Addr) (c1 : Nat) (f1 : List Nat) (h1 : DocIn w t1 k1 a1 c1 f1) :
  Calls Tryz.prog 32 #[.agg #[.int .i64 o0, .int .i64 n0, .string t0, .slice a0 k0.len c0], .agg #[.int .i64 o1, .int .i64 n1, .string t1, .slice a1 k1.len c1]] w (LayRes w (onlyLay o0 n0 t0 k0 o1 n1 t1 k1)) := by
 have hA := fun (W : World) (e : Ext w W) => It.specLayoutsOf W o0 n0 t0 k0 a0 c0 f0 (h0.ext e).sub (h0.ext e).lt (h0.ext e).cap_le (h0.ext e).size (h0.ext e).fits (h0.ext e).tfit
 have hB := fun (W : World) (e : Ext w W) => It.specLayoutsOf W o1 n1 t1 k1 a1 c1 f1 (h1.ext e).sub (h1.ext e).lt (h1.ext e).cap_le (h1.ext e).size (h1.ext e).fits (h1.ext e).tfit
 have hgx := good_len (lays_good (o := o0) (n := n0) (t := t0) (k := k0))
 have hgy := good_len (lays_good (o := o1) (n := n1) (t := t1) (k := k1))
 have hnx := lays_len o0 n0 t0 k0
 have hny := lays_len o1 n1 t1 k1
 unfold onlyLay
 obtain ⟨X, hX⟩ : ∃ X, laysD o0 n0 t0 k0 = X := ⟨_, rfl⟩
 obtain ⟨Y, hY⟩ : ∃ Y, laysD o1 n1 t1 k1 = Y := ⟨_, rfl⟩
 obtain ⟨p0, hp0⟩ : ∃ p, toldD o0 n0 t0 k0 = p := ⟨_, rfl⟩
 obtain ⟨p1, hp1⟩ : ∃ p, toldD o1 n1 t1 k1 = p := ⟨_, rfl⟩
 rw [hX] at hA hgx hnx
 rw [hY] at hB hgy hny
 rw [hp0] at hA
 rw [hp1] at hB
 rw [hX, hY, hp0, hp1]
 have HT := Lib.hid (fun (w' : World) => two_new w (.int .i64 o0) (.int .i64 n0) (.string t0) (.slice a0 k0.len c0) (.int .i64 o1) (.int .i64 n1) (.string t1) (.slice a1 k1.len c1) 25 (w' := w'))
 have HE := Lib.hid (show ∀ x y, Ext w ((w.alloc x).alloc y) from fun x y => ((Ext.refl w).alloc x).alloc y)
 obtain ⟨L0, hL0⟩ : ∃ L, k0.len = L := ⟨_, rfl⟩
 obtain ⟨L1, hL1⟩ : ∃ L, k1.len = L := ⟨_, rfl⟩
 rw [hL0] at hA
 rw [hL1] at hB
 rw [hL0, hL1] at HT ⊢
 have hXe : p0 = false → X = [] := fun hh => by rw [← hX]; exact lays_no (hp0.trans hh)
 have HXE := Lib.hid hXe
 have HA := Lib.hid hA
 have HB := Lib.hid hB
 have HGX := Lib.hid (And.intro hgx hnx)
 have HGY := Lib.hid (And.intro hgy hny)
 clear hXe hA hB hgx hgy hnx hny h0 h1 hX hY hp0 hp1 hL0 hL1
 by_cases hp : (p0 && p1) = true
 ·obtain ⟨rfl, rfl⟩ : p0 = true ∧ p1 = true := by simpa using hp
  clear hp
  rw [if_pos (by rfl : (true && true) = true)]
  go_enter Tryz.func32, Tryz.ntmps32
  go_wp2_with fail
  refine (HA.out _ (HE.out _ _)).mono ?_
  rintro e1 w1 ⟨x1, y1, g1, rfl, hc1', hs1, hF1, hb1⟩
  have H1 := Lib.hid (And.intro hs1 hF1)
  have K1 := Lib.hid (And.intro hb1 hc1')
  obtain ⟨⟨u0, u1, u2, u3⟩, ⟨v0, v1, v2, v3⟩, e1⟩ := HT.out _ hb1
  have E1 := Lib.hid e1
  clear hb1 hs1 hF1 hc1' e1
  obtain ⟨m, hm⟩ : ∃ m, X.length = m := ⟨_, rfl⟩
  rw [hm]
  go_wp2_with fail
  refine (HB.out _ E1.out).mono ?_
  rintro e2 w2 ⟨x2, y2, g2, rfl, hc2', hs2, hF2, hb2⟩
  have H2 := Lib.hid (And.intro hs2 (And.intro hF2 hc2'))
  have E2 := Lib.hid (Ext.trans E1.out hb2)
  have HS1 := Lib.hid (And.intro (H1.out.1.below H1.out.1.lt hb2) (H1.out.2.below H1.out.1.lt hb2))
  clear hb2 hs2 hF2 hc2' u0 u1 u2 u3 v0 v1 v2 v3
  obtain ⟨m2, hm2⟩ : ∃ m, Y.length = m := ⟨_, rfl⟩
  rw [hm2]
  have hin : ∀ (W : World), Ext w2 W → ∀ (l : Ls.Lay) (ln : Nat), l.length = ln → l.length ≤ maxLen → ∀ (al : Option Addr) (cl : Nat) (fl : List Nat), LaySub W al l fl → l.length ≤ cl → Calls Tryz.prog 72 #[.slice x2 Y.length y2, .slice al ln cl] W fun e w' => e = .returned (.bool (inL Y l)) ∧ Below W.heap.size W w' := by
   intro W e l ln hq hl al cl fl h1 h2
   subst hq
   exact l3In Y l HGY.out.1 W x2 y2 g2 (H2.out.1.ext e) H2.out.2.2 (by have := HGY.out.2; omega) al cl fl h1 h2 hl
  have hgt : ∀ (W : World), Ext w2 W → ∀ (j : Nat) (h : j < X.length) (l : Ls.Lay) (ln : Nat), X[j] = l → l.length = ln → ∃ (b off : Nat) (a1 : Option Addr) (c1 : Nat) (f1 : List Nat), x1 = some ⟨b, off, none⟩ ∧ b < W.heap.size ∧ W.cell? ⟨b, off + j, none⟩ = some (.slice a1 ln c1) ∧ l.length ≤ c1 ∧ LaySub W a1 l f1 ∧ (∀ c ∈ f1, c ∈ g1) ∧ l.length ≤ maxLen := by
   intro W e j h l ln hl hq
   subst hq
   subst hl
   obtain ⟨b, off, a1, c1, f1, h1, h2, h3, h4, h5, h6⟩ := (HS1.out.1.ext e).get h
   exact ⟨b, off, a1, c1, f1, h1, h2, h3, h4, h5, h6, HGX.out.1 _ (List.getElem_mem h)⟩
  have hyes : ∀ (j : Nat) (h : j < X.length) (l : Ls.Lay), X[j] = l → (∀ q, (hq : q < X.length) → q < j → inL Y X[q] = true) → inL Y l = false → onlyR X Y = (l, true) := fun j h l hl h1 h2 => by subst hl; exact only_yes h h1 h2
  have hstep : ∀ (j : Nat) (h : j < X.length) (l : Ls.Lay), X[j] = l → (∀ q, (hq : q < X.length) → q < j → inL Y X[q] = true) → inL Y l = true → ∀ q, (hq : q < X.length) → q < j + 1 → inL Y X[q] = true := fun j h l hl h1 h2 q hq hqj => by
   by_cases hh : q < j
   ·exact h1 q hq hh
   ·obtain rfl : j = q := by omega
    rw [hl]; exact h2
  have HYES := Lib.hid hyes
  have HSTEP := Lib.hid hstep
  clear hyes hstep
  rw [hm2] at hin
  have HIN := Lib.hid hin
  have HGT := Lib.hid hgt
  have HM := Lib.hid hm
  have hms : m ≤ 300 := by have := HGX.out.2; omega
  clear hin hgt hm hm2
  go_wp2_with fail
  go_loopw [10] (fun i wr => ∃ (j : Nat), j ≤ m ∧ i = .int .i64 (j : Int) ∧ Hid (∀ q, (hq : q < X.length) → q < j → inL Y X[q] = true) ∧ Hid (Ext w2 wr)) (fun i _ => m - (intOf i).toNat)
  case atStart => exact ⟨0, Nat.zero_le _, rfl, Lib.hid (fun q _ hq => absurd hq (Nat.not_lt_zero q)), Lib.hid (Ext.refl _)⟩
  case round =>
   obtain ⟨j, hj, rfl, HQ, HR⟩ := hrel
   have i0 : (0 : Int) ≤ (j : Int) := Int.natCast_nonneg _
   by_cases hjm : j < m
   ·have hjX : j < X.length := by have := HM.out; omega
    obtain ⟨lj, hlj⟩ : ∃ l : Ls.Lay, X[j] = l := ⟨_, rfl⟩
    obtain ⟨ln, hln⟩ : ∃ q, lj.length = q := ⟨_, rfl⟩
    obtain ⟨bb, off, al, cl, fl, rfl, hbb, hcell, hcl, hsl, hml, hlm⟩ := HGT.out wr HR.out j hjX lj ln hlj hln
    have hc := HIN.out wr HR.out lj ln hln hlm al cl fl hsl hcl
    have HY0 := Lib.hid (HYES.out j hjX lj hlj HQ.out)
    have HS0 := Lib.hid (HSTEP.out j hjX lj hlj HQ.out)
    clear hlj hlm
    have HL := Lib.hid (And.intro hcl (And.intro hsl hml))
    have HJX := Lib.hid hjX
    have i1 : (j : Int) < (m : Int) := by omega
    have HLN := Lib.hid hln
    have HBB := Lib.hid hbb
    cases hin : inL Y lj with
    | false =>
      rw [hin] at hc
      have HC := Lib.hid hc
      have HY := Lib.hid (HY0.out hin)
      clear hc hln hin hcl hsl hml hjX
      go_wp2_with fail
      refine HC.out.mono ?_
      rintro e3 w3 ⟨rfl, hb3⟩
      have E3 := Lib.hid (show Ext wr w3 from hb3)
      have hcell3 := (hb3.cell (p := ⟨bb, off + j, none⟩) hbb).trans hcell
      have hbb3 : bb < w3.heap.size := Nat.lt_of_lt_of_le hbb hb3.size
      clear hb3 hcell hbb
      go_wp2_with fail
      go_ret2
      obtain ⟨hcl, hsl, hml⟩ := HL.out
      rw [HY.out, ← HLN.out]
      refine ⟨al, cl, fl, rfl, hcl, hsl.below hsl.lt E3.out, lay_fresh (hsl.below hsl.lt E3.out) hml ((HS1.out.2.mono ?_).below HS1.out.1.lt (Ext.trans HR.out E3.out)), Ext.trans E2.out (Ext.trans HR.out E3.out)⟩
      simp; omega
    | true =>
      rw [hin] at hc
      have HC := Lib.hid hc
      have HE1 := Lib.hid hin
      clear hc hln hin hcl hsl hml hjX
      go_wp2_with fail
      refine HC.out.mono ?_
      rintro e3 w3 ⟨rfl, hb3⟩
      have E3 := Lib.hid (show Ext wr w3 from hb3)
      clear hb3 hcell hbb
      go_wp2_with fail
      go_roundw
      case rel => exact ⟨j + 1, by omega, by go_num, Lib.hid (HS0.out HE1.out), Lib.hid (Ext.trans HR.out E3.out)⟩
      case measure => simp [intOf]; omega
   ·obtain rfl : m = j := by omega
    have HN := Lib.hid (only_no (fun q hq => HQ.out q hq (by have := HM.out; omega)))
    go_wp2_with fail
    go_ret2
    rw [HN.out]
    exact ⟨_, _, [], rfl, Nat.le_refl _, .inl ⟨rfl, rfl⟩, Fresh.nil _ _, Ext.trans E2.out (Ext.trans HR.out ((Ext.refl _).alloc _))⟩
 ·have hq : (p0 && p1) = false := by simpa using hp
  rw [if_neg hp]
  clear hp
  cases p0 <;> cases p1 <;> first | (exact absurd hq (by decide)) | skip
  all_goals
   clear hq
   go_enter Tryz.func32, Tryz.ntmps32
   go_wp2_with fail
   refine (HA.out _ (HE.out _ _)).mono ?_
   rintro e1 w1 ⟨x1, y1, g1, rfl, hc1', hs1, hF1, hb1⟩
   have H1 := Lib.hid (And.intro hs1 hF1)
   have K1 := Lib.hid (And.intro hb1 hc1')
   obtain ⟨⟨u0, u1, u2, u3⟩, ⟨v0, v1, v2, v3⟩, e1⟩ := HT.out _ hb1
   have E1 := Lib.hid e1
   clear hb1 hs1 hF1 hc1' e1
   obtain ⟨m, hm⟩ : ∃ m, X.length = m := ⟨_, rfl⟩
   rw [hm]
   go_wp2_with fail
   refine (HB.out _ E1.out).mono ?_
   rintro e2 w2 ⟨x2, y2, g2, rfl, hc2', hs2, hF2, hb2⟩
   have H2 := Lib.hid (And.intro hs2 (And.intro hF2 hc2'))
   have E2 := Lib.hid (Ext.trans E1.out hb2)
   have HS1 := Lib.hid (And.intro (H1.out.1.below H1.out.1.lt hb2) (H1.out.2.below H1.out.1.lt hb2))
   clear hb2 hs2 hF2 hc2' u0 u1 u2 u3 v0 v1 v2 v3
   obtain ⟨m2, hm2⟩ : ∃ m, Y.length = m := ⟨_, rfl⟩
   rw [hm2]
   go_wp2_with fail
   go_loopw [10] (fun i wr => i = .int .i64 0 ∧ wr = w2) (fun _ _ => 0)
   case atStart => exact ⟨rfl, rfl⟩
   case round =>
    obtain ⟨rfl, rfl⟩ := hrel
    by_cases hz : 0 < m
    ·have i1 : (0 : Int) < (m : Int) := by omega
     first
      | (have h0 := HXE.out rfl; rw [h0] at hm; simp at hm; omega)
      | (clear hm hm2 hz
         go_wp2_with fail
         go_ret2
         exact ⟨_, _, [], rfl, Nat.le_refl _, .inl ⟨rfl, rfl⟩, Fresh.nil _ _, Ext.trans E2.out ((Ext.refl _).alloc _)⟩)
    ·obtain rfl : 0 = m := by omega
     clear hm hm2 hz
     go_wp2_with fail
     go_ret2
     exact ⟨_, _, [], rfl, Nat.le_refl _, .inl ⟨rfl, rfl⟩, Fresh.nil _ _, Ext.trans E2.out ((Ext.refl _).alloc _)⟩
theorem specSameLayouts (w : World) (o0 n0 : Int) (t0 : ByteArray) (k0 : F) (a0 : Option Addr) (c0 : Nat) (f0 : List Nat) (h0 : DocIn w t0 k0 a0 c0 f0) (o1 n1 : Int) (t1 : ByteArray) (k1 : F) (a1 : Option Addr) (c1 : Nat) (f1 : List Nat) (h1 : DocIn w t1 k1 a1 c1 f1) :
  Calls Tryz.prog 28 #[.agg #[.int .i64 o0, .int .i64 n0, .string t0, .slice a0 k0.len c0], .agg #[.int .i64 o1, .int .i64 n1, .string t1, .slice a1 k1.len c1]] w fun e w' => e = .returned (.bool (sameLay o0 n0 t0 k0 o1 n1 t1 k1)) ∧ Below w.heap.size w w' := by
 have hA := fun (W : World) (e : Ext w W) => It.specLayoutsOf W o0 n0 t0 k0 a0 c0 f0 (h0.ext e).sub (h0.ext e).lt (h0.ext e).cap_le (h0.ext e).size (h0.ext e).fits (h0.ext e).tfit
 have hB := fun (W : World) (e : Ext w W) => It.specLayoutsOf W o1 n1 t1 k1 a1 c1 f1 (h1.ext e).sub (h1.ext e).lt (h1.ext e).cap_le (h1.ext e).size (h1.ext e).fits (h1.ext e).tfit
 have hO := fun (W : World) (e : Ext w W) => (specOnlyLayout W o0 n0 t0 k0 a0 c0 f0 (h0.ext e) o1 n1 t1 k1 a1 c1 f1 (h1.ext e)).mono fun e w' g => (show LayOut W (onlyLay o0 n0 t0 k0 o1 n1 t1 k1).1 (onlyLay o0 n0 t0 k0 o1 n1 t1 k1).2 e w' from g)
 have hP := fun (W : World) (e : Ext w W) => (specOnlyLayout W o1 n1 t1 k1 a1 c1 f1 (h1.ext e) o0 n0 t0 k0 a0 c0 f0 (h0.ext e)).mono fun e w' g => (show LayOut W (onlyLay o1 n1 t1 k1 o0 n0 t0 k0).1 (onlyLay o1 n1 t1 k1 o0 n0 t0 k0).2 e w' from g)
 unfold onlyLay at hO hP
 have hgx := good_len (lays_good (o := o0) (n := n0) (t := t0) (k := k0))
 have hgy := good_len (lays_good (o := o1) (n := n1) (t := t1) (k := k1))
 have hnx := lays_len o0 n0 t0 k0
 have hny := lays_len o1 n1 t1 k1
 unfold sameLay
 obtain ⟨X, hX⟩ : ∃ X, laysD o0 n0 t0 k0 = X := ⟨_, rfl⟩
 obtain ⟨Y, hY⟩ : ∃ Y, laysD o1 n1 t1 k1 = Y := ⟨_, rfl⟩
 obtain ⟨p0, hp0⟩ : ∃ p, toldD o0 n0 t0 k0 = p := ⟨_, rfl⟩
 obtain ⟨p1, hp1⟩ : ∃ p, toldD o1 n1 t1 k1 = p := ⟨_, rfl⟩
 rw [hX] at hA hgx hnx
 rw [hY] at hB hgy hny
 rw [hp0] at hA
 rw [hp1] at hB
 rw [hX, hY, hp0, hp1] at hO
 rw [hX, hY, hp0, hp1] at hP
 rw [hX, hY, hp0, hp1]
 obtain ⟨⟨R0, r0⟩, hr0⟩ : ∃ r : Ls.Lay × Bool, (if (p0 && p1) = true then onlyR X Y else ([], false)) = r := ⟨_, rfl⟩
 obtain ⟨⟨R1, r1⟩, hr1⟩ : ∃ r : Ls.Lay × Bool, (if (p1 && p0) = true then onlyR Y X else ([], false)) = r := ⟨_, rfl⟩
 rw [hr0] at hO
 rw [hr1] at hP
 have HT := Lib.hid (fun (w' : World) => two_new w (.int .i64 o0) (.int .i64 n0) (.string t0) (.slice a0 k0.len c0) (.int .i64 o1) (.int .i64 n1) (.string t1) (.slice a1 k1.len c1) 25 (w' := w'))
 have HE := Lib.hid (show ∀ x y, Ext w ((w.alloc x).alloc y) from fun x y => ((Ext.refl w).alloc x).alloc y)
 obtain ⟨L0, hL0⟩ : ∃ L, k0.len = L := ⟨_, rfl⟩
 obtain ⟨L1, hL1⟩ : ∃ L, k1.len = L := ⟨_, rfl⟩
 rw [hL0] at hA
 rw [hL1] at hB
 rw [hL0, hL1] at hO hP
 rw [hL0, hL1] at HT ⊢
 have HA := Lib.hid hA
 have HB := Lib.hid hB
 have hr : (p0 && p1 && (!(onlyR X Y).2 && !(onlyR Y X).2)) = (p0 && (p1 && (!r0 && !r1))) := by
  cases p0 <;> cases p1 <;> simp_all
 rw [hr]
 have HO := Lib.hid hO
 have HP := Lib.hid hP
 clear hA hB hO hP hgx hgy hnx hny h0 h1 hX hY hp0 hp1 hL0 hL1 hr hr0 hr1
 cases p0 <;> cases p1 <;> cases r0 <;> cases r1
 all_goals
  go_enter Tryz.func28, Tryz.ntmps28
  go_wp2_with fail
  refine (HA.out _ (HE.out _ _)).mono ?_
  rintro e1 w1 ⟨x1, y1, g1, rfl, hc1', hs1, hF1, hb1⟩
  have H1 := Lib.hid (And.intro hs1 hF1)
  have K1 := Lib.hid (And.intro hb1 hc1')
  obtain ⟨⟨u0, u1, u2, u3⟩, ⟨v0, v1, v2, v3⟩, e1⟩ := HT.out _ hb1
  have E1 := Lib.hid e1
  clear hb1 hs1 hF1 hc1' e1
  obtain ⟨m, hm⟩ : ∃ m, X.length = m := ⟨_, rfl⟩
  rw [hm]
  go_wp2_with fail
  refine (HB.out _ E1.out).mono ?_
  rintro e2 w2 ⟨x2, y2, g2, rfl, hc2', hs2, hF2, hb2⟩
  have H2 := Lib.hid (And.intro hs2 (And.intro hF2 hc2'))
  have E2 := Lib.hid (Ext.trans E1.out hb2)
  have HS1 := Lib.hid (And.intro (H1.out.1.below H1.out.1.lt hb2) (H1.out.2.below H1.out.1.lt hb2))
  have HB2 := Lib.hid hb2
  clear hb2 hs2 hF2 hc2' u0 u1 u2 u3 v0 v1 v2 v3
  obtain ⟨m2, hm2⟩ : ∃ m, Y.length = m := ⟨_, rfl⟩
  rw [hm2]
  have K2 := Lib.hid (show Ext _ w2 from Ext.trans K1.out.1 HB2.out)
  clear hm hm2
  obtain ⟨⟨u0, u1, u2, u3⟩, ⟨v0, v1, v2, v3⟩, e3⟩ := HT.out _ K2.out
  clear e3
  go_wp2_with fail
  refine (HO.out _ E2.out).mono ?_
  rintro e3 w3 ⟨x3, y3, g3, rfl, hc3, hs3, hF3, hb3⟩
  have K3 := Lib.hid (show Ext _ w3 from Ext.trans K2.out hb3)
  have E3 := Lib.hid (Ext.trans E2.out hb3)
  clear hc3 hs3 hF3 hb3 u0 u1 u2 u3 v0 v1 v2 v3
  obtain ⟨⟨u0, u1, u2, u3⟩, ⟨v0, v1, v2, v3⟩, e3⟩ := HT.out _ K3.out
  clear e3
  obtain ⟨m3, hm3⟩ : ∃ m, R0.length = m := ⟨_, rfl⟩
  rw [hm3]
  clear hm3
  go_wp2_with fail
  refine (HP.out _ E3.out).mono ?_
  rintro e4 w4 ⟨x4, y4, g4, rfl, hc4, hs4, hF4, hb4⟩
  have E4 := Lib.hid (Ext.trans E3.out hb4)
  clear hc4 hs4 hF4 hb4 u0 u1 u2 u3 v0 v1 v2 v3
  obtain ⟨m4, hm4⟩ : ∃ m, R1.length = m := ⟨_, rfl⟩
  rw [hm4]
  clear hm4
  go_wp2_with fail
  go_ret
  exact ⟨rfl, E4.out⟩
end Go.Proofs.YtjcaiecapapceaaGreat.Eqd
namespace Go.Proofs.YtjcaiecapapceaaGreat.Eqd
open Go.RowKit P1 Ls It
theorem only_false {xs ys : List Ls.Lay} : (onlyR xs ys).2 = false ↔ ∀ x ∈ xs, x ∈ ys := by
 induction xs with
 | nil => simp [onlyR]
 | cons x xs ih =>
   unfold onlyR
   cases h : inL ys x with
   | true =>
     rw [if_pos rfl, ih]
     have hx := inL_iff.1 h
     constructor
     ·intro g y hy
      rcases List.mem_cons.1 hy with rfl | hy
      ·exact hx
      ·exact g y hy
     ·intro g y hy; exact g y (List.mem_cons_of_mem _ hy)
   | false =>
     rw [if_neg (by decide)]
     constructor
     ·intro g; cases g
     ·intro g
      have := inL_iff.2 (g x (List.mem_cons_self ..))
      rw [h] at this; cases this
section
variable {o n : Int} {t : ByteArray} {k : F} {o' n' : Int} {t' : ByteArray} {k' : F}
theorem sameLay_iff : sameLay o n t k o' n' t' k' = true ↔ (toldD o n t k = true ∧ toldD o' n' t' k' = true) ∧ (∀ x ∈ laysD o n t k, x ∈ laysD o' n' t' k') ∧ ∀ x ∈ laysD o' n' t' k', x ∈ laysD o n t k := by
 unfold sameLay
 rw [Bool.and_eq_true, Bool.and_eq_true, Bool.and_eq_true, Bool.not_eq_true', Bool.not_eq_true', only_false, only_false]
theorem sameLay_symm : sameLay o' n' t' k' o n t k = sameLay o n t k o' n' t' k' := by
 rw [Bool.eq_iff_iff, sameLay_iff, sameLay_iff]
 exact ⟨fun ⟨⟨a, b⟩, c, d⟩ => ⟨⟨b, a⟩, d, c⟩, fun ⟨⟨a, b⟩, c, d⟩ => ⟨⟨b, a⟩, d, c⟩⟩
theorem sameLay_self : sameLay o n t k o n t k = toldD o n t k := by
 rw [Bool.eq_iff_iff, sameLay_iff]
 exact ⟨fun h => h.1.1, fun h => ⟨⟨h, h⟩, fun _ h => h, fun _ h => h⟩⟩
theorem sameLay_no (h : (toldD o n t k && toldD o' n' t' k') = false) : sameLay o n t k o' n' t' k' = false := by
 unfold sameLay; rw [h]; rfl
theorem sameLay_yes (h : (toldD o n t k && toldD o' n' t' k') = true) : sameLay o n t k o' n' t' k' = (!(onlyLay o n t k o' n' t' k').2 && !(onlyLay o' n' t' k' o n t k).2) := by
 have h2 : (toldD o' n' t' k' && toldD o n t k) = true := by rw [Bool.and_comm]; exact h
 unfold sameLay onlyLay
 rw [h, h2, if_pos rfl, if_pos rfl, Bool.true_and]
end
theorem nodup_le : ∀ {xs ys : List Ls.Lay}, xs.Nodup → (∀ x ∈ xs, x ∈ ys) → xs.length ≤ ys.length := by
 intro xs
 induction xs with
 | nil => intro ys _ _; exact Nat.zero_le _
 | cons x xs ih =>
   intro ys hn hs
   have hx := hs x (List.mem_cons_self ..)
   rw [List.nodup_cons] at hn
   obtain ⟨p, q, rfl⟩ := List.append_of_mem hx
   have h := ih (ys := p ++ q) hn.2 (fun y hy => by
    have h1 := hs y (List.mem_cons_of_mem _ hy)
    have hne : y ≠ x := fun e => hn.1 (by rw [← e]; exact hy)
    rcases List.mem_append.1 h1 with h1 | h1
    ·exact List.mem_append.2 (Or.inl h1)
    ·rcases List.mem_cons.1 h1 with h1 | h1
     ·exact absurd h1 hne
     ·exact List.mem_append.2 (Or.inr h1))
   simp only [List.length_append, List.length_cons] at h ⊢
   omega
theorem dist_same {o n : Int} {t : ByteArray} {k : F} {o' n' : Int} {t' : ByteArray} {k' : F} (h : sameLay o n t k o' n' t' k' = true) : (dist (laysD o n t k)).length = (dist (laysD o' n' t' k')).length := by
 obtain ⟨_, h1, h2⟩ := sameLay_iff.1 h
 have a := nodup_le (dist_nodup (laysD o n t k)) (ys := dist (laysD o' n' t' k')) (fun x hx => (dist_mem _ x).2 (h1 x ((dist_mem _ x).1 hx)))
 have b := nodup_le (dist_nodup (laysD o' n' t' k')) (ys := dist (laysD o n t k)) (fun x hx => (dist_mem _ x).2 (h2 x ((dist_mem _ x).1 hx)))
 omega
end Go.Proofs.YtjcaiecapapceaaGreat.Eqd
