import Derived.Test.YtjcaiecapapceaaEqP3
import Derived.Test.YtjcaiecapapceaaSmX
import Derived.Test.YtjcaiecapapceaaDoX
import Derived.Test.YtjcaiecapapceaaDrE8
import Derived.Test.YtjcaiecapapceaaFacts
import Derived.Deep.DeepCutAuto
/-
 Open layouts are kept: the law FnNormalOpen returns true for whatever draws, and its argument reads as it did. No condition of ours.
-/
set_option linter.unusedVariables false
set_option linter.unusedSimpArgs false
set_option maxRecDepth 100000
set_option maxHeartbeats 6400000
namespace Go.Proofs.Ytjcaiecapapceaa.lawNormalOpen
open Go.ChangeShapes Go.WideShapes Go.ChangeAt Go.RowKit P1 Draw6 LawC CntC DocK CatD
theorem walk_good (w : World) (a0 : Option Addr) (len0 cap0 : Nat) (hb0 : Bytes w a0 len0) (hlc0 : len0 ≤ cap0) (hcm0 : cap0 ≤ maxLen) (hl0 : len0 ≤ 1048576) :
  Calls Try.prog 5 #[.slice a0 len0 cap0] w fun e w' => e = .returned (.bool true) ∧ Ext w w' := by
 have HD0 := Lib.hid (Dr7.drawNormalDoc w a0 len0 cap0 hb0 hlc0 hcm0)
 clear hb0
 unfold maxLen at hcm0
 go_enter Try.func5, Try.ntmps5
 go_wp2_with fail
 refine HD0.out.mono ?_
 rintro e1 w1 ⟨o, n, t, k, a, c, fs, rfl, hc, hsz, hsub, hfr, hb1⟩
 obtain ⟨w3, hV⟩ : ∃ V, w1.alloc (.cells #[.int .i64 o, .int .i64 n, .string t, .slice a k.len c] 25) = V := ⟨_, rfl⟩
 have he : Ext w1 w3 := by rw [← hV]; exact (Ext.refl _).alloc _
 have X3 := Lib.hid (show w3.cell? ⟨w1.heap.size, 0, none⟩ = some (.int .i64 o) ∧ w3.cell? ⟨w1.heap.size, 1, none⟩ = some (.int .i64 n) ∧ w3.cell? ⟨w1.heap.size, 2, none⟩ = some (.string t) ∧ w3.cell? ⟨w1.heap.size, 3, none⟩ = some (.slice a k.len c) from by rw [← hV]; exact box_new w1 25 (.int .i64 o) (.int .i64 n) (.string t) (.slice a k.len c))
 have L3 := Lib.hid (show w1.heap.size < w3.heap.size by rw [← hV]; simp)
 have D3 := Lib.hid (show DocK.Doc0 w3 n t k a c fs from (DocK.Doc0.mk hsub (fun c hc => (hfr.2 c hc).2) hc (by omega)).ext he)
 have E1 := Lib.hid (show Ext w w3 from Ext.trans (show Ext w w1 from hb1) he)
 have E3 := Lib.hid (Ext.refl w3)
 clear he hsub hfr hb1 hc
 obtain ⟨⟨ok, o2, n2, t2, k2⟩, hR2⟩ : ∃ R, Nf.noRes o n t k = R := ⟨_, rfl⟩
 obtain ⟨⟨okW, o5, n5, t5, k5⟩, hR5⟩ : ∃ R, Nf.woRes o n t k = R := ⟨_, rfl⟩
 obtain ⟨⟨okN, o6, n6, t6, k6⟩, hR6⟩ : ∃ R, Nf.noRes o5 n5 t5 k5 = R := ⟨_, rfl⟩
 have hsz2 : t2.size + k2.size ≤ 100000 := Nf.ch_tiny hR2
 have hsz3 := hsz2
 have hsz5 : t5.size + k5.size ≤ 100000 := Nf.ch_tiny hR5
 have hsz6 : t6.size + k6.size ≤ 100000 := Nf.ch_tiny hR6
 obtain ⟨OL, hOL⟩ : ∃ X, (OpenR.openRes o n t k).1 = X := ⟨_, rfl⟩
 obtain ⟨OK, hOK⟩ : ∃ X, (OpenR.openRes o n t k).2 = X := ⟨_, rfl⟩
 have hall : ok = true → okW = true → okN = true → (OpenR.openRes o6 n6 t6 k6).1 = OL ∧ CntC.opsD 8 o6 k6 = 0 ∧ Eqd.sameOp o2 n2 t2 k2 o6 n6 t6 k6 = true := by
  intro h1 h2 h3
  rw [h1] at hR2
  rw [h2] at hR5
  rw [h3] at hR6
  obtain ⟨a1, a2, _, a4⟩ := Rq.no_rn hR2
  obtain ⟨b1, b2, _, b4⟩ := Rq.no_rn hR6
  have hw := Nf.wo_all (o := o) (n := n) (t := t) (k := k) (by rw [hR5])
  rw [hR5] at hw
  obtain ⟨v, vw, _, w8, _, wop, _⟩ := hw
  simp only at vw w8 wop
  have c8 := Rq.no_8 hR6
  rw [OpenR.openRes_yes vw, OpenR.openRes_yes v] at wop
  have e1 := (Prod.mk.inj wop).1
  refine ⟨?_, by omega, ?_⟩
  ·rw [← hOL, OpenR.openRes_yes b2, OpenR.openRes_yes v]
   show P1.openD o6 n6 t6 k6 = P1.openD o n t k
   rw [b4, e1]
  ·unfold Eqd.sameOp
   rw [OpenR.openRes_yes a2, OpenR.openRes_yes b2, a4, b4, e1]
   simp
 have HIM := Lib.hid (show ∀ W : World, Ext w3 W → Calls Try.prog 19 #[.agg #[.int .i64 o, .int .i64 n, .string t, .slice a k.len c]] W (DocRes W (ok, o2, n2, t2, k2)) from fun W e => by have h := Nf.implNormalDoc W o n t k a c fs (D3.out.ext e).sub (D3.out.ext e).ok D3.out.cap_le (by have := D3.out.size; omega); rw [hR2] at h; exact h)
 have HSP := Lib.hid (show ∀ W : World, Ext w3 W → Calls Try.prog 20 #[.agg #[.int .i64 o, .int .i64 n, .string t, .slice a k.len c]] W (DocRes W (ok, o2, n2, t2, k2)) from fun W e => by have h := Nf.specNormalDoc W o n t k a c fs (D3.out.ext e).sub (D3.out.ext e).ok D3.out.cap_le (by have := D3.out.size; omega); rw [hR2] at h; exact h)
 have HWO := Lib.hid (show ∀ W : World, Ext w3 W → Calls Try.prog 21 #[.agg #[.int .i64 o, .int .i64 n, .string t, .slice a k.len c]] W (DocRes W (okW, o5, n5, t5, k5)) from fun W e => by have h := Nf.implWithoutGroups W o n t k a c fs (D3.out.ext e).sub (D3.out.ext e).ok D3.out.cap_le (by have := D3.out.size; omega); rw [hR5] at h; exact h)
 have HOP := Lib.hid (show ∀ W : World, Ext w3 W → Calls Try.prog 22 #[.agg #[.int .i64 o, .int .i64 n, .string t, .slice a k.len c]] W (DocO.Out W OL OK) from fun W e => by have h := (DocW.toO (D3.out.ext e)).implOpen o; rw [hOL, hOK] at h; exact h)
 have HR6 := Lib.hid hR6
 have hvv : (ok != ok) = false := by simp
 have hvw : (ok == ok) = true := by simp
 clear hOL hOK hR2 hR5 hR6
 obtain ⟨x0, x1, x2, x3⟩ := X3.out
 have l := L3.out
 go_wp2_with fail
 try rw [hV]
 clear hV
 refine (HIM.out _ E3.out).mono ?_
 rintro e4 wx2 ⟨a2, c2, f2, rfl, hc9, hs9, hfr9, hb⟩
 obtain ⟨w4, hV⟩ : ∃ V, wx2.alloc (.cells #[.int .i64 o2, .int .i64 n2, .string t2, .slice a2 k2.len c2] 25) = V := ⟨_, rfl⟩
 have hbb : Ext w3 w4 := by rw [← hV]; exact Ext.trans (show Ext w3 wx2 from hb) ((Ext.refl _).alloc _)
 have X4 := Lib.hid (box4 X3.out L3.out hbb)
 have L4 := Lib.hid (Nat.lt_of_lt_of_le L3.out hbb.size)
 have E4 := Lib.hid (E3.out.trans hbb)
 have S4 := Lib.hid hbb
 have hlV : wx2.heap.size < w4.heap.size := by rw [← hV]; simp
 have Y4 := Lib.hid (show w4.cell? ⟨wx2.heap.size, 0, none⟩ = some (.int .i64 o2) ∧ w4.cell? ⟨wx2.heap.size, 1, none⟩ = some (.int .i64 n2) ∧ w4.cell? ⟨wx2.heap.size, 2, none⟩ = some (.string t2) ∧ w4.cell? ⟨wx2.heap.size, 3, none⟩ = some (.slice a2 k2.len c2) from by rw [← hV]; exact box_new wx2 25 (.int .i64 o2) (.int .i64 n2) (.string t2) (.slice a2 k2.len c2))
 have M4 := Lib.hid hlV
 have A2 := Lib.hid (show DocK.Doc0 w4 n2 t2 k2 a2 c2 f2 from (DocK.Doc0.mk hs9 (fun c hc => (hfr9.2 c hc).2) hc9 hsz2).ext (by rw [← hV]; exact (Ext.refl _).alloc _))
 clear hb hbb hc9 hs9 hfr9 hlV x0 x1 x2 x3 l
 obtain ⟨x0, x1, x2, x3⟩ := X4.out
 have l := L4.out
 go_wp2_with fail
 try rw [hV]
 clear hV
 refine (HSP.out _ E4.out).mono ?_
 rintro e5 wx3 ⟨a3, c3, f3, rfl, hc9, hs9, hfr9, hb⟩
 obtain ⟨w5, hV⟩ : ∃ V, wx3.alloc (.cells #[.int .i64 o2, .int .i64 n2, .string t2, .slice a3 k2.len c3] 25) = V := ⟨_, rfl⟩
 have hbb : Ext w4 w5 := by rw [← hV]; exact Ext.trans (show Ext w4 wx3 from hb) ((Ext.refl _).alloc _)
 have X5 := Lib.hid (box4 X4.out L4.out hbb)
 have L5 := Lib.hid (Nat.lt_of_lt_of_le L4.out hbb.size)
 have Y5 := Lib.hid (box4 Y4.out M4.out hbb)
 have M5 := Lib.hid (Nat.lt_of_lt_of_le M4.out hbb.size)
 have E5 := Lib.hid (E4.out.trans hbb)
 have S5 := Lib.hid hbb
 have hlV : wx3.heap.size < w5.heap.size := by rw [← hV]; simp
 have Z5 := Lib.hid (show w5.cell? ⟨wx3.heap.size, 0, none⟩ = some (.int .i64 o2) ∧ w5.cell? ⟨wx3.heap.size, 1, none⟩ = some (.int .i64 n2) ∧ w5.cell? ⟨wx3.heap.size, 2, none⟩ = some (.string t2) ∧ w5.cell? ⟨wx3.heap.size, 3, none⟩ = some (.slice a3 k2.len c3) from by rw [← hV]; exact box_new wx3 25 (.int .i64 o2) (.int .i64 n2) (.string t2) (.slice a3 k2.len c3))
 have P5 := Lib.hid hlV
 have A3 := Lib.hid (show DocK.Doc0 w5 n2 t2 k2 a3 c3 f3 from (DocK.Doc0.mk hs9 (fun c hc => (hfr9.2 c hc).2) hc9 hsz3).ext (by rw [← hV]; exact (Ext.refl _).alloc _))
 clear hb hbb hc9 hs9 hfr9 hlV x0 x1 x2 x3 l
 obtain ⟨x0, x1, x2, x3⟩ := X5.out
 have l := L5.out
 go_wp2_with fail
 try rw [hV]
 clear hV
 refine (HWO.out _ E5.out).mono ?_
 rintro e6 wx5 ⟨a5, c5, f5, rfl, hc9, hs9, hfr9, hb⟩
 obtain ⟨w6, hV⟩ : ∃ V, wx5.alloc (.cells #[.int .i64 o5, .int .i64 n5, .string t5, .slice a5 k5.len c5] 25) = V := ⟨_, rfl⟩
 have hbb : Ext w5 w6 := by rw [← hV]; exact Ext.trans (show Ext w5 wx5 from hb) ((Ext.refl _).alloc _)
 have X6 := Lib.hid (box4 X5.out L5.out hbb)
 have L6 := Lib.hid (Nat.lt_of_lt_of_le L5.out hbb.size)
 have Y6 := Lib.hid (box4 Y5.out M5.out hbb)
 have M6 := Lib.hid (Nat.lt_of_lt_of_le M5.out hbb.size)
 have Z6 := Lib.hid (box4 Z5.out P5.out hbb)
 have P6 := Lib.hid (Nat.lt_of_lt_of_le P5.out hbb.size)
 have E6 := Lib.hid (E5.out.trans hbb)
 have S6 := Lib.hid hbb
 have hlV : wx5.heap.size < w6.heap.size := by rw [← hV]; simp
 have B6 := Lib.hid (show w6.cell? ⟨wx5.heap.size, 0, none⟩ = some (.int .i64 o5) ∧ w6.cell? ⟨wx5.heap.size, 1, none⟩ = some (.int .i64 n5) ∧ w6.cell? ⟨wx5.heap.size, 2, none⟩ = some (.string t5) ∧ w6.cell? ⟨wx5.heap.size, 3, none⟩ = some (.slice a5 k5.len c5) from by rw [← hV]; exact box_new wx5 25 (.int .i64 o5) (.int .i64 n5) (.string t5) (.slice a5 k5.len c5))
 have Q6 := Lib.hid hlV
 have A5 := Lib.hid (show DocK.Doc0 w6 n5 t5 k5 a5 c5 f5 from (DocK.Doc0.mk hs9 (fun c hc => (hfr9.2 c hc).2) hc9 hsz5).ext (by rw [← hV]; exact (Ext.refl _).alloc _))
 clear hb hbb hc9 hs9 hfr9 hlV x0 x1 x2 x3 l
 obtain ⟨b0, b1, b2, b3⟩ := B6.out
 have q := Q6.out
 go_wp2_with fail
 try rw [hV]
 clear hV
 have HNB := Lib.hid (show ∀ W : World, Ext w6 W → Calls Try.prog 19 #[.agg #[.int .i64 o5, .int .i64 n5, .string t5, .slice a5 k5.len c5]] W (DocRes W (okN, o6, n6, t6, k6)) from fun W e => by have h := Nf.implNormalDoc W o5 n5 t5 k5 a5 c5 f5 ((A5.out.ext (Ext.refl w6)).ext e).sub ((A5.out.ext (Ext.refl w6)).ext e).ok A5.out.cap_le (by have := A5.out.size; omega); rw [HR6.out] at h; exact h)
 refine (HNB.out _ (Ext.refl w6)).mono ?_
 rintro e7 wx6 ⟨a6, c6, f6, rfl, hc9, hs9, hfr9, hb⟩
 obtain ⟨w7, hV⟩ : ∃ V, wx6.alloc (.cells #[.int .i64 o6, .int .i64 n6, .string t6, .slice a6 k6.len c6] 25) = V := ⟨_, rfl⟩
 have hbb : Ext w6 w7 := by rw [← hV]; exact Ext.trans (show Ext w6 wx6 from hb) ((Ext.refl _).alloc _)
 have X7 := Lib.hid (box4 X6.out L6.out hbb)
 have L7 := Lib.hid (Nat.lt_of_lt_of_le L6.out hbb.size)
 have Y7 := Lib.hid (box4 Y6.out M6.out hbb)
 have M7 := Lib.hid (Nat.lt_of_lt_of_le M6.out hbb.size)
 have Z7 := Lib.hid (box4 Z6.out P6.out hbb)
 have P7 := Lib.hid (Nat.lt_of_lt_of_le P6.out hbb.size)
 have B7 := Lib.hid (box4 B6.out Q6.out hbb)
 have Q7 := Lib.hid (Nat.lt_of_lt_of_le Q6.out hbb.size)
 have E7 := Lib.hid (E6.out.trans hbb)
 have S7 := Lib.hid hbb
 have hlV : wx6.heap.size < w7.heap.size := by rw [← hV]; simp
 have G7 := Lib.hid (show w7.cell? ⟨wx6.heap.size, 0, none⟩ = some (.int .i64 o6) ∧ w7.cell? ⟨wx6.heap.size, 1, none⟩ = some (.int .i64 n6) ∧ w7.cell? ⟨wx6.heap.size, 2, none⟩ = some (.string t6) ∧ w7.cell? ⟨wx6.heap.size, 3, none⟩ = some (.slice a6 k6.len c6) from by rw [← hV]; exact box_new wx6 25 (.int .i64 o6) (.int .i64 n6) (.string t6) (.slice a6 k6.len c6))
 have R7 := Lib.hid hlV
 have A6 := Lib.hid (show DocK.Doc0 w7 n6 t6 k6 a6 c6 f6 from (DocK.Doc0.mk hs9 (fun c hc => (hfr9.2 c hc).2) hc9 hsz6).ext (by rw [← hV]; exact (Ext.refl _).alloc _))
 clear hb hbb hc9 hs9 hfr9 hlV b0 b1 b2 b3 q
 obtain ⟨y0, y1, y2, y3⟩ := Y7.out
 have m := M7.out
 obtain ⟨z0, z1, z2, z3⟩ := Z7.out
 have p := P7.out
 go_wp2_with fail
 try rw [hV]
 clear hV
 have HSAME := Lib.hid (show ∀ W : World, Ext w7 W → Calls Try.prog 16 #[.agg #[.int .i64 o2, .int .i64 n2, .string t2, .slice a2 k2.len c2], .agg #[.int .i64 o2, .int .i64 n2, .string t2, .slice a3 k2.len c3]] W fun e w' => e = .returned (.bool true) ∧ Ext W w' from fun W e => by
  have := NfM.same ((A2.out.ext ((S5.out.trans S6.out).trans S7.out)).ext e) ((A3.out.ext (S6.out.trans S7.out)).ext e) o2 o2
  rw [show sameD o2 n2 t2 k2 o2 n2 t2 k2 = true by rw [sameD_yes, F.same_self]] at this
  exact this)
 refine (HSAME.out _ (Ext.refl w7)).mono ?_
 rintro e8 w8 ⟨rfl, hb⟩
 have hbb : Ext w7 w8 := hb
 have X8 := Lib.hid (box4 X7.out L7.out hbb)
 have L8 := Lib.hid (Nat.lt_of_lt_of_le L7.out hbb.size)
 have Y8 := Lib.hid (box4 Y7.out M7.out hbb)
 have M8 := Lib.hid (Nat.lt_of_lt_of_le M7.out hbb.size)
 have Z8 := Lib.hid (box4 Z7.out P7.out hbb)
 have P8 := Lib.hid (Nat.lt_of_lt_of_le P7.out hbb.size)
 have B8 := Lib.hid (box4 B7.out Q7.out hbb)
 have Q8 := Lib.hid (Nat.lt_of_lt_of_le Q7.out hbb.size)
 have G8 := Lib.hid (box4 G7.out R7.out hbb)
 have R8 := Lib.hid (Nat.lt_of_lt_of_le R7.out hbb.size)
 have E8 := Lib.hid (E7.out.trans hbb)
 have S8 := Lib.hid hbb
 clear hb hbb y0 y1 y2 y3 m z0 z1 z2 z3 p
 cases ok with
 | false =>
   clear hall
   obtain ⟨y0, y1, y2, y3⟩ := Y8.out
   have m := M8.out
   obtain ⟨z0, z1, z2, z3⟩ := Z8.out
   have p := P8.out
   go_wp2_with fail
   refine (HSAME.out _ S8.out).mono ?_
   rintro e9 w99 ⟨rfl, hb9⟩
   have q9 := Lib.hid (show Ext w8 w99 from hb9)
   clear hb9 y0 y1 y2 y3 m z0 z1 z2 z3 p
   go_wp2_with fail
   go_ret
   exact ⟨by first | rfl | simp, E1.out.trans (E3.out.trans (E8.out.trans q9.out))⟩
 | true =>
 cases okW with
 | false =>
   clear hall
   obtain ⟨y0, y1, y2, y3⟩ := Y8.out
   have m := M8.out
   obtain ⟨z0, z1, z2, z3⟩ := Z8.out
   have p := P8.out
   go_wp2_with fail
   refine (HSAME.out _ S8.out).mono ?_
   rintro e9 w99 ⟨rfl, hb9⟩
   have q9 := Lib.hid (show Ext w8 w99 from hb9)
   clear hb9 y0 y1 y2 y3 m z0 z1 z2 z3 p
   go_wp2_with fail
   go_ret
   exact ⟨by first | rfl | simp, E1.out.trans (E3.out.trans (E8.out.trans q9.out))⟩
 | true =>
 cases okN with
 | false =>
   clear hall
   obtain ⟨y0, y1, y2, y3⟩ := Y8.out
   have m := M8.out
   obtain ⟨z0, z1, z2, z3⟩ := Z8.out
   have p := P8.out
   go_wp2_with fail
   refine (HSAME.out _ S8.out).mono ?_
   rintro e9 w99 ⟨rfl, hb9⟩
   have q9 := Lib.hid (show Ext w8 w99 from hb9)
   clear hb9 y0 y1 y2 y3 m z0 z1 z2 z3 p
   go_wp2_with fail
   go_ret
   exact ⟨by first | rfl | simp, E1.out.trans (E3.out.trans (E8.out.trans q9.out))⟩
 | true =>
 obtain ⟨h1, h2, h3⟩ := hall (by first | rfl | trivial) (by first | rfl | trivial) (by first | rfl | trivial)
 clear hall
 obtain ⟨OX, hOX⟩ : ∃ X, (OpenR.openRes o6 n6 t6 k6).2 = X := ⟨_, rfl⟩
 have HOX := Lib.hid (show ∀ W : World, Ext w8 W → Calls Try.prog 22 #[.agg #[.int .i64 o6, .int .i64 n6, .string t6, .slice a6 k6.len c6]] W (DocO.Out W OL OX) from fun W e => by have h := (DocW.toO ((A6.out.ext S8.out).ext e)).implOpen o6; rw [h1, hOX] at h; exact h)
 have HCO := Lib.hid (show ∀ W : World, Ext w8 W → Calls Try.prog 23 #[.agg #[.int .i64 o6, .int .i64 n6, .string t6, .slice a6 k6.len c6], .int .i64 8] W fun e w' => e = .returned (.int .i64 0) ∧ Ext W w' from fun W e => by have h := ((A6.out.ext S8.out).ext e).implCountOps o6 8; rw [h2] at h; exact h)
 have HSO := Lib.hid (show ∀ W : World, Ext w8 W → Calls Try.prog 24 #[.agg #[.int .i64 o2, .int .i64 n2, .string t2, .slice a2 k2.len c2], .agg #[.int .i64 o6, .int .i64 n6, .string t6, .slice a6 k6.len c6]] W fun e w' => e = .returned (.bool true) ∧ Ext W w' from fun W e => by have h := Eqd.implSameOpen W o2 n2 t2 k2 a2 c2 f2 (Dr82.toIn ((A2.out.ext (((S5.out.trans S6.out).trans S7.out).trans S8.out)).ext e)) o6 n6 t6 k6 a6 c6 f6 (Dr82.toIn ((A6.out.ext S8.out).ext e)); rw [h3] at h; exact h)
 obtain ⟨ML, hML⟩ : ∃ m, OL.length = m := ⟨_, rfl⟩
 have HML := Lib.hid hML
 clear hML h1 h2 h3 hOX
 obtain ⟨x0, x1, x2, x3⟩ := X8.out
 have l := L8.out
 go_wp2_with fail
 refine (HOP.out _ E8.out).mono ?_
 rintro e9 w9 ⟨pa, ca, rfl, hla, hb⟩
 have hbb : Ext w8 w9 := hb
 have X9 := Lib.hid (box4 X8.out L8.out hbb)
 have L9 := Lib.hid (Nat.lt_of_lt_of_le L8.out hbb.size)
 have Y9 := Lib.hid (box4 Y8.out M8.out hbb)
 have M9 := Lib.hid (Nat.lt_of_lt_of_le M8.out hbb.size)
 have Z9 := Lib.hid (box4 Z8.out P8.out hbb)
 have P9 := Lib.hid (Nat.lt_of_lt_of_le P8.out hbb.size)
 have B9 := Lib.hid (box4 B8.out Q8.out hbb)
 have Q9 := Lib.hid (Nat.lt_of_lt_of_le Q8.out hbb.size)
 have G9 := Lib.hid (box4 G8.out R8.out hbb)
 have R9 := Lib.hid (Nat.lt_of_lt_of_le R8.out hbb.size)
 have E9 := Lib.hid (E8.out.trans hbb)
 have S9 := Lib.hid hbb
 have KA := Lib.hid hla
 clear hla
 rw [HML.out]
 clear hb hbb x0 x1 x2 x3 l
 obtain ⟨g0, g1, g2, g3⟩ := G9.out
 have r := R9.out
 go_wp2_with fail
 refine (HOX.out _ S9.out).mono ?_
 rintro e10 w10 ⟨pb, cb, rfl, hlb, hb⟩
 have hbb : Ext w9 w10 := hb
 have X10 := Lib.hid (box4 X9.out L9.out hbb)
 have L10 := Lib.hid (Nat.lt_of_lt_of_le L9.out hbb.size)
 have Y10 := Lib.hid (box4 Y9.out M9.out hbb)
 have M10 := Lib.hid (Nat.lt_of_lt_of_le M9.out hbb.size)
 have Z10 := Lib.hid (box4 Z9.out P9.out hbb)
 have P10 := Lib.hid (Nat.lt_of_lt_of_le P9.out hbb.size)
 have B10 := Lib.hid (box4 B9.out Q9.out hbb)
 have Q10 := Lib.hid (Nat.lt_of_lt_of_le Q9.out hbb.size)
 have G10 := Lib.hid (box4 G9.out R9.out hbb)
 have R10 := Lib.hid (Nat.lt_of_lt_of_le R9.out hbb.size)
 have E10 := Lib.hid (E9.out.trans hbb)
 have S10 := Lib.hid hbb
 have KB := Lib.hid hlb
 clear hlb
 rw [HML.out]
 clear hb hbb g0 g1 g2 g3 r
 have HLS := Lib.hid (fun (W : World) (e : Ext w10 W) => DocO.LayIs.same ((KA.out.ext S10.out).ext e) ((KB.out.ext (Ext.refl w10)).ext e))
 rw [HML.out] at HLS
 have SX := Lib.hid (show Ext w8 w10 from (S9.out.trans S10.out))
 obtain ⟨y0, y1, y2, y3⟩ := Y10.out
 have m := M10.out
 obtain ⟨g0, g1, g2, g3⟩ := G10.out
 have r := R10.out
 go_wp2_with fail
 refine (HLS.out _ (Ext.refl w10)).mono ?_
 rintro e11 w11 ⟨rfl, hb⟩
 have hbb : Ext w10 w11 := hb
 have X11 := Lib.hid (box4 X10.out L10.out hbb)
 have L11 := Lib.hid (Nat.lt_of_lt_of_le L10.out hbb.size)
 have Y11 := Lib.hid (box4 Y10.out M10.out hbb)
 have M11 := Lib.hid (Nat.lt_of_lt_of_le M10.out hbb.size)
 have Z11 := Lib.hid (box4 Z10.out P10.out hbb)
 have P11 := Lib.hid (Nat.lt_of_lt_of_le P10.out hbb.size)
 have B11 := Lib.hid (box4 B10.out Q10.out hbb)
 have Q11 := Lib.hid (Nat.lt_of_lt_of_le Q10.out hbb.size)
 have G11 := Lib.hid (box4 G10.out R10.out hbb)
 have R11 := Lib.hid (Nat.lt_of_lt_of_le R10.out hbb.size)
 have E11 := Lib.hid (E10.out.trans hbb)
 have S11 := Lib.hid hbb
 clear hb hbb y0 y1 y2 y3 m g0 g1 g2 g3 r
 obtain ⟨y0, y1, y2, y3⟩ := Y11.out
 have m := M11.out
 obtain ⟨g0, g1, g2, g3⟩ := G11.out
 have r := R11.out
 go_wp2_with fail
 refine (HCO.out _ ((S9.out.trans S10.out).trans S11.out)).mono ?_
 rintro e12 w12 ⟨rfl, hb⟩
 have hbb : Ext w11 w12 := hb
 have X12 := Lib.hid (box4 X11.out L11.out hbb)
 have L12 := Lib.hid (Nat.lt_of_lt_of_le L11.out hbb.size)
 have Y12 := Lib.hid (box4 Y11.out M11.out hbb)
 have M12 := Lib.hid (Nat.lt_of_lt_of_le M11.out hbb.size)
 have Z12 := Lib.hid (box4 Z11.out P11.out hbb)
 have P12 := Lib.hid (Nat.lt_of_lt_of_le P11.out hbb.size)
 have B12 := Lib.hid (box4 B11.out Q11.out hbb)
 have Q12 := Lib.hid (Nat.lt_of_lt_of_le Q11.out hbb.size)
 have G12 := Lib.hid (box4 G11.out R11.out hbb)
 have R12 := Lib.hid (Nat.lt_of_lt_of_le R11.out hbb.size)
 have E12 := Lib.hid (E11.out.trans hbb)
 have S12 := Lib.hid hbb
 clear hb hbb y0 y1 y2 y3 m g0 g1 g2 g3 r
 obtain ⟨y0, y1, y2, y3⟩ := Y12.out
 have m := M12.out
 obtain ⟨g0, g1, g2, g3⟩ := G12.out
 have r := R12.out
 go_wp2_with fail
 refine (HSO.out _ (((S9.out.trans S10.out).trans S11.out).trans S12.out)).mono ?_
 rintro e13 w13 ⟨rfl, hb⟩
 have hbb : Ext w12 w13 := hb
 have X13 := Lib.hid (box4 X12.out L12.out hbb)
 have L13 := Lib.hid (Nat.lt_of_lt_of_le L12.out hbb.size)
 have Y13 := Lib.hid (box4 Y12.out M12.out hbb)
 have M13 := Lib.hid (Nat.lt_of_lt_of_le M12.out hbb.size)
 have Z13 := Lib.hid (box4 Z12.out P12.out hbb)
 have P13 := Lib.hid (Nat.lt_of_lt_of_le P12.out hbb.size)
 have B13 := Lib.hid (box4 B12.out Q12.out hbb)
 have Q13 := Lib.hid (Nat.lt_of_lt_of_le Q12.out hbb.size)
 have G13 := Lib.hid (box4 G12.out R12.out hbb)
 have R13 := Lib.hid (Nat.lt_of_lt_of_le R12.out hbb.size)
 have E13 := Lib.hid (E12.out.trans hbb)
 have S13 := Lib.hid hbb
 clear hb hbb y0 y1 y2 y3 m g0 g1 g2 g3 r
 go_wp2_with fail
 go_ret
 exact ⟨by first | rfl | simp, E1.out.trans (E3.out.trans E13.out)⟩
set_option maxHeartbeats 400000 in
theorem walk_big (w : World) (a0 : Option Addr) (len0 cap0 : Nat) (hl0 : 1048576 < len0) :
  Calls Try.prog 5 #[.slice a0 len0 cap0] w fun e w' => e = .returned (.bool true) ∧ Ext w w' := by
 have h1 : (1048576 : Int) < (len0 : Int) := by omega
 go_enter Try.func5, Try.ntmps5
 go_wp2_with fail
 go_ret
 exact ⟨rfl, Ext.refl w⟩
theorem walk (w : World) (a0 : Option Addr) (len0 cap0 : Nat) (hb0 : Bytes w a0 len0) (hlc0 : len0 ≤ cap0) (hcm0 : cap0 ≤ maxLen) :
  Calls Try.prog 5 #[.slice a0 len0 cap0] w fun e w' => e = .returned (.bool true) ∧ Below w.heap.size w w' := by
 by_cases h : 1048576 < len0
 ·exact walk_big w a0 len0 cap0 h
 ·exact walk_good w a0 len0 cap0 hb0 hlc0 hcm0 (by omega)
theorem lifted (os : Os) (started : os.Started) (H : Type) (enc : TypeId × Value → H) :
  ReturnsInHanded {} Try.checked os 5 .any (Rows.fnNormalOpenSpec.pre6 enc Try.prog Try.f5 Rows.fnNormalOpenRow.domain false) (Rows.fnNormalOpenSpec.post enc Try.prog Try.f5 false true false false) := by
 refine returnsInHanded_of_change (C := Try.checked) Facts.own started (by kernel_rfl) Try.func5
  (ChangeSpec.witness6 (enc := enc) (C := Try.checked) false ⟨#[], #[.slice none 0 0], []⟩ 8 (by kernel_rfl) (by kernel_rfl) (by kernel_rfl) (by kernel_rfl)) ?_
 intro W base args ds gs before hval0 hW hcnd0 _
 clear hcnd0
 have hval : ∀ (j : Nat) t v, Try.f5.params[j]? = some t → args[j]? = some v → Value.okWide Try.prog W .any base t v := hval0
 have hW' := hW
 obtain ⟨p, q, hA0, hV, rfl, hfz, hnd⟩ := hW
 have hA : DataW.TrodAll enc Try.prog W 0 (fun _ => true) true Try.f5.params.toList args.toList ds p := hA0
 rw [Try.params5] at hA hval
 obtain ⟨v0, d0, rfl, rfl, h0⟩ := trodAll_one hA
 obtain ⟨rfl, rfl⟩ := trodVars_none hV
 obtain ⟨a0, len0, cap0, rfl⟩ := okWide_slice Try.underlying22 (hval 0 22 v0 rfl rfl)
 clear hA0 hval0
 simp only [List.append_nil] at hW'
 have hlt : ∀ x ∈ p, x.block < W.heap.size := fun x hx => by simpa using hW'.lt x hx
 obtain ⟨hb0, hlc0, hcm0⟩ := opened h0
 refine (walk W a0 len0 cap0 hb0 hlc0 hcm0).mono fun e W' ⟨he, hb⟩ => ?_
 subst he
 refine ⟨_, rfl, [_], [], p, [], p, [], hW', trodAll_mk1 (shut_bool Try.underlying4 _), ?_, rfl, hb.frame _, fun h => by cases h⟩
 exact trodAll_mk1 (Below.trod Facts.laidOut (by kernel_rfl) (of_decide_eq_true (by kernel_rfl)) h0 hb hlt)
theorem named : Try.prog.funcNamed Rows.fnNormalOpenRow.func = some 5 := by kernel_rfl
theorem closed : joinedFacts Try.prog 5 Try.f5 Rows.fnNormalOpenSpec Rows.fnNormalOpenRow = true :=
 Facts.closed_of rfl rfl rfl rfl (h28b := rfl) (by kernel_rfl) (by kernel_rfl) (by kernel_rfl) (by kernel_rfl) (by kernel_rfl) (by kernel_rfl) (by kernel_rfl) (by kernel_rfl) (by kernel_rfl) (by kernel_rfl) (by kernel_rfl) (by kernel_rfl) (by kernel_rfl) (by kernel_rfl) (by kernel_rfl) (by kernel_rfl) (by kernel_rfl) (by kernel_rfl) (by kernel_rfl) (by kernel_rfl) (by kernel_rfl) (by kernel_rfl) (by kernel_rfl) (by kernel_rfl)
theorem instanced : Try.f5.isInstance Try.prog Rows.fnNormalOpenRow.origin Rows.fnNormalOpenRow.targs := of_decide_eq_true (by kernel_rfl)
theorem wrapped : Try.f5.isWrapper Try.prog Rows.fnNormalOpenRow.wrapper Rows.fnNormalOpenRow.mainSum := by
 unfold Func.isWrapper
 rw [if_neg (of_decide_eq_false (by kernel_rfl))]
 exact ⟨rfl, rfl⟩
theorem holds : Rows.FnNormalOpenSaid :=
 OpenClaim.holds_of_wide 5 Try.f5 rfl rfl rfl rfl rfl rfl rfl ⟨rfl, rfl, rfl, rfl, rfl⟩ rfl rfl rfl rfl rfl named Try.func5 closed instanced wrapped
  (fun os started H enc _ => lifted os started H enc)
end Go.Proofs.Ytjcaiecapapceaa.lawNormalOpen
