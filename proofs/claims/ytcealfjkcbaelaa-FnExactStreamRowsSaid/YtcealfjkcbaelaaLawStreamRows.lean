import Derived.Test.YtcealfjkcbaelaaOpenT
import Derived.Test.YtcealfjkcbaelaaTkK
import Derived.Test.YtcealfjkcbaelaaTkL
import Derived.Test.YtcealfjkcbaelaaTkM
import Derived.Test.YtcealfjkcbaelaaOpenN
import Derived.Test.YtcealfjkcbaelaaLyA
import Derived.Test.YtcealfjkcbaelaaTkY
import Derived.Test.YtcealfjkcbaelaaExK
import Derived.Test.YtcealfjkcbaelaaPl
import Derived.Test.YtcealfjkcbaelaaFacts
import Derived.Test.YtcealfjkcbaelaaRows
/-
  For every list of tokens and width that can be read as data, StreamRows of the program answers as StreamRows of the model, changes nothing of its arguments, and its answer owns its memory: the law FnExactStreamRows returns true, and its arguments read as they did. No condition of ours; as the row says, an argument that leads back into itself is not read.
-/
set_option linter.unusedVariables false
set_option linter.unusedSimpArgs false
namespace Go.Proofs.Ytcealfjkcbaelaa.lawStreamRows
open Go.ChangeShapes Go.WideShapes Go.ChangeAt Go.RowKit P1

set_option maxRecDepth 100000 in
set_option maxHeartbeats 1600000 in
theorem walk_big0 (w : World) (l0 : List (Int × Int × ByteArray)) (a0 : Option Addr) (c0 : Nat) (f0 : List Nat) (x1 : Int) (hs0 : TkSub w a0 l0 f0) (hc0 : l0.length ≤ c0) (hl0 : l0.length ≤ maxLen) (ht0 : TL.Fits l0) (hx1 : -9223372036854775808 ≤ x1 ∧ x1 ≤ 9223372036854775807)  (hbig : 1048576 < (TL.size l0 : Int)) :
    Calls Try.prog 15 #[.slice a0 l0.length c0, .int .i64 x1] w fun e w' => e = .returned (.bool true) ∧ Below w.heap.size w w' := by
  have hsz0 := fun (w1 : World) (h1 : Ext w w1) => TkL.szTokenS l0 w1 a0 c0 f0 1048576 (hs0.below hs0.lt h1) hc0 hl0 ht0 (by omega) (by omega)
  rw [leftR_no hbig] at hsz0
  have HSZ0 := Lib.hid hsz0
  have HE0 := Lib.hid (show Ext w w from (Ext.refl w))
  clear hsz0 hbig hs0 hc0 hl0 ht0 
  go_enter Try.func15, Try.ntmps15
  go_wp2_with fail
  refine (HSZ0.out _ HE0.out).mono ?_
  rintro e1 w1 ⟨rfl, hb⟩
  have H1 := Lib.hid (Ext.trans HE0.out hb)
  clear hb
  go_wp2_with fail
  go_ret
  exact ⟨rfl, H1.out⟩

set_option maxRecDepth 100000 in
set_option maxHeartbeats 12800000 in
theorem walk_good (w : World) (l0 : List (Int × Int × ByteArray)) (a0 : Option Addr) (c0 : Nat) (f0 : List Nat) (x1 : Int) (hs0 : TkSub w a0 l0 f0) (hc0 : l0.length ≤ c0) (hl0 : l0.length ≤ maxLen) (ht0 : TL.Fits l0) (hx1 : -9223372036854775808 ≤ x1 ∧ x1 ≤ 9223372036854775807) (z0 : Int) (hz0 : 1048576 - (TL.size l0 : Int) = z0) (hzn0 : 0 ≤ z0) :
    Calls Try.prog 15 #[.slice a0 l0.length c0, .int .i64 x1] w fun e w' => e = .returned (.bool true) ∧ Below w.heap.size w w' := by
  have HE0 := Lib.hid (show Ext w w from (Ext.refl w))
  have hsz0 := fun (w1 : World) (h1 : Ext w w1) => TkL.szTokenS l0 w1 a0 c0 f0 1048576 (hs0.below hs0.lt h1) hc0 hl0 ht0 (by omega) (by omega)
  rw [leftR_yes (by omega), hz0] at hsz0
  have hzq0 : ¬ (z0 < 0) := by omega
  have HSZ0 := Lib.hid hsz0
  have hle0 : l0.length ≤ 1048576 := by unfold TL.size at hz0; omega
  have hto0 := fun (w1 : World) (h1 : Ext w w1) => TkL.toTokenS l0 w1 a0 c0 f0 (hs0.below hs0.lt h1) hc0 hle0
  have heq0 := fun (w1 : World) (a1 a2 : Option Addr) (f1 f2 : List Nat) (h1 : TkSub w1 a1 l0 f1) (h2 : TkSub w1 a2 l0 f2) => TkL.eqTokenS l0 l0 w1 a1 a2 l0.length l0.length f1 f2 h1 h2 (Nat.le_refl _) (Nat.le_refl _) hl0 hl0
  rw [decide_eq_true rfl] at heq0
  have HTO0 := Lib.hid hto0
  have HEQ0 := Lib.hid heq0
  have hspec := fun (w1 : World) (b0 : Option Addr) (g0 : List Nat) (h0 : TkSub w1 b0 l0 g0) => Sq.specStreamRows l0 x1 w1 b0 l0.length g0 h0 (Nat.le_refl _) hl0 ht0
  have himpl := fun (w1 : World) (b0 : Option Addr) (g0 : List Nat) (h0 : TkSub w1 b0 l0 g0) => StM.implStreamRows l0 x1 w1 b0 l0.length g0 h0 (Nat.le_refl _) hl0 ht0
  have hlr := StM.sr_len x1 l0
  obtain ⟨⟨X, v0⟩, hr⟩ : ∃ r, Tk.srR x1 l0 = r := ⟨_, rfl⟩
  rw [hr] at hspec himpl hlr
  have hvv0 : (v0 != v0) = false := by simp
  have hXl : X.length ≤ 1048576 := hlr
  have hXm : X.length ≤ maxLen := by unfold maxLen; omega
  have heqX := fun (w1 : World) (a1 a2 : Option Addr) (c1 c2 : Nat) (f1 f2 : List Nat) (h1 : LaySub w1 a1 X f1) (h2 : LaySub w1 a2 X f2) (h3 : X.length ≤ c1) (h4 : X.length ≤ c2) => LayL.eqRowS X X w1 a1 a2 c1 c2 f1 f2 h1 h2 h3 h4 hXm hXm
  rw [decide_eq_true rfl] at heqX
  have HEQX := Lib.hid heqX
  obtain ⟨kk1, hk1⟩ : ∃ q : Nat, 1 + 3 * l0.length = q := ⟨_, rfl⟩
  have hkn1 : ¬ ((kk1 : Int) < 0) := by omega
  have HMK0 := Lib.hid (fun (w1 : World) (b : Option Addr) (g : List Nat) (lo : Nat) (h : TkSub w1 b l0 g) (hF : Fresh lo w1 g) => TkM.markTokenS l0 1 kk1 1 rfl hk1 (by omega) (by omega) w1 b l0.length g lo h hF (Nat.le_refl _))
  obtain ⟨mm, hmm⟩ : ∃ k : Nat, 1 + 2 * X.length = k := ⟨_, rfl⟩
  have hmn : ¬ ((mm : Int) < 0) := by omega
  have hme : ((mm : Int) != (mm : Int)) = false := by simp
  have HMG := Lib.hid (fun (w1 : World) (b : Option Addr) (c : Nat) (g : List Nat) (lo : Nat) (h : LaySub w1 b X g) (hF : Fresh lo w1 g) (hc : X.length ≤ c) => LayM.markRowS X 1 mm 1 rfl hmm (by omega) (by omega) w1 b c g lo h hF hc)
  have HHG := Lib.hid (fun (w1 : World) (b : Option Addr) (c : Nat) (g : List Nat) (h : LaySub w1 b (L.mk X 1) g) (hc : X.length ≤ c) => LayM.heldRowS X 1 mm X.length 1 rfl hmm rfl (by omega) (by omega) w1 b c g h hc)
  have HSP := Lib.hid (fun (w1 : World) (b0 : Option Addr) (g0 : List Nat) (h0 : TkSub w1 b0 l0 g0) => (hspec w1 b0 g0 h0).mono fun _ _ h => LayN.LayRes.out h)
  have HIM := Lib.hid (fun (w1 : World) (b0 : Option Addr) (g0 : List Nat) (h0 : TkSub w1 b0 l0 g0) => (himpl w1 b0 g0 h0).mono fun _ _ h => LayN.LayRes.out h)
  clear hspec himpl hle0 hsz0 hto0 heq0 hs0 hc0 hl0 ht0 hz0 hr heqX hlr hk1 hmm hXl hXm 
  go_enter Try.func15, Try.ntmps15
  go_wp2_with fail
  refine (HSZ0.out _ HE0.out).mono ?_
  rintro e1 w1 ⟨rfl, hb⟩
  have E1 := Lib.hid (show Ext w w1 from Ext.trans HE0.out hb)
  have S1 := Lib.hid (show w.heap.size ≤ w1.heap.size from E1.out.size)
  clear hb
  go_wp2_with fail
  refine (HTO0.out _ E1.out).mono ?_
  rintro e1 w2 ⟨ps0, qs0, rfl, hs, hfr, hb⟩
  have E2 := Lib.hid (show Ext w w2 from Ext.trans E1.out hb)
  have S2 := Lib.hid hb.size
  have Ks0 := Lib.hid (Tk.Lies.new hs hfr)
  clear hs hfr hb
  go_wp2_with fail
  refine (HSP.out _ _ _ Ks0.out.sub).mono ?_
  rintro e1 w3 ⟨pw, cw, qw, rfl, hc, hs, hfr, hb⟩
  have Ks0q := Lib.hid (Ks0.out.below hb)
  clear Ks0
  have Ks0 := Lib.hid Ks0q.out
  clear Ks0q
  have E3 := Lib.hid (show Ext w w3 from Ext.trans E2.out hb)
  have S3 := Lib.hid hb.size
  have Kw := Lib.hid (LayN.Lies.new hs hfr)
  have Cw := Lib.hid hc
  clear hc hs hfr hb
  go_wp2_with fail
  clear Ks0
  refine (HTO0.out _ E3.out).mono ?_
  rintro e1 w4 ⟨px0, qx0, rfl, hs, hfr, hb⟩
  have Kwq := Lib.hid (Kw.out.below hb)
  clear Kw
  have Kw := Lib.hid Kwq.out
  clear Kwq
  have E4 := Lib.hid (show Ext w w4 from Ext.trans E3.out hb)
  have S4 := Lib.hid hb.size
  have Kx0 := Lib.hid (Tk.Lies.new hs hfr)
  clear hs hfr hb
  go_wp2_with fail
  refine (HIM.out _ _ _ Kx0.out.sub).mono ?_
  rintro e1 w5 ⟨pg, cg, qg, rfl, hc, hs, hfr, hb⟩
  have Kwq := Lib.hid (Kw.out.below hb)
  clear Kw
  have Kw := Lib.hid Kwq.out
  clear Kwq
  have Kx0q := Lib.hid (Kx0.out.below hb)
  clear Kx0
  have Kx0 := Lib.hid Kx0q.out
  clear Kx0q
  have E5 := Lib.hid (show Ext w w5 from Ext.trans E4.out hb)
  have S5 := Lib.hid hb.size
  have Kg := Lib.hid (LayN.Lies.new hs hfr)
  have Cg := Lib.hid hc
  clear hc hs hfr hb
  go_wp2_with fail
  refine (HEQX.out _ _ _ _ _ _ _ Kg.out.sub Kw.out.sub Cg.out Cw.out).mono ?_
  rintro e1 w6 ⟨rfl, hb⟩
  have Kwq := Lib.hid (Kw.out.below hb)
  clear Kw
  have Kw := Lib.hid Kwq.out
  clear Kwq
  have Kx0q := Lib.hid (Kx0.out.below hb)
  clear Kx0
  have Kx0 := Lib.hid Kx0q.out
  clear Kx0q
  have Kgq := Lib.hid (Kg.out.below hb)
  clear Kg
  have Kg := Lib.hid Kgq.out
  clear Kgq
  have E6 := Lib.hid (show Ext w w6 from Ext.trans E5.out hb)
  have S6 := Lib.hid hb.size
  clear hb
  go_wp2_with fail
  refine (HTO0.out _ E6.out).mono ?_
  rintro e1 w7 ⟨py0, qy0, rfl, hs, hfr, hb⟩
  have Kwq := Lib.hid (Kw.out.below hb)
  clear Kw
  have Kw := Lib.hid Kwq.out
  clear Kwq
  have Kx0q := Lib.hid (Kx0.out.below hb)
  clear Kx0
  have Kx0 := Lib.hid Kx0q.out
  clear Kx0q
  have Kgq := Lib.hid (Kg.out.below hb)
  clear Kg
  have Kg := Lib.hid Kgq.out
  clear Kgq
  have E7 := Lib.hid (show Ext w w7 from Ext.trans E6.out hb)
  have S7 := Lib.hid hb.size
  have Ky0 := Lib.hid (Tk.Lies.new hs hfr)
  clear hs hfr hb
  go_wp2_with fail
  refine (HEQ0.out _ _ _ _ _ Kx0.out.sub Ky0.out.sub).mono ?_
  rintro e1 w8 ⟨rfl, hb⟩
  have Kwq := Lib.hid (Kw.out.below hb)
  clear Kw
  have Kw := Lib.hid Kwq.out
  clear Kwq
  have Kx0q := Lib.hid (Kx0.out.below hb)
  clear Kx0
  have Kx0 := Lib.hid Kx0q.out
  clear Kx0q
  have Kgq := Lib.hid (Kg.out.below hb)
  clear Kg
  have Kg := Lib.hid Kgq.out
  clear Kgq
  have Ky0q := Lib.hid (Ky0.out.below hb)
  clear Ky0
  have Ky0 := Lib.hid Ky0q.out
  clear Ky0q
  have E8 := Lib.hid (show Ext w w8 from Ext.trans E7.out hb)
  have S8 := Lib.hid hb.size
  clear hb
  clear Ky0
  go_wp2_with fail
  refine (HMK0.out _ _ _ _ Kx0.out.sub Kx0.out.fresh).mono ?_
  rintro e1 w9 ⟨rfl, hs, hO⟩
  have HI := Lib.hid Kx0.out.inn
  have Kwq := Lib.hid (Kw.out.past hO HI.out (Or.inl (by have := S1.out; have := S2.out; have := S3.out; have := S4.out; have := S5.out; have := S6.out; have := S7.out; have := S8.out; omega)))
  clear Kw
  have Kw := Lib.hid Kwq.out
  clear Kwq
  have Kgq := Lib.hid (Kg.out.past hO HI.out (Or.inr (by have := S1.out; have := S2.out; have := S3.out; have := S4.out; have := S5.out; have := S6.out; have := S7.out; have := S8.out; omega)))
  clear Kg
  have Kg := Lib.hid Kgq.out
  clear Kgq
  have E9 := Lib.hid (E8.out.past hO HI.out (by have := S1.out; have := S2.out; have := S3.out; have := S4.out; have := S5.out; have := S6.out; have := S7.out; have := S8.out; omega))
  have S9 := Lib.hid hO.size
  clear hs hO HI
  clear Kx0
  go_wp2_with fail
  refine (HEQX.out _ _ _ _ _ _ _ Kg.out.sub Kw.out.sub Cg.out Cw.out).mono ?_
  rintro e1 w10 ⟨rfl, hb⟩
  have Kwq := Lib.hid (Kw.out.below hb)
  clear Kw
  have Kw := Lib.hid Kwq.out
  clear Kwq
  have Kgq := Lib.hid (Kg.out.below hb)
  clear Kg
  have Kg := Lib.hid Kgq.out
  clear Kgq
  have E10 := Lib.hid (show Ext w w10 from Ext.trans E9.out hb)
  have S10 := Lib.hid hb.size
  clear hb
  go_wp2_with fail
  refine (HMG.out _ _ _ _ _ Kg.out.sub Kg.out.fresh Cg.out).mono ?_
  rintro e1 w11 ⟨rfl, hs, hO⟩
  have HI := Lib.hid Kg.out.inn
  have Kwq := Lib.hid (Kw.out.past hO HI.out (Or.inl (by have := S1.out; have := S2.out; have := S3.out; have := S4.out; have := S5.out; have := S6.out; have := S7.out; have := S8.out; have := S9.out; have := S10.out; omega)))
  clear Kw
  have Kw := Lib.hid Kwq.out
  clear Kwq
  have E11 := Lib.hid (E10.out.past hO HI.out (by have := S1.out; have := S2.out; have := S3.out; have := S4.out; have := S5.out; have := S6.out; have := S7.out; have := S8.out; have := S9.out; have := S10.out; omega))
  have S11 := Lib.hid hO.size
  have Kgq := Lib.hid (Kg.out.mark hO hs)
  clear Kg hs hO HI
  have Kg := Lib.hid Kgq.out
  clear Kgq
  go_wp2_with fail
  refine (HHG.out _ _ _ _ Kg.out.sub Cg.out).mono ?_
  rintro e1 w12 ⟨rfl, hb⟩
  have Kwq := Lib.hid (Kw.out.below hb)
  clear Kw
  have Kw := Lib.hid Kwq.out
  clear Kwq
  have Kgq := Lib.hid (Kg.out.below hb)
  clear Kg
  have Kg := Lib.hid Kgq.out
  clear Kgq
  have E12 := Lib.hid (show Ext w w12 from Ext.trans E11.out hb)
  have S12 := Lib.hid hb.size
  clear hb
  go_wp2_with fail
  refine (HTO0.out _ E12.out).mono ?_
  rintro e1 w13 ⟨pv0, qv0, rfl, hs, hfr, hb⟩
  have Kwq := Lib.hid (Kw.out.below hb)
  clear Kw
  have Kw := Lib.hid Kwq.out
  clear Kwq
  have Kgq := Lib.hid (Kg.out.below hb)
  clear Kg
  have Kg := Lib.hid Kgq.out
  clear Kgq
  have E13 := Lib.hid (show Ext w w13 from Ext.trans E12.out hb)
  have S13 := Lib.hid hb.size
  have Kv0 := Lib.hid (Tk.Lies.new hs hfr)
  clear hs hfr hb
  go_wp2_with fail
  refine (HIM.out _ _ _ Kv0.out.sub).mono ?_
  rintro e1 w14 ⟨ph, ch, qh, rfl, hc, hs, hfr, hb⟩
  have Kwq := Lib.hid (Kw.out.below hb)
  clear Kw
  have Kw := Lib.hid Kwq.out
  clear Kwq
  have Kgq := Lib.hid (Kg.out.below hb)
  clear Kg
  have Kg := Lib.hid Kgq.out
  clear Kgq
  have Kv0q := Lib.hid (Kv0.out.below hb)
  clear Kv0
  have Kv0 := Lib.hid Kv0q.out
  clear Kv0q
  have E14 := Lib.hid (show Ext w w14 from Ext.trans E13.out hb)
  have S14 := Lib.hid hb.size
  have Kh := Lib.hid (LayN.Lies.new hs hfr)
  have Ch := Lib.hid hc
  clear hc hs hfr hb
  go_wp2_with fail
  clear Kv0
  refine (HEQX.out _ _ _ _ _ _ _ Kh.out.sub Kw.out.sub Ch.out Cw.out).mono ?_
  rintro e1 w15 ⟨rfl, hb⟩
  have Kwq := Lib.hid (Kw.out.below hb)
  clear Kw
  have Kw := Lib.hid Kwq.out
  clear Kwq
  have Kgq := Lib.hid (Kg.out.below hb)
  clear Kg
  have Kg := Lib.hid Kgq.out
  clear Kgq
  have Khq := Lib.hid (Kh.out.below hb)
  clear Kh
  have Kh := Lib.hid Khq.out
  clear Khq
  have E15 := Lib.hid (show Ext w w15 from Ext.trans E14.out hb)
  have S15 := Lib.hid hb.size
  clear hb
  go_wp2_with fail
  refine (HHG.out _ _ _ _ Kg.out.sub Cg.out).mono ?_
  rintro e1 w16 ⟨rfl, hb⟩
  have Kwq := Lib.hid (Kw.out.below hb)
  clear Kw
  have Kw := Lib.hid Kwq.out
  clear Kwq
  have Kgq := Lib.hid (Kg.out.below hb)
  clear Kg
  have Kg := Lib.hid Kgq.out
  clear Kgq
  have Khq := Lib.hid (Kh.out.below hb)
  clear Kh
  have Kh := Lib.hid Khq.out
  clear Khq
  have E16 := Lib.hid (show Ext w w16 from Ext.trans E15.out hb)
  have S16 := Lib.hid hb.size
  clear hb
  go_wp2_with fail
  go_ret
  exact ⟨rfl, E16.out⟩

theorem walk (w : World) (l0 : List (Int × Int × ByteArray)) (a0 : Option Addr) (c0 : Nat) (f0 : List Nat) (x1 : Int) (hs0 : TkSub w a0 l0 f0) (hc0 : l0.length ≤ c0) (hl0 : l0.length ≤ maxLen) (ht0 : TL.Fits l0) (hx1 : -9223372036854775808 ≤ x1 ∧ x1 ≤ 9223372036854775807) :
    Calls Try.prog 15 #[.slice a0 l0.length c0, .int .i64 x1] w fun e w' => e = .returned (.bool true) ∧ Below w.heap.size w w' := by
  by_cases h0 : (1048576 : Int) < (TL.size l0 : Int)
  · exact walk_big0 w l0 a0 c0 f0 x1 hs0 hc0 hl0 ht0 hx1 h0
  exact walk_good w l0 a0 c0 f0 x1 hs0 hc0 hl0 ht0 hx1 _ rfl (by omega)

set_option maxRecDepth 100000 in
theorem lifted (os : Os) (started : os.Started) (H : Type) (enc : TypeId × Value → H) :
    ReturnsInHanded {} Try.checked os 15 .any (Rows.fnExactStreamRowsSpec.pre6 enc Try.prog Try.f15 Rows.fnExactStreamRowsRow.domain false) (Rows.fnExactStreamRowsSpec.post enc Try.prog Try.f15 false true false false) := by
  refine returnsInHanded_of_change (C := Try.checked) Facts.own started (by kernel_rfl) Try.func15
    (ChangeSpec.witness6 (enc := enc) (C := Try.checked) false ⟨#[], #[.slice none 0 0, .int .i64 0], []⟩ 8 (by kernel_rfl) (by kernel_rfl) (by kernel_rfl) (by kernel_rfl)) ?_
  intro W base args ds gs before hval0 hW hcnd0 _
  clear hcnd0
  have hval : ∀ (j : Nat) t v, Try.f15.params[j]? = some t → args[j]? = some v → Value.okWide Try.prog W .any base t v := hval0
  have hW' := hW
  obtain ⟨p, q, hA0, hV, rfl, hfz, hnd⟩ := hW
  have hA : DataW.TrodAll enc Try.prog W 0 (fun _ => true) true Try.f15.params.toList args.toList ds p := hA0
  rw [Try.params15] at hA hval
  obtain ⟨v0, v1, d0, d1, p0, p1, rfl, rfl, rfl, h0, h1⟩ := trodAll_two hA
  obtain ⟨rfl, rfl⟩ := trodVars_none hV
  obtain ⟨l0, a0, c0, f0, rfl, ht0, hl0, hc0, hs0⟩ := OpenT.open_toks (hval 0 69 v0 rfl rfl) h0
  obtain ⟨x1, rfl, hx1⟩ := OpenN.open_int (hval 1 3 v1 rfl rfl) h1
  clear hA0 hval0
  simp only [List.append_nil] at hW'
  have hlt : ∀ x ∈ p0 ++ p1, x.block < W.heap.size := fun x hx => by simpa using hW'.lt x hx
  refine (walk W l0 a0 c0 f0 x1 hs0 hc0 hl0 ht0 hx1).mono fun e W' ⟨he, hb⟩ => ?_
  subst he
  refine ⟨_, rfl, [d0, d1], [], p0 ++ p1, [], p0 ++ p1, [], hW', trodAll_mk1 (shut_bool Try.underlying4 _), ?_, rfl, hb.frame _, fun h => by cases h⟩
  exact trodAll_mk2 (Below.trod Facts.laidOut (by kernel_rfl) (of_decide_eq_true (by kernel_rfl)) h0 hb (fun x hx => hlt x (List.mem_append_left _ hx))) (Below.trod Facts.laidOut (by kernel_rfl) (of_decide_eq_true (by kernel_rfl)) h1 hb (fun x hx => hlt x (List.mem_append_right _ hx)))

theorem named : Try.prog.funcNamed Rows.fnExactStreamRowsRow.func = some 15 := by kernel_rfl
theorem closed : joinedFacts Try.prog 15 Try.f15 Rows.fnExactStreamRowsSpec Rows.fnExactStreamRowsRow = true :=
  Facts.closed_of rfl rfl rfl rfl (h28b := rfl) (by kernel_rfl) (by kernel_rfl) (by kernel_rfl) (by kernel_rfl) (by kernel_rfl) (by kernel_rfl) (by kernel_rfl) (by kernel_rfl) (by kernel_rfl) (by kernel_rfl) (by kernel_rfl) (by kernel_rfl) (by kernel_rfl) (by kernel_rfl) (by kernel_rfl) (by kernel_rfl) (by kernel_rfl) (by kernel_rfl) (by kernel_rfl) (by kernel_rfl) (by kernel_rfl) (by kernel_rfl) (by kernel_rfl) (by kernel_rfl)
theorem instanced : Try.f15.isInstance Try.prog Rows.fnExactStreamRowsRow.origin Rows.fnExactStreamRowsRow.targs := of_decide_eq_true (by kernel_rfl)
theorem wrapped : Try.f15.isWrapper Try.prog Rows.fnExactStreamRowsRow.wrapper Rows.fnExactStreamRowsRow.mainSum := by
  unfold Func.isWrapper
  rw [if_neg (of_decide_eq_false (by kernel_rfl))]
  exact ⟨rfl, rfl⟩

theorem holds : Rows.FnExactStreamRowsSaid :=
  OpenClaim.holds_of_wide 15 Try.f15 rfl rfl rfl rfl rfl rfl rfl ⟨rfl, rfl, rfl, rfl, rfl⟩ rfl rfl rfl rfl rfl named Try.func15 closed instanced wrapped
    (fun os started H enc _ => lifted os started H enc)

end Go.Proofs.Ytcealfjkcbaelaa.lawStreamRows

