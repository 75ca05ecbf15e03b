import Derived.Test.YtclifbjnooilmaaGreatOpen
import Derived.Test.YtclifbjnooilmaaGreatSz
import Derived.Test.YtclifbjnooilmaaGreatMark
import Derived.Test.YtclifbjnooilmaaGreatGgX
import Derived.Test.YtclifbjnooilmaaGreatExK
import Derived.Test.YtclifbjnooilmaaGreatFacts
/-
 For every document that can be read as data, FirstGap of the program answers as FirstGap of the model and changes nothing of its arguments: the law FnExactFirstGap returns true, and its arguments read as they did. No condition of ours; as the row says, an argument that leads back into itself is not read.
-/
set_option linter.unusedVariables false
set_option linter.unusedSimpArgs false
set_option maxRecDepth 100000
set_option maxHeartbeats 12800000
namespace Go.Proofs.YtclifbjnooilmaaGreat.lawFirstGap
theorem zpgLawFirstGap {α : Type} : (∀ (l : List α) (i : Nat) (h : i < l.toArray.size), l.toArray[i]'h = l[i]'(by simpa using h)) ∧ (∀ (x : α) (l : List α) (h : 0 < (x :: l).length), (x :: l)[0]'h = x) ∧ (∀ (x : α) (l : List α) (i : Nat) (h : i + 1 < (x :: l).length), (x :: l)[i + 1]'h = l[i]'(by simpa using h)) := ⟨fun _ _ _ => rfl, fun _ _ _ => rfl, fun _ _ _ _ => rfl⟩
open Go.ChangeShapes Go.WideShapes Go.ChangeAt Go.RowKit P1
theorem walk_big0 (w : World) (o0 n0 : Int) (t0 : ByteArray) (k0 : F) (a0 : Option Addr) (c0 : Nat) (f0 : List Nat) (hs0 : SubAt w a0 k0 f0) (hfs0 : ∀ c ∈ f0, c < w.heap.size) (hc0 : k0.len ≤ c0) (hl0 : k0.len ≤ maxLen) (hft0 : k0.Fits) (ht0 : t0.size ≤ maxLen)  (hbig : 1048576 < ((t0.size + k0.size : Nat) : Int)) :
  Calls Tryz.prog 10 #[.agg #[.int .i64 o0, .int .i64 n0, .string t0, .slice a0 k0.len c0]] w fun e w' => e = .returned (.bool true) ∧ Below w.heap.size w w' := by
 have hsz0 := fun (w1 : World) (h1 : Ext w w1) => Sz.szDoc (Sz.szS_any k0) o0 n0 t0 w1 a0 c0 f0 1048576 (h1.sub hs0 hfs0) (fun c hc => Nat.lt_of_lt_of_le (hfs0 c hc) h1.size) hc0 hl0 hft0 ht0 (by omega) (by omega)
 rw [Sz.szR_no hbig] at hsz0
 have HSZ0 := Lib.hid hsz0
 have HE0 := Lib.hid (show Ext w (w.alloc (.cells #[.int .i64 o0, .int .i64 n0, .string t0, .slice a0 k0.len c0] 52)) from ((Ext.refl w).alloc _))
 clear hsz0 hbig hs0 hfs0 hc0 hl0 hft0 ht0 
 go_enter Tryz.func10, Tryz.ntmps10
 go_wp2_with fail
 refine (HSZ0.out _ HE0.out).mono ?_
 rintro e1 w1 ⟨rfl, hb⟩
 have H1 := Lib.hid (Ext.trans HE0.out hb)
 clear hb
 go_wp2_with fail
 go_ret
 exact ⟨rfl, H1.out⟩
theorem walk_good (w : World) (o0 n0 : Int) (t0 : ByteArray) (k0 : F) (a0 : Option Addr) (c0 : Nat) (f0 : List Nat) (hs0 : SubAt w a0 k0 f0) (hfs0 : ∀ c ∈ f0, c < w.heap.size) (hc0 : k0.len ≤ c0) (hl0 : k0.len ≤ maxLen) (hft0 : k0.Fits) (ht0 : t0.size ≤ maxLen) (z0 : Int) (hz0 : 1048576 - ((t0.size + k0.size : Nat) : Int) = z0) (hzn0 : 0 ≤ z0) :
  Calls Tryz.prog 10 #[.agg #[.int .i64 o0, .int .i64 n0, .string t0, .slice a0 k0.len c0]] w fun e w' => e = .returned (.bool true) ∧ Below w.heap.size w w' := by
 have HD0 := Lib.hid (show DocAt (w.alloc (.cells #[.int .i64 o0, .int .i64 n0, .string t0, .slice a0 k0.len c0] 52)) w.heap.size o0 n0 t0 k0 a0 c0 f0 from by first | exact (DocAt.new (Ext.sub (Ext.refl w) hs0 hfs0) (fun c hc => Nat.lt_of_lt_of_le (hfs0 c hc) (Ext.size (Ext.refl w))) hc0 o0 n0 t0 _) | simpa using (DocAt.new (Ext.sub (Ext.refl w) hs0 hfs0) (fun c hc => Nat.lt_of_lt_of_le (hfs0 c hc) (Ext.size (Ext.refl w))) hc0 o0 n0 t0 _))
 have HE0 := Lib.hid (show Ext w (w.alloc (.cells #[.int .i64 o0, .int .i64 n0, .string t0, .slice a0 k0.len c0] 52)) from ((Ext.refl w).alloc _))
 have hsz0 := fun (w1 : World) (h1 : Ext w w1) => Sz.szDoc (Sz.szS_any k0) o0 n0 t0 w1 a0 c0 f0 1048576 (h1.sub hs0 hfs0) (fun c hc => Nat.lt_of_lt_of_le (hfs0 c hc) h1.size) hc0 hl0 hft0 ht0 (by omega) (by omega)
 rw [Sz.szR_yes (by omega), hz0] at hsz0
 have hzq0 : ¬ (z0 < 0) := by omega
 have HSZ0 := Lib.hid hsz0
 have hle0 : t0.size + k0.size ≤ 1048576 := by omega
 have hll0 := F.len_le_size k0
 have hcc0 := F.cnt_le_size k0
 have hto0 := fun (w1 : World) (h1 : Ext w w1) => To.toDoc (To.toS_any k0) o0 n0 t0 w1 a0 c0 f0 (h1.sub hs0 hfs0) (fun c hc => Nat.lt_of_lt_of_le (hfs0 c hc) h1.size) hc0 (by omega)
 have heq0 := fun (w1 : World) (a1 a2 : Option Addr) (f1 f2 : List Nat) (h1 : SubAt w1 a1 k0 f1) (h2 : SubAt w1 a2 k0 f2) (h3 : ∀ c ∈ f1, c < w1.heap.size) (h4 : ∀ c ∈ f2, c < w1.heap.size) => Eq.eqDoc (Eq.eqS_any k0 k0) o0 n0 o0 n0 t0 t0 w1 a1 a2 k0.len k0.len f1 f2 h1 h2 h3 h4 (Nat.le_refl _) (Nat.le_refl _) hl0 hl0 hft0 hft0
 rw [show sameD o0 n0 t0 k0 o0 n0 t0 k0 = true by rw [sameD_yes, F.same_self]] at heq0
 have HFS0 := Lib.hid hfs0
 have HTO0 := Lib.hid hto0
 have HEQ0 := Lib.hid heq0
 have hspec : ∀ (w1 : World) (b0 : Option Addr) (g0 : List Nat) (h0 : SubAt w1 b0 k0 g0) (m0 : ∀ c ∈ g0, c < w1.heap.size ∧ ∀ o, w1.frozen? ⟨c, o, none⟩ = false), Calls Tryz.prog 26 #[.agg #[.int .i64 o0, .int .i64 n0, .string t0, .slice b0 k0.len k0.len]] w1 fun e w2 => e = .returned (.tuple #[.int .i64 ((Be.fgR o0 n0 t0 k0).1), .bool ((Be.fgR o0 n0 t0 k0).2)]) ∧ Below w1.heap.size w1 w2 := fun w1 b0 g0 h0 m0 => Be.specFirstGap w1 o0 n0 t0 k0 b0 k0.len g0 h0 (fun c hc => (m0 c hc).1) (Nat.le_refl _) (by omega) hft0 ht0
 have himpl : ∀ (w1 : World) (b0 : Option Addr) (g0 : List Nat) (h0 : SubAt w1 b0 k0 g0) (m0 : ∀ c ∈ g0, c < w1.heap.size ∧ ∀ o, w1.frozen? ⟨c, o, none⟩ = false), Calls Tryz.prog 25 #[.agg #[.int .i64 o0, .int .i64 n0, .string t0, .slice b0 k0.len k0.len]] w1 fun e w2 => e = .returned (.tuple #[.int .i64 ((Be.fgR o0 n0 t0 k0).1), .bool ((Be.fgR o0 n0 t0 k0).2)]) ∧ Below w1.heap.size w1 w2 := fun w1 b0 g0 h0 m0 => Be.implFirstGap w1 o0 n0 t0 k0 b0 k0.len g0 h0 m0 (Nat.le_refl _) (by omega) hft0 ht0
 obtain ⟨v0, hv0⟩ : ∃ v : Int, (Be.fgR o0 n0 t0 k0).1 = v := ⟨_, rfl⟩
 rw [hv0] at hspec himpl
 obtain ⟨v1, hv1⟩ : ∃ v : Bool, (Be.fgR o0 n0 t0 k0).2 = v := ⟨_, rfl⟩
 rw [hv1] at hspec himpl
 have hvv0 : (v0 != v0) = false := by simp
 have hvv1 : (v1 != v1) = false := by simp
 have HSP := Lib.hid hspec
 have HIM := Lib.hid himpl
 clear hspec himpl hle0 hll0 hcc0 hsz0 hto0 heq0 hs0 hfs0 hc0 hl0 hft0 ht0 hz0 hv0 hv1 
 go_enter Tryz.func10, Tryz.ntmps10
 go_wp2_with fail
 refine (HSZ0.out _ HE0.out).mono ?_
 rintro e1 w1 ⟨rfl, hb⟩
 try clear y00 y01 y02 y03
 have D0q := Lib.hid (HD0.out.ext (show Ext _ _ from hb))
 clear HD0
 have D0 := Lib.hid D0q.out
 clear D0q
 have E1 := Lib.hid (show Ext w w1 from Ext.trans HE0.out hb)
 have S1 := Lib.hid (show w.heap.size ≤ w1.heap.size from E1.out.size)
 have B0 := Lib.hid D0.out.blt
 clear hb
 try clear y00 y01 y02 y03
 obtain ⟨y00, y01, y02, y03⟩ := D0.out.box
 go_wp2_with fail
 refine (HTO0.out _ E1.out).mono ?_
 rintro e1 w2 ⟨ps0, qs0, rfl, hs, hfr, hb⟩
 try clear y00 y01 y02 y03
 have D0q := Lib.hid (D0.out.ext (show Ext _ _ from hb))
 clear D0
 have D0 := Lib.hid D0q.out
 clear D0q
 have E2 := Lib.hid (show Ext w w2 from Ext.trans E1.out hb)
 have S2 := Lib.hid hb.size
 have Ks0 := Lib.hid (DLies.new hs hfr)
 clear hs hfr hb
 try clear y00 y01 y02 y03
 obtain ⟨y00, y01, y02, y03⟩ := D0.out.box
 go_wp2_with fail
 refine (HSP.out _ _ _ Ks0.out.sub Ks0.out.own).mono ?_
 rintro e1 w3 ⟨rfl, hb⟩
 try clear y00 y01 y02 y03
 have D0q := Lib.hid (D0.out.ext (show Ext _ _ from hb))
 clear D0
 have D0 := Lib.hid D0q.out
 clear D0q
 have Ks0q := Lib.hid (Ks0.out.below hb)
 clear Ks0
 have Ks0 := Lib.hid Ks0q.out
 clear Ks0q
 have E3 := Lib.hid (show Ext w w3 from Ext.trans E2.out hb)
 have S3 := Lib.hid hb.size
 clear hb
 try clear y00 y01 y02 y03
 obtain ⟨y00, y01, y02, y03⟩ := D0.out.box
 go_wp2_with fail
 clear Ks0
 refine (HTO0.out _ E3.out).mono ?_
 rintro e1 w4 ⟨px0, qx0, rfl, hs, hfr, hb⟩
 try clear y00 y01 y02 y03
 have D0q := Lib.hid (D0.out.ext (show Ext _ _ from hb))
 clear D0
 have D0 := Lib.hid D0q.out
 clear D0q
 have E4 := Lib.hid (show Ext w w4 from Ext.trans E3.out hb)
 have S4 := Lib.hid hb.size
 have Kx0 := Lib.hid (DLies.new hs hfr)
 clear hs hfr hb
 try clear y00 y01 y02 y03
 obtain ⟨y00, y01, y02, y03⟩ := D0.out.box
 go_wp2_with fail
 have hXn := XDoc.new (o := o0) (n := n0) (t := t0) Kx0.out 25
 have hE := (Ext.refl w4).alloc (.cells #[.int .i64 o0, .int .i64 n0, .string t0, .slice px0 k0.len k0.len] 25)
 obtain ⟨w5, hW⟩ : ∃ W, w4.alloc (.cells #[.int .i64 o0, .int .i64 n0, .string t0, .slice px0 k0.len k0.len] 25) = W := ⟨_, rfl⟩
 rw [hW] at hXn hE ⊢
 try clear y00 y01 y02 y03
 have D0q := Lib.hid (D0.out.ext (show Ext _ _ from hE))
 clear D0
 have D0 := Lib.hid D0q.out
 clear D0q
 have E5 := Lib.hid (show Ext w w5 from Ext.trans E4.out hE)
 have S5 := Lib.hid hE.size
 have Xx0 := Lib.hid hXn
 clear Kx0
 clear hXn hE hW
 refine (HIM.out _ _ _ Xx0.out.lies.sub Xx0.out.lies.own).mono ?_
 rintro e1 w6 ⟨rfl, hb⟩
 try clear y00 y01 y02 y03
 try clear x00 x01 x02 x03
 have D0q := Lib.hid (D0.out.ext (show Ext _ _ from hb))
 clear D0
 have D0 := Lib.hid D0q.out
 clear D0q
 have Xx0q := Lib.hid (Xx0.out.ext hb)
 clear Xx0
 have Xx0 := Lib.hid Xx0q.out
 clear Xx0q
 have E6 := Lib.hid (show Ext w w6 from Ext.trans E5.out hb)
 have S6 := Lib.hid hb.size
 clear hb
 try clear y00 y01 y02 y03
 obtain ⟨y00, y01, y02, y03⟩ := D0.out.box
 try clear x00 x01 x02 x03
 obtain ⟨x00, x01, x02, x03⟩ := Xx0.out.box
 go_wp2_with fail
 have ly : w4.heap.size < w6.heap.size := Xx0.out.blt
 have lz : w.heap.size < w6.heap.size := D0.out.blt
 go_region_held3 (fun w' => w'.cell? ⟨w4.heap.size, 0, none⟩ = some (.int .i64 o0) ∧ w'.cell? ⟨w4.heap.size, 1, none⟩ = some (.int .i64 n0) ∧ w'.cell? ⟨w4.heap.size, 2, none⟩ = some (.string t0) ∧ w'.cell? ⟨w4.heap.size, 3, none⟩ = some (.slice px0 k0.len k0.len) ∧ w'.cell? ⟨w.heap.size, 0, none⟩ = some (.int .i64 o0) ∧ w'.cell? ⟨w.heap.size, 1, none⟩ = some (.int .i64 n0) ∧ w'.cell? ⟨w.heap.size, 2, none⟩ = some (.string t0) ∧ w'.cell? ⟨w.heap.size, 3, none⟩ = some (.slice a0 k0.len c0))
  (first
   | go_keep
   | (refine ⟨?_, ?_, ?_, ?_, ?_, ?_, ?_, ?_⟩ <;> (first | assumption | (rw [hb7.cell (p := ⟨_, _, _⟩) (by simp; omega)]; assumption) | (rw [hb8.cell (p := ⟨_, _, _⟩) (by have := hb7.size; simp at this ⊢; omega)]; assumption) | (rw [hb8.cell (p := ⟨_, _, _⟩) (by have := hb7.size; simp at this ⊢; omega), hb7.cell (p := ⟨_, _, _⟩) (by simp; omega)]; assumption))))
  (first
   | (go_at_call 35; refine (HTO0.out _ (by first | exact E6.out | exact E6.out.drew)).mono ?_; rintro e1 w6a ⟨p7, q7, rfl, hs7, hfr7, hb7⟩)
   | (go_at_call 37; refine (HEQ0.out _ _ _ qx0 q7 (by first | exact Xx0.out.lies.sub.below Xx0.out.lies.fresh.lt hb7 | exact (ex_drew Xx0.out.lies.sub).below Xx0.out.lies.fresh.lt hb7 | exact ex_drew ((ex_drew Xx0.out.lies.sub).below Xx0.out.lies.fresh.lt hb7)) (by first | exact hs7 | exact ex_drew hs7) (fun c hc => Nat.lt_of_lt_of_le (Xx0.out.lies.fresh.lt c hc) hb7.size) hfr7.lt).mono ?_; rintro e1 w7 ⟨rfl, hb8⟩))
 have hb : Below w6.heap.size w6 w7 := by
  have q7 : Below w6.heap.size w6 w6a := (Below.refl _ w6).drew.trans hb7
  first | exact q7.trans (hb8.mono q7.size) | exact q7.drew.trans (hb8.mono (by have := q7.size; simp; omega))
 try clear y00 y01 y02 y03
 try clear x00 x01 x02 x03
 clear ly lz hs7 hfr7 hb7 hb8
 have D0q := Lib.hid (D0.out.ext (show Ext _ _ from hb))
 clear D0
 have D0 := Lib.hid D0q.out
 clear D0q
 have Xx0q := Lib.hid (Xx0.out.ext hb)
 clear Xx0
 have Xx0 := Lib.hid Xx0q.out
 clear Xx0q
 have E7 := Lib.hid (show Ext w w7 from Ext.trans E6.out hb)
 have S7 := Lib.hid hb.size
 clear hb
 try clear y00 y01 y02 y03
 obtain ⟨y00, y01, y02, y03⟩ := D0.out.box
 try clear x00 x01 x02 x03
 obtain ⟨x00, x01, x02, x03⟩ := Xx0.out.box
 go_wp2_with fail
 go_ret
 exact ⟨rfl, E7.out⟩
theorem walk (w : World) (o0 n0 : Int) (t0 : ByteArray) (k0 : F) (a0 : Option Addr) (c0 : Nat) (f0 : List Nat) (hs0 : SubAt w a0 k0 f0) (hfs0 : ∀ c ∈ f0, c < w.heap.size) (hc0 : k0.len ≤ c0) (hl0 : k0.len ≤ maxLen) (hft0 : k0.Fits) (ht0 : t0.size ≤ maxLen) :
  Calls Tryz.prog 10 #[.agg #[.int .i64 o0, .int .i64 n0, .string t0, .slice a0 k0.len c0]] w fun e w' => e = .returned (.bool true) ∧ Below w.heap.size w w' := by
 by_cases h0 : (1048576 : Int) < ((t0.size + k0.size : Nat) : Int)
 ·exact walk_big0 w o0 n0 t0 k0 a0 c0 f0 hs0 hfs0 hc0 hl0 hft0 ht0 h0
 exact walk_good w o0 n0 t0 k0 a0 c0 f0 hs0 hfs0 hc0 hl0 hft0 ht0 _ rfl (by omega)
theorem lifted (os : Os) (started : os.Started) (H : Type) (enc : TypeId × Value → H) :
  ReturnsInHanded {} Tryz.checked os 10 .any (Rows.fnExactFirstGapSpec.pre6 enc Tryz.prog Tryz.f10 Rows.fnExactFirstGapRow.domain false) (Rows.fnExactFirstGapSpec.post enc Tryz.prog Tryz.f10 false true false false) := by
 refine returnsInHanded_of_change (C := Tryz.checked) Facts.own started (by kernel_rfl) Tryz.func10
  (ChangeSpec.witness6 (enc := enc) (C := Tryz.checked) false ⟨#[], #[.agg #[.int .i64 0, .int .i64 0, .string ⟨#[]⟩, .slice none 0 0]], []⟩ 8 (by kernel_rfl) (by kernel_rfl) (by kernel_rfl) (by kernel_rfl)) ?_
 intro W base args ds gs before hval0 hW hcnd0 _
 clear hcnd0
 have hval : ∀ (j : Nat) t v, Tryz.f10.params[j]? = some t → args[j]? = some v → Value.okWide Tryz.prog W .any base t v := hval0
 have hW' := hW
 obtain ⟨p, q, hA0, hV, rfl, hfz, hnd⟩ := hW
 have hA : DataW.TrodAll enc Tryz.prog W 0 (fun _ => true) true Tryz.f10.params.toList args.toList ds p := hA0
 rw [Tryz.params10] at hA hval
 obtain ⟨v0, d0, rfl, rfl, h0⟩ := trodAll_one hA
 obtain ⟨rfl, rfl⟩ := trodVars_none hV
 obtain ⟨o0, n0, t0, k0, a0, c0, f0, rfl, ht0, hl0, hft0, hc0, hs0, hfs0⟩ := Open.open_doc (hval 0 52 v0 rfl rfl) h0
 clear hA0 hval0
 simp only [List.append_nil] at hW'
 have hlt : ∀ x ∈ p, x.block < W.heap.size := fun x hx => by simpa using hW'.lt x hx
 refine (walk W o0 n0 t0 k0 a0 c0 f0 hs0 hfs0 hc0 hl0 hft0 ht0).mono fun e W' ⟨he, hb⟩ => ?_
 subst he
 refine ⟨_, rfl, [d0], [], p, [], p, [], hW', trodAll_mk1 (shut_bool Tryz.underlying4 _), ?_, rfl, hb.frame _, fun h => by cases h⟩
 exact trodAll_mk1 (Below.trod Facts.laidOut (by kernel_rfl) (of_decide_eq_true (by kernel_rfl)) h0 hb hlt)
theorem named : Tryz.prog.funcNamed Rows.fnExactFirstGapRow.func = some 10 := by kernel_rfl
theorem closed : joinedFacts Tryz.prog 10 Tryz.f10 Rows.fnExactFirstGapSpec Rows.fnExactFirstGapRow = true :=
 Facts.closed_of rfl rfl rfl rfl (h28b := rfl) (by kernel_rfl) (by kernel_rfl) (by kernel_rfl) (by kernel_rfl) (by kernel_rfl) (by kernel_rfl) (by kernel_rfl) (by kernel_rfl) (by kernel_rfl) (by kernel_rfl) (by kernel_rfl) (by kernel_rfl) (by kernel_rfl) (by kernel_rfl) (by kernel_rfl) (by kernel_rfl) (by kernel_rfl) (by kernel_rfl) (by kernel_rfl) (by kernel_rfl) (by kernel_rfl) (by kernel_rfl) (by kernel_rfl) (by kernel_rfl)
theorem instanced : Tryz.f10.isInstance Tryz.prog Rows.fnExactFirstGapRow.origin Rows.fnExactFirstGapRow.targs := of_decide_eq_true (by kernel_rfl)
theorem wrapped : Tryz.f10.isWrapper Tryz.prog Rows.fnExactFirstGapRow.wrapper Rows.fnExactFirstGapRow.mainSum := by
 unfold Func.isWrapper
 rw [if_neg (of_decide_eq_false (by kernel_rfl))]
 exact ⟨rfl, rfl⟩
theorem holds : Rows.FnExactFirstGapSaid :=
 OpenClaim.holds_of_wide 10 Tryz.f10 rfl rfl rfl rfl rfl rfl rfl ⟨rfl, rfl, rfl, rfl, rfl⟩ rfl rfl rfl rfl rfl named Tryz.func10 closed instanced wrapped
  (fun os started H enc _ => lifted os started H enc)
end Go.Proofs.YtclifbjnooilmaaGreat.lawFirstGap
