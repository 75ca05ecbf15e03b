import Derived.Test.YthlgjnmfblkegaaOpenL
import Derived.Test.YthlgjnmfblkegaaLyA
import Derived.Test.YthlgjnmfblkegaaLayO
import Derived.Test.YthlgjnmfblkegaaPl
import Derived.Test.YthlgjnmfblkegaaFacts
import Derived.Test.YthlgjnmfblkegaaRows
/-
  For every list of lines that can be read as data and every width, Overflow of the program answers as Overflow of the model and changes nothing of its argument: the law FnExactOverflow returns true, and its arguments read as they did. No condition of ours.
-/
set_option linter.unusedVariables false
set_option linter.unusedSimpArgs false
namespace Go.Proofs.Ythlgjnmfblkegaa.lawOverflow
open Go.ChangeShapes Go.WideShapes Go.ChangeAt Go.RowKit P1

set_option maxRecDepth 100000 in
set_option maxHeartbeats 1600000 in
theorem walk_big0 (w : World) (l0 : List (Int × ByteArray)) (a0 : Option Addr) (c0 : Nat) (f0 : List Nat) (x1 : Int) (hs0 : LaySub w a0 l0 f0) (hc0 : l0.length ≤ c0) (hl0 : l0.length ≤ maxLen) (ht0 : L.Fits l0)  (hbig : 1048576 < (L.size l0 : Int)) :
    Calls Try.prog 7 #[.slice a0 l0.length c0, .int .i64 x1] w fun e w' => e = .returned (.bool true) ∧ Below w.heap.size w w' := by
  have hsz0 := fun (w1 : World) (h1 : Ext w w1) => LayL.szRowS l0 w1 a0 c0 f0 1048576 (hs0.below hs0.lt h1) hc0 hl0 ht0 (by omega) (by omega)
  rw [leftR_no hbig] at hsz0
  have HSZ0 := Lib.hid hsz0
  clear hsz0 hbig hs0 hc0 hl0 ht0 
  go_enter Try.func7, Try.ntmps7
  go_wp2_with fail
  refine (HSZ0.out _ (Ext.refl w)).mono ?_
  rintro e1 w1 ⟨rfl, hb1⟩
  have H1 := Lib.hid (show Ext w w1 from hb1)
  clear hb1
  go_wp2_with fail
  go_ret
  exact ⟨rfl, H1.out⟩

set_option maxRecDepth 100000 in
set_option maxHeartbeats 3200000 in
theorem walk_good (w : World) (l0 : List (Int × ByteArray)) (a0 : Option Addr) (c0 : Nat) (f0 : List Nat) (x1 : Int) (hs0 : LaySub w a0 l0 f0) (hc0 : l0.length ≤ c0) (hl0 : l0.length ≤ maxLen) (ht0 : L.Fits l0) (hxl1 : -9223372036854775808 ≤ x1 ∧ x1 ≤ 9223372036854775807) (z0 : Int) (hz0 : 1048576 - (L.size l0 : Int) = z0) (hzn0 : 0 ≤ z0) :
    Calls Try.prog 7 #[.slice a0 l0.length c0, .int .i64 x1] w fun e w' => e = .returned (.bool true) ∧ Below w.heap.size w w' := by
  have hsz0 := fun (w1 : World) (h1 : Ext w w1) => LayL.szRowS l0 w1 a0 c0 f0 1048576 (hs0.below hs0.lt h1) hc0 hl0 ht0 (by omega) (by omega)
  rw [leftR_yes (by omega), hz0] at hsz0
  have hzq0 : ¬ (z0 < 0) := by omega
  have hle0 : l0.length ≤ 1048576 := by unfold L.size at hz0; omega
  have hto0 := fun (w1 : World) (h1 : Ext w w1) => LayL.toRowS l0 w1 a0 c0 f0 (hs0.below hs0.lt h1) hc0 hle0
  have heq0 := fun (w1 : World) (a1 a2 : Option Addr) (f1 f2 : List Nat) (h1 : LaySub w1 a1 l0 f1) (h2 : LaySub w1 a2 l0 f2) => LayL.eqRowS l0 l0 w1 a1 a2 l0.length l0.length f1 f2 h1 h2 (Nat.le_refl _) (Nat.le_refl _) hl0 hl0
  rw [decide_eq_true rfl] at heq0
  have hspec := fun (w1 : World) (b0 : Option Addr) (g0 : List Nat) (h0 : LaySub w1 b0 l0 g0) => LayW.specOverflow l0 x1 w1 b0 l0.length g0 h0 (Nat.le_refl _) hl0 ht0 hxl1
  have himpl := fun (w1 : World) (b0 : Option Addr) (g0 : List Nat) (h0 : LaySub w1 b0 l0 g0) => LayW.implOverflow l0 x1 w1 b0 l0.length g0 h0 (Nat.le_refl _) hl0 ht0 hxl1
  obtain ⟨v, hv⟩ : ∃ v, lo l0 x1 = v := ⟨_, rfl⟩
  rw [hv] at hspec himpl
  have HSP := Lib.hid hspec
  have HIM := Lib.hid himpl
  have HSZ0 := Lib.hid hsz0
  have HTO0 := Lib.hid hto0
  have HEQ0 := Lib.hid heq0
  clear hspec himpl hv hsz0 hto0 heq0 hs0 hc0 hl0 ht0 hz0 hle0
  have hvv : (v != v) = false := by simp
  go_enter Try.func7, Try.ntmps7
  go_wp2_with fail
  refine (HSZ0.out _ (Ext.refl w)).mono ?_
  rintro e1 w1 ⟨rfl, hb1⟩
  have H1 := Lib.hid (show Ext w w1 from hb1)
  clear hb1
  go_wp2_with fail
  refine (HTO0.out _ H1.out).mono ?_
  rintro e1 w2 ⟨p2, q2, rfl, hs, hfr, hb⟩
  have K0s := Lib.hid hs
  have H2 := Lib.hid (H1.out.trans hb)
  clear hs hfr hb
  go_wp2_with fail
  refine (HSP.out _ _ _ K0s.out).mono ?_
  rintro e1 w3 ⟨rfl, hb⟩
  have K0s' := Lib.hid (K0s.out.below K0s.out.lt hb)
  clear K0s
  have K0s := Lib.hid K0s'.out
  clear K0s'
  have H3 := Lib.hid (H2.out.trans hb)
  clear hb
  go_wp2_with fail
  clear K0s
  refine (HTO0.out _ H3.out).mono ?_
  rintro e1 w4 ⟨p4, q4, rfl, hs, hfr, hb⟩
  have K0x := Lib.hid hs
  have H4 := Lib.hid (H3.out.trans hb)
  clear hs hfr hb
  go_wp2_with fail
  refine (HIM.out _ _ _ K0x.out).mono ?_
  rintro e1 w5 ⟨rfl, hb⟩
  have K0x' := Lib.hid (K0x.out.below K0x.out.lt hb)
  clear K0x
  have K0x := Lib.hid K0x'.out
  clear K0x'
  have H5 := Lib.hid (H4.out.trans hb)
  clear hb
  go_wp2_with fail
  refine (HTO0.out _ H5.out).mono ?_
  rintro e1 w6 ⟨p6, q6, rfl, hs, hfr, hb⟩
  have K0x' := Lib.hid (K0x.out.below K0x.out.lt hb)
  clear K0x
  have K0x := Lib.hid K0x'.out
  clear K0x'
  have K0y := Lib.hid hs
  have H6 := Lib.hid (H5.out.trans hb)
  clear hs hfr hb
  go_wp2_with fail
  refine (HEQ0.out _ _ _ _ _ K0x.out K0y.out).mono ?_
  rintro e1 w7 ⟨rfl, hb⟩
  have K0x' := Lib.hid (K0x.out.below K0x.out.lt hb)
  clear K0x
  have K0x := Lib.hid K0x'.out
  clear K0x'
  have K0y' := Lib.hid (K0y.out.below K0y.out.lt hb)
  clear K0y
  have K0y := Lib.hid K0y'.out
  clear K0y'
  have H7 := Lib.hid (H6.out.trans hb)
  clear hb
  go_wp2_with fail
  clear K0y
  go_ret
  exact ⟨rfl, H7.out⟩

theorem walk (w : World) (l0 : List (Int × ByteArray)) (a0 : Option Addr) (c0 : Nat) (f0 : List Nat) (x1 : Int) (hs0 : LaySub w a0 l0 f0) (hc0 : l0.length ≤ c0) (hl0 : l0.length ≤ maxLen) (ht0 : L.Fits l0) (hxl1 : -9223372036854775808 ≤ x1 ∧ x1 ≤ 9223372036854775807) :
    Calls Try.prog 7 #[.slice a0 l0.length c0, .int .i64 x1] w fun e w' => e = .returned (.bool true) ∧ Below w.heap.size w w' := by
  by_cases h0 : (1048576 : Int) < (L.size l0 : Int)
  · exact walk_big0 w l0 a0 c0 f0 x1 hs0 hc0 hl0 ht0  h0
  · exact walk_good w l0 a0 c0 f0 x1 hs0 hc0 hl0 ht0 hxl1 _ rfl (by omega)

set_option maxRecDepth 100000 in
theorem lifted (os : Os) (started : os.Started) (H : Type) (enc : TypeId × Value → H) :
    ReturnsInHanded {} Try.checked os 7 .any (Rows.fnExactOverflowSpec.pre6 enc Try.prog Try.f7 Rows.fnExactOverflowRow.domain false) (Rows.fnExactOverflowSpec.post enc Try.prog Try.f7 false true false false) := by
  refine returnsInHanded_of_change (C := Try.checked) Facts.own started (by kernel_rfl) Try.func7
    (ChangeSpec.witness6 (enc := enc) (C := Try.checked) false ⟨#[], #[.slice none 0 0, .int .i64 0], []⟩ 8 (by kernel_rfl) (by kernel_rfl) (by kernel_rfl) (by kernel_rfl)) ?_
  intro W base args ds gs before hval0 hW hcnd0 _
  clear hcnd0
  have hval : ∀ (j : Nat) t v, Try.f7.params[j]? = some t → args[j]? = some v → Value.okWide Try.prog W .any base t v := hval0
  have hW' := hW
  obtain ⟨p, q, hA0, hV, rfl, hfz, hnd⟩ := hW
  have hA : DataW.TrodAll enc Try.prog W 0 (fun _ => true) true Try.f7.params.toList args.toList ds p := hA0
  rw [Try.params7] at hA hval
  obtain ⟨v0, v1, d0, d1, p0, p1, rfl, rfl, rfl, h0, h1⟩ := trodAll_two hA
  obtain ⟨rfl, rfl⟩ := trodVars_none hV
  obtain ⟨l0, a0, c0, f0, rfl, ht0, hl0, hc0, hs0⟩ := OpenL.open_rows (hval 0 41 v0 rfl rfl) h0
  obtain ⟨x1, rfl, hxl1⟩ := OpenL.open_int (hval 1 3 v1 rfl rfl) h1
  clear hA0 hval0
  simp only [List.append_nil] at hW'
  have hlt : ∀ x ∈ p0 ++ p1, x.block < W.heap.size := fun x hx => by simpa using hW'.lt x hx
  refine (walk W l0 a0 c0 f0 x1 hs0 hc0 hl0 ht0 hxl1).mono fun e W' ⟨he, hb⟩ => ?_
  subst he
  refine ⟨_, rfl, [d0, d1], [], p0 ++ p1, [], p0 ++ p1, [], hW', trodAll_mk1 (shut_bool Try.underlying4 _), ?_, rfl, hb.frame _, fun h => by cases h⟩
  exact trodAll_mk2 (Below.trod Facts.laidOut (by kernel_rfl) (of_decide_eq_true (by kernel_rfl)) h0 hb (fun x hx => hlt x (List.mem_append_left _ hx))) (Below.trod Facts.laidOut (by kernel_rfl) (of_decide_eq_true (by kernel_rfl)) h1 hb (fun x hx => hlt x (List.mem_append_right _ hx)))

theorem named : Try.prog.funcNamed Rows.fnExactOverflowRow.func = some 7 := by kernel_rfl
theorem closed : joinedFacts Try.prog 7 Try.f7 Rows.fnExactOverflowSpec Rows.fnExactOverflowRow = true :=
  Facts.closed_of rfl rfl rfl rfl (h28b := rfl) (by kernel_rfl) (by kernel_rfl) (by kernel_rfl) (by kernel_rfl) (by kernel_rfl) (by kernel_rfl) (by kernel_rfl) (by kernel_rfl) (by kernel_rfl) (by kernel_rfl) (by kernel_rfl) (by kernel_rfl) (by kernel_rfl) (by kernel_rfl) (by kernel_rfl) (by kernel_rfl) (by kernel_rfl) (by kernel_rfl) (by kernel_rfl) (by kernel_rfl) (by kernel_rfl) (by kernel_rfl) (by kernel_rfl) (by kernel_rfl)
theorem instanced : Try.f7.isInstance Try.prog Rows.fnExactOverflowRow.origin Rows.fnExactOverflowRow.targs := of_decide_eq_true (by kernel_rfl)
theorem wrapped : Try.f7.isWrapper Try.prog Rows.fnExactOverflowRow.wrapper Rows.fnExactOverflowRow.mainSum := by
  unfold Func.isWrapper
  rw [if_neg (of_decide_eq_false (by kernel_rfl))]
  exact ⟨rfl, rfl⟩

theorem holds : Rows.FnExactOverflowSaid :=
  OpenClaim.holds_of_wide 7 Try.f7 rfl rfl rfl rfl rfl rfl rfl ⟨rfl, rfl, rfl, rfl, rfl⟩ rfl rfl rfl rfl rfl named Try.func7 closed instanced wrapped
    (fun os started H enc _ => lifted os started H enc)

end Go.Proofs.Ythlgjnmfblkegaa.lawOverflow

