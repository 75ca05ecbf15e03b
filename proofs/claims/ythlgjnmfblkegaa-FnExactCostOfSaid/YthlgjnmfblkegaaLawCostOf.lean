import Derived.Test.YthlgjnmfblkegaaOpenL
import Derived.Test.YthlgjnmfblkegaaLyA
import Derived.Test.YthlgjnmfblkegaaCsL
import Derived.Test.YthlgjnmfblkegaaPl
import Derived.Test.YthlgjnmfblkegaaFacts
import Derived.Test.YthlgjnmfblkegaaRows
/-
  For every list of lines that can be read as data and every width, CostOf of the program answers as CostOf of the model, both numbers and the bool, and changes nothing of its argument: the law FnExactCostOf returns true, and its arguments read as they did. No condition of ours.
-/
set_option linter.unusedVariables false
set_option linter.unusedSimpArgs false
namespace Go.Proofs.Ythlgjnmfblkegaa.lawCostOf
open Go.ChangeShapes Go.WideShapes Go.ChangeAt Go.RowKit P1

set_option maxRecDepth 100000 in
set_option maxHeartbeats 1600000 in
theorem walk_big0 (w : World) (l0 : List (Int × ByteArray)) (a0 : Option Addr) (c0 : Nat) (f0 : List Nat) (x1 : Int) (hs0 : LaySub w a0 l0 f0) (hc0 : l0.length ≤ c0) (hl0 : l0.length ≤ maxLen) (ht0 : L.Fits l0)  (hbig : 1048576 < (L.size l0 : Int)) :
    Calls Try.prog 8 #[.slice a0 l0.length c0, .int .i64 x1] w fun e w' => e = .returned (.bool true) ∧ Below w.heap.size w w' := by
  have hsz0 := fun (w1 : World) (h1 : Ext w w1) => LayL.szRowS l0 w1 a0 c0 f0 1048576 (hs0.below hs0.lt h1) hc0 hl0 ht0 (by omega) (by omega)
  rw [leftR_no hbig] at hsz0
  have HSZ0 := Lib.hid hsz0
  clear hsz0 hbig hs0 hc0 hl0 ht0 
  go_enter Try.func8, Try.ntmps8
  go_wp2_with fail
  refine (HSZ0.out _ (Ext.refl w)).mono ?_
  rintro e1 w1 ⟨rfl, hb1⟩
  have H1 := Lib.hid (show Ext w w1 from hb1)
  clear hb1
  go_wp2_with fail
  go_ret
  exact ⟨rfl, H1.out⟩

set_option maxRecDepth 100000 in
set_option maxHeartbeats 3200000 in
theorem walk_good (w : World) (l0 : List (Int × ByteArray)) (a0 : Option Addr) (c0 : Nat) (f0 : List Nat) (x1 : Int) (hs0 : LaySub w a0 l0 f0) (hc0 : l0.length ≤ c0) (hl0 : l0.length ≤ maxLen) (ht0 : L.Fits l0) (hxl1 : -9223372036854775808 ≤ x1 ∧ x1 ≤ 9223372036854775807) (z0 : Int) (hz0 : 1048576 - (L.size l0 : Int) = z0) (hzn0 : 0 ≤ z0) :
    Calls Try.prog 8 #[.slice a0 l0.length c0, .int .i64 x1] w fun e w' => e = .returned (.bool true) ∧ Below w.heap.size w w' := by
  have hsz0 := fun (w1 : World) (h1 : Ext w w1) => LayL.szRowS l0 w1 a0 c0 f0 1048576 (hs0.below hs0.lt h1) hc0 hl0 ht0 (by omega) (by omega)
  rw [leftR_yes (by omega), hz0] at hsz0
  have hzq0 : ¬ (z0 < 0) := by omega
  have hle0 : l0.length ≤ 1048576 := by unfold L.size at hz0; omega
  have hto0 := fun (w1 : World) (h1 : Ext w w1) => LayL.toRowS l0 w1 a0 c0 f0 (hs0.below hs0.lt h1) hc0 hle0
  have heq0 := fun (w1 : World) (a1 a2 : Option Addr) (f1 f2 : List Nat) (h1 : LaySub w1 a1 l0 f1) (h2 : LaySub w1 a2 l0 f2) => LayL.eqRowS l0 l0 w1 a1 a2 l0.length l0.length f1 f2 h1 h2 (Nat.le_refl _) (Nat.le_refl _) hl0 hl0
  rw [decide_eq_true rfl] at heq0
  have hspec := fun (w1 : World) (b0 : Option Addr) (g0 : List Nat) (h0 : LaySub w1 b0 l0 g0) => Cst.specCostOf l0 x1 w1 b0 l0.length g0 h0 (Nat.le_refl _) hl0 ht0
  have himpl := fun (w1 : World) (b0 : Option Addr) (g0 : List Nat) (h0 : LaySub w1 b0 l0 g0) => Cst.implCostOf l0 x1 w1 b0 l0.length g0 h0 (Nat.le_refl _) hl0 ht0
  obtain ⟨v, hv⟩ : ∃ v, (Cst.coR l0 x1).1 = v := ⟨_, rfl⟩
  obtain ⟨u, hu⟩ : ∃ u, (Cst.coR l0 x1).2.1 = u := ⟨_, rfl⟩
  obtain ⟨ok, hok⟩ : ∃ ok, (Cst.coR l0 x1).2.2 = ok := ⟨_, rfl⟩
  rw [hv, hu, hok] at hspec himpl
  have HSP := Lib.hid hspec
  have HIM := Lib.hid himpl
  have HSZ0 := Lib.hid hsz0
  have HTO0 := Lib.hid hto0
  have HEQ0 := Lib.hid heq0
  clear hspec himpl hv hu hok hsz0 hto0 heq0 hs0 hc0 hl0 ht0 hz0 hle0
  have hoo : (ok != ok) = false := by simp
  go_enter Try.func8, Try.ntmps8
  go_wp2_with fail
  refine (HSZ0.out _ (Ext.refl w)).mono ?_
  rintro e1 w1 ⟨rfl, hb1⟩
  have H1 := Lib.hid (show Ext w w1 from hb1)
  clear hb1
  go_wp2_with fail
  refine (HTO0.out _ H1.out).mono ?_
  rintro e1 w2 ⟨p2, q2, rfl, hs, hfr, hb⟩
  have K0s := Lib.hid hs
  have H2 := Lib.hid (H1.out.trans hb)
  clear hs hfr hb
  go_wp2_with fail
  refine (HSP.out _ _ _ K0s.out).mono ?_
  rintro e1 w3 ⟨rfl, hb⟩
  have H3 := Lib.hid (H2.out.trans hb)
  clear hb K0s
  go_wp2_with fail
  obtain ⟨V, hV⟩ : ∃ V, w3.alloc (.cells #[.int .i64 v, .int .i64 u] 34) = V := ⟨_, rfl⟩
  have hE : Ext w3 V := by rw [← hV]; exact (Ext.refl w3).alloc _
  have q0 : V.cell? ⟨w3.heap.size, 0, none⟩ = some (.int .i64 v) := by rw [← hV, World.cell?_alloc_new]; rfl
  have q1 : V.cell? ⟨w3.heap.size, 1, none⟩ = some (.int .i64 u) := by rw [← hV, World.cell?_alloc_new]; rfl
  have ql : w3.heap.size < V.heap.size := by rw [← hV]; simp
  rw [hV]
  have HV := Lib.hid (And.intro (H3.out.trans hE) (And.intro q0 (And.intro q1 ql)))
  clear hV hE q0 q1 ql
  obtain ⟨B, hB⟩ : ∃ B, w3.heap.size = B := ⟨_, rfl⟩
  rw [hB] at HV ⊢
  clear hB
  go_wp2_with fail
  refine (HTO0.out _ HV.out.1).mono ?_
  rintro e1 w4 ⟨p4, q4, rfl, hs, hfr, hb⟩
  have K0x := Lib.hid hs
  have H4 := Lib.hid (And.intro (HV.out.1.trans hb) (And.intro ((hb.cell (p := ⟨B, 0, none⟩) HV.out.2.2.2).trans HV.out.2.1) (And.intro ((hb.cell (p := ⟨B, 1, none⟩) HV.out.2.2.2).trans HV.out.2.2.1) (Nat.lt_of_lt_of_le HV.out.2.2.2 hb.size))))
  clear hs hfr hb
  go_wp2_with fail
  refine (HIM.out _ _ _ K0x.out).mono ?_
  rintro e1 w5 ⟨rfl, hb⟩
  have K0y := Lib.hid (K0x.out.below K0x.out.lt hb)
  have H5 := Lib.hid (And.intro (H4.out.1.trans hb) (And.intro ((hb.cell (p := ⟨B, 0, none⟩) H4.out.2.2.2).trans H4.out.2.1) (And.intro ((hb.cell (p := ⟨B, 1, none⟩) H4.out.2.2.2).trans H4.out.2.2.1) (Nat.lt_of_lt_of_le H4.out.2.2.2 hb.size))))
  have HQ := Lib.hid (fun (W : World) => Cst.eqCost v u W)
  have x0 := H5.out.2.1
  have x1 := H5.out.2.2.1
  have xl := H5.out.2.2.2
  clear hb K0x
  go_wp2_with fail
  refine (HQ.out _).mono ?_
  rintro e1 w6 ⟨rfl, hb⟩
  have e6 : Ext w5 w6 := ((Ext.refl w5).alloc _).trans hb
  have K0x := Lib.hid (K0y.out.below K0y.out.lt e6)
  have H7 := Lib.hid (H5.out.1.trans e6)
  clear hb e6 K0y x0 x1 xl
  have K0y := Lib.hid K0x.out
  clear K0x
  go_wp2_with fail
  refine (HTO0.out _ H7.out).mono ?_
  rintro e1 w7 ⟨p6, q6, rfl, hs, hfr, hb⟩
  have K0x := Lib.hid (K0y.out.below K0y.out.lt hb)
  have K0z := Lib.hid hs
  have H8 := Lib.hid (H7.out.trans hb)
  clear hs hfr hb K0y
  go_wp2_with fail
  refine (HEQ0.out _ _ _ _ _ K0x.out K0z.out).mono ?_
  rintro e1 w8 ⟨rfl, hb⟩
  have H9 := Lib.hid (H8.out.trans hb)
  clear hb K0x K0z
  go_wp2_with fail
  go_ret
  exact ⟨rfl, H9.out⟩

theorem walk (w : World) (l0 : List (Int × ByteArray)) (a0 : Option Addr) (c0 : Nat) (f0 : List Nat) (x1 : Int) (hs0 : LaySub w a0 l0 f0) (hc0 : l0.length ≤ c0) (hl0 : l0.length ≤ maxLen) (ht0 : L.Fits l0) (hxl1 : -9223372036854775808 ≤ x1 ∧ x1 ≤ 9223372036854775807) :
    Calls Try.prog 8 #[.slice a0 l0.length c0, .int .i64 x1] w fun e w' => e = .returned (.bool true) ∧ Below w.heap.size w w' := by
  by_cases h0 : (1048576 : Int) < (L.size l0 : Int)
  · exact walk_big0 w l0 a0 c0 f0 x1 hs0 hc0 hl0 ht0  h0
  · exact walk_good w l0 a0 c0 f0 x1 hs0 hc0 hl0 ht0 hxl1 _ rfl (by omega)

set_option maxRecDepth 100000 in
theorem lifted (os : Os) (started : os.Started) (H : Type) (enc : TypeId × Value → H) :
    ReturnsInHanded {} Try.checked os 8 .any (Rows.fnExactCostOfSpec.pre6 enc Try.prog Try.f8 Rows.fnExactCostOfRow.domain false) (Rows.fnExactCostOfSpec.post enc Try.prog Try.f8 false true false false) := by
  refine returnsInHanded_of_change (C := Try.checked) Facts.own started (by kernel_rfl) Try.func8
    (ChangeSpec.witness6 (enc := enc) (C := Try.checked) false ⟨#[], #[.slice none 0 0, .int .i64 0], []⟩ 8 (by kernel_rfl) (by kernel_rfl) (by kernel_rfl) (by kernel_rfl)) ?_
  intro W base args ds gs before hval0 hW hcnd0 _
  clear hcnd0
  have hval : ∀ (j : Nat) t v, Try.f8.params[j]? = some t → args[j]? = some v → Value.okWide Try.prog W .any base t v := hval0
  have hW' := hW
  obtain ⟨p, q, hA0, hV, rfl, hfz, hnd⟩ := hW
  have hA : DataW.TrodAll enc Try.prog W 0 (fun _ => true) true Try.f8.params.toList args.toList ds p := hA0
  rw [Try.params8] at hA hval
  obtain ⟨v0, v1, d0, d1, p0, p1, rfl, rfl, rfl, h0, h1⟩ := trodAll_two hA
  obtain ⟨rfl, rfl⟩ := trodVars_none hV
  obtain ⟨l0, a0, c0, f0, rfl, ht0, hl0, hc0, hs0⟩ := OpenL.open_rows (hval 0 41 v0 rfl rfl) h0
  obtain ⟨x1, rfl, hxl1⟩ := OpenL.open_int (hval 1 3 v1 rfl rfl) h1
  clear hA0 hval0
  simp only [List.append_nil] at hW'
  have hlt : ∀ x ∈ p0 ++ p1, x.block < W.heap.size := fun x hx => by simpa using hW'.lt x hx
  refine (walk W l0 a0 c0 f0 x1 hs0 hc0 hl0 ht0 hxl1).mono fun e W' ⟨he, hb⟩ => ?_
  subst he
  refine ⟨_, rfl, [d0, d1], [], p0 ++ p1, [], p0 ++ p1, [], hW', trodAll_mk1 (shut_bool Try.underlying4 _), ?_, rfl, hb.frame _, fun h => by cases h⟩
  exact trodAll_mk2 (Below.trod Facts.laidOut (by kernel_rfl) (of_decide_eq_true (by kernel_rfl)) h0 hb (fun x hx => hlt x (List.mem_append_left _ hx))) (Below.trod Facts.laidOut (by kernel_rfl) (of_decide_eq_true (by kernel_rfl)) h1 hb (fun x hx => hlt x (List.mem_append_right _ hx)))

theorem named : Try.prog.funcNamed Rows.fnExactCostOfRow.func = some 8 := by kernel_rfl
theorem closed : joinedFacts Try.prog 8 Try.f8 Rows.fnExactCostOfSpec Rows.fnExactCostOfRow = true :=
  Facts.closed_of rfl rfl rfl rfl (h28b := rfl) (by kernel_rfl) (by kernel_rfl) (by kernel_rfl) (by kernel_rfl) (by kernel_rfl) (by kernel_rfl) (by kernel_rfl) (by kernel_rfl) (by kernel_rfl) (by kernel_rfl) (by kernel_rfl) (by kernel_rfl) (by kernel_rfl) (by kernel_rfl) (by kernel_rfl) (by kernel_rfl) (by kernel_rfl) (by kernel_rfl) (by kernel_rfl) (by kernel_rfl) (by kernel_rfl) (by kernel_rfl) (by kernel_rfl) (by kernel_rfl)
theorem instanced : Try.f8.isInstance Try.prog Rows.fnExactCostOfRow.origin Rows.fnExactCostOfRow.targs := of_decide_eq_true (by kernel_rfl)
theorem wrapped : Try.f8.isWrapper Try.prog Rows.fnExactCostOfRow.wrapper Rows.fnExactCostOfRow.mainSum := by
  unfold Func.isWrapper
  rw [if_neg (of_decide_eq_false (by kernel_rfl))]
  exact ⟨rfl, rfl⟩

theorem holds : Rows.FnExactCostOfSaid :=
  OpenClaim.holds_of_wide 8 Try.f8 rfl rfl rfl rfl rfl rfl rfl ⟨rfl, rfl, rfl, rfl, rfl⟩ rfl rfl rfl rfl rfl named Try.func8 closed instanced wrapped
    (fun os started H enc _ => lifted os started H enc)

end Go.Proofs.Ythlgjnmfblkegaa.lawCostOf

