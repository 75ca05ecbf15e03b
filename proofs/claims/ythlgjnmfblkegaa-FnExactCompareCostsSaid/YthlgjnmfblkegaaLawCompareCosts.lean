import Derived.Test.YthlgjnmfblkegaaCsL
import Derived.Test.YthlgjnmfblkegaaPl
import Derived.Test.YthlgjnmfblkegaaFacts
import Derived.Test.YthlgjnmfblkegaaRows
/-
  For every two costs, CompareCosts of the program answers as CompareCosts of the model: the law FnExactCompareCosts returns true, and its arguments read as they did. No condition of ours.
-/
set_option linter.unusedVariables false
set_option linter.unusedSimpArgs false
namespace Go.Proofs.Ythlgjnmfblkegaa.lawCompareCosts
open Go.ChangeShapes Go.WideShapes Go.ChangeAt Go.RowKit P1

theorem keepF {w' w'' : World} {p q : Nat} {a b c d : Value} (h : (w'.cell? ⟨p, 0, none⟩ = some a ∧ w'.cell? ⟨p, 1, none⟩ = some b) ∧ w'.cell? ⟨q, 0, none⟩ = some c ∧ w'.cell? ⟨q, 1, none⟩ = some d) (l : p < w'.heap.size ∧ q < w'.heap.size) (k : Ext w' w'') :
    (w''.cell? ⟨p, 0, none⟩ = some a ∧ w''.cell? ⟨p, 1, none⟩ = some b) ∧ w''.cell? ⟨q, 0, none⟩ = some c ∧ w''.cell? ⟨q, 1, none⟩ = some d :=
  ⟨⟨(k.cell l.1).trans h.1.1, (k.cell l.1).trans h.1.2⟩, (k.cell l.2).trans h.2.1, (k.cell l.2).trans h.2.2⟩

set_option maxRecDepth 100000 in
set_option maxHeartbeats 3200000 in
theorem walk (w : World) (a b c d : Int) :
    Calls Try.prog 9 #[.agg #[.int .i64 a, .int .i64 b], .agg #[.int .i64 c, .int .i64 d]] w fun e w' => e = .returned (.bool true) ∧ Below w.heap.size w w' := by
  have HT1 := Lib.hid (Cst.toCost a b)
  have HT2 := Lib.hid (Cst.toCost c d)
  have hsp := Cst.specCompareCosts a b c d
  have him := Cst.implCompareCosts a b c d
  obtain ⟨v, hv⟩ : ∃ v, Cst.cmpC a b c d = v := ⟨_, rfl⟩
  rw [hv] at hsp him
  have HSP := Lib.hid hsp
  have HIM := Lib.hid him
  clear hsp him hv
  have H0 := Lib.hid (show ∀ o1 o2, Ext w ((w.alloc o1).alloc o2) from fun o1 o2 => ((Ext.refl w).alloc o1).alloc o2)
  have hvv : (v != v) = false := by simp
  go_enter Try.func9, Try.ntmps9
  go_wp2_with fail
  obtain ⟨V, hV⟩ : ∃ V, (w.alloc (.cells #[.int .i64 a, .int .i64 b] 47)).alloc (.cells #[.int .i64 c, .int .i64 d] 47) = V := ⟨_, rfl⟩
  have hE : Ext w V := by rw [← hV]; exact H0.out _ _
  have hz : w.heap.size + 1 < V.heap.size := by rw [← hV]; simp
  have hz0 : w.heap.size < V.heap.size := by omega
  have q0 : V.cell? ⟨w.heap.size, 0, none⟩ = some (.int .i64 a) := by rw [← hV, World.cell?_alloc_old _ _ _ (by simp), World.cell?_alloc_new]; rfl
  have q1 : V.cell? ⟨w.heap.size, 1, none⟩ = some (.int .i64 b) := by rw [← hV, World.cell?_alloc_old _ _ _ (by simp), World.cell?_alloc_new]; rfl
  have q2 : V.cell? ⟨w.heap.size + 1, 0, none⟩ = some (.int .i64 c) := by rw [← hV, show w.heap.size + 1 = (w.alloc (.cells #[.int .i64 a, .int .i64 b] 47)).heap.size by simp, World.cell?_alloc_new]; rfl
  have q3 : V.cell? ⟨w.heap.size + 1, 1, none⟩ = some (.int .i64 d) := by rw [← hV, show w.heap.size + 1 = (w.alloc (.cells #[.int .i64 a, .int .i64 b] 47)).heap.size by simp, World.cell?_alloc_new]; rfl
  rw [hV]
  clear hV H0
  have HE := Lib.hid hE
  have P0 := Lib.hid (And.intro (And.intro (And.intro q0 q1) (And.intro q2 q3)) (And.intro (And.intro hz0 hz) True.intro))
  clear hE
  go_region_held3 (fun w' => (w'.cell? ⟨w.heap.size, 0, none⟩ = some (.int .i64 a) ∧ w'.cell? ⟨w.heap.size, 1, none⟩ = some (.int .i64 b)) ∧ w'.cell? ⟨w.heap.size + 1, 0, none⟩ = some (.int .i64 c) ∧ w'.cell? ⟨w.heap.size + 1, 1, none⟩ = some (.int .i64 d))
    (first | go_keep | (first | exact P0.out.1 | exact keepF P0.out.1 P0.out.2.1 (Ext.drew (Ext.refl _)) | exact keepF P0.out.1 P0.out.2.1 ex1 | exact keepF P0.out.1 P0.out.2.1 ey1 | exact keepF P0.out.1 P0.out.2.1 ez1))
    (first
      | (go_at_call_of 28 (Value.agg #[.int .i64 a, .int .i64 b]); refine (HT1.out _).mono ?_; rintro e1 x1 ⟨rfl, hbx1⟩; have ex1 := (Ext.drew (Ext.refl _)).trans hbx1)
      | (go_at_call_of 28 (Value.agg #[.int .i64 c, .int .i64 d]); refine (HT2.out _).mono ?_; rintro e1 y1 ⟨rfl, hby1⟩; have ey1 := Ext.trans ex1 hby1)
      | (go_at_call 20; refine (HSP.out _).mono ?_; rintro e1 z1 ⟨rfl, hbz1⟩; have ez1 := Ext.trans ey1 hbz1))
  have HZ1 := Lib.hid (Ext.trans HE.out ez1)
  have P1 := Lib.hid (And.intro (keepF P0.out.1 P0.out.2.1 ez1) (And.intro (And.intro (Nat.lt_of_lt_of_le P0.out.2.1.1 (Ext.size ez1)) (Nat.lt_of_lt_of_le P0.out.2.1.2 (Ext.size ez1))) True.intro))
  clear hbx1 hby1 hbz1 ex1 ey1 ez1
  obtain ⟨⟨q0, q1⟩, q2, q3⟩ := P1.out.1
  go_wp2_with fail
  go_region_held3 (fun w' => (w'.cell? ⟨w.heap.size, 0, none⟩ = some (.int .i64 a) ∧ w'.cell? ⟨w.heap.size, 1, none⟩ = some (.int .i64 b)) ∧ w'.cell? ⟨w.heap.size + 1, 0, none⟩ = some (.int .i64 c) ∧ w'.cell? ⟨w.heap.size + 1, 1, none⟩ = some (.int .i64 d))
    (first | go_keep | (first | exact P1.out.1 | exact keepF P1.out.1 P1.out.2.1 (Ext.drew (Ext.refl _)) | exact keepF P1.out.1 P1.out.2.1 ex2 | exact keepF P1.out.1 P1.out.2.1 ey2 | exact keepF P1.out.1 P1.out.2.1 ez2))
    (first
      | (go_at_call_of 28 (Value.agg #[.int .i64 a, .int .i64 b]); refine (HT1.out _).mono ?_; rintro e1 x2 ⟨rfl, hbx2⟩; have ex2 := (Ext.drew (Ext.refl _)).trans hbx2)
      | (go_at_call_of 28 (Value.agg #[.int .i64 c, .int .i64 d]); refine (HT2.out _).mono ?_; rintro e1 y2 ⟨rfl, hby2⟩; have ey2 := Ext.trans ex2 hby2)
      | (go_at_call 19; refine (HIM.out _).mono ?_; rintro e1 z2 ⟨rfl, hbz2⟩; have ez2 := Ext.trans ey2 hbz2))
  have HZ2 := Lib.hid (Ext.trans HZ1.out ez2)
  have P2 := Lib.hid (And.intro (keepF P1.out.1 P1.out.2.1 ez2) (And.intro (And.intro (Nat.lt_of_lt_of_le P1.out.2.1.1 (Ext.size ez2)) (Nat.lt_of_lt_of_le P1.out.2.1.2 (Ext.size ez2))) True.intro))
  clear hbx2 hby2 hbz2 ex2 ey2 ez2
  go_wp2_with fail
  go_ret
  exact ⟨rfl, HZ2.out⟩

set_option maxRecDepth 100000 in
theorem lifted (os : Os) (started : os.Started) (H : Type) (enc : TypeId × Value → H) :
    ReturnsInHanded {} Try.checked os 9 .any (Rows.fnExactCompareCostsSpec.pre6 enc Try.prog Try.f9 Rows.fnExactCompareCostsRow.domain false) (Rows.fnExactCompareCostsSpec.post enc Try.prog Try.f9 false true false false) := by
  refine returnsInHanded_of_change (C := Try.checked) Facts.own started (by kernel_rfl) Try.func9
    (ChangeSpec.witness6 (enc := enc) (C := Try.checked) false ⟨#[], #[.agg #[.int .i64 0, .int .i64 0], .agg #[.int .i64 0, .int .i64 0]], []⟩ 8 (by kernel_rfl) (by kernel_rfl) (by kernel_rfl) (by kernel_rfl)) ?_
  intro W base args ds gs before hval0 hW hcnd0 _
  clear hcnd0
  have hval : ∀ (j : Nat) t v, Try.f9.params[j]? = some t → args[j]? = some v → Value.okWide Try.prog W .any base t v := hval0
  have hW' := hW
  obtain ⟨p, q, hA0, hV, rfl, hfz, hnd⟩ := hW
  have hA : DataW.TrodAll enc Try.prog W 0 (fun _ => true) true Try.f9.params.toList args.toList ds p := hA0
  rw [Try.params9] at hA hval
  obtain ⟨v0, v1, d0, d1, p0, p1, rfl, rfl, rfl, h0, h1⟩ := trodAll_two hA
  obtain ⟨rfl, rfl⟩ := trodVars_none hV
  obtain ⟨a, b, rfl, _, _⟩ := Cst.open_cost (hval 0 47 v0 rfl rfl) h0
  obtain ⟨c, d, rfl, _, _⟩ := Cst.open_cost (hval 1 47 v1 rfl rfl) h1
  clear hA0 hval0
  simp only [List.append_nil] at hW'
  have hlt : ∀ x ∈ p0 ++ p1, x.block < W.heap.size := fun x hx => by simpa using hW'.lt x hx
  refine (walk W a b c d).mono fun e W' ⟨he, hb⟩ => ?_
  subst he
  refine ⟨_, rfl, [d0, d1], [], p0 ++ p1, [], p0 ++ p1, [], hW', trodAll_mk1 (shut_bool Try.underlying4 _), ?_, rfl, hb.frame _, fun h => by cases h⟩
  exact trodAll_mk2 (Below.trod Facts.laidOut (by kernel_rfl) (of_decide_eq_true (by kernel_rfl)) h0 hb (fun x hx => hlt x (List.mem_append_left _ hx))) (Below.trod Facts.laidOut (by kernel_rfl) (of_decide_eq_true (by kernel_rfl)) h1 hb (fun x hx => hlt x (List.mem_append_right _ hx)))

theorem named : Try.prog.funcNamed Rows.fnExactCompareCostsRow.func = some 9 := by kernel_rfl
theorem closed : joinedFacts Try.prog 9 Try.f9 Rows.fnExactCompareCostsSpec Rows.fnExactCompareCostsRow = true :=
  Facts.closed_of rfl rfl rfl rfl (h28b := rfl) (by kernel_rfl) (by kernel_rfl) (by kernel_rfl) (by kernel_rfl) (by kernel_rfl) (by kernel_rfl) (by kernel_rfl) (by kernel_rfl) (by kernel_rfl) (by kernel_rfl) (by kernel_rfl) (by kernel_rfl) (by kernel_rfl) (by kernel_rfl) (by kernel_rfl) (by kernel_rfl) (by kernel_rfl) (by kernel_rfl) (by kernel_rfl) (by kernel_rfl) (by kernel_rfl) (by kernel_rfl) (by kernel_rfl) (by kernel_rfl)
theorem instanced : Try.f9.isInstance Try.prog Rows.fnExactCompareCostsRow.origin Rows.fnExactCompareCostsRow.targs := of_decide_eq_true (by kernel_rfl)
theorem wrapped : Try.f9.isWrapper Try.prog Rows.fnExactCompareCostsRow.wrapper Rows.fnExactCompareCostsRow.mainSum := by
  unfold Func.isWrapper
  rw [if_neg (of_decide_eq_false (by kernel_rfl))]
  exact ⟨rfl, rfl⟩

theorem holds : Rows.FnExactCompareCostsSaid :=
  OpenClaim.holds_of_wide 9 Try.f9 rfl rfl rfl rfl rfl rfl rfl ⟨rfl, rfl, rfl, rfl, rfl⟩ rfl rfl rfl rfl rfl named Try.func9 closed instanced wrapped
    (fun os started H enc _ => lifted os started H enc)

end Go.Proofs.Ythlgjnmfblkegaa.lawCompareCosts

