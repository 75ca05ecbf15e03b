/-
  Parts are documents: the law FnDocParts returns true for whatever draws, and its argument reads as it did. No condition of ours.
-/
import Derived.Test.YtjpgnhpfmdjamaaDrI
import Derived.Test.YtjpgnhpfmdjamaaDocK
import Derived.Test.YtjpgnhpfmdjamaaLawC
import Derived.Test.YtjpgnhpfmdjamaaFacts
import Derived.Test.YtjpgnhpfmdjamaaRows
import Derived.Deep.RegionHeld3
import Derived.Deep.DeepCutAuto
import Derived.Deep.RegionWith
set_option linter.unusedVariables false
set_option linter.unusedSimpArgs false
namespace Go.Proofs.Ytjpgnhpfmdjamaa.lawDocParts
open Go.ChangeShapes Go.WideShapes Go.ChangeAt Go.RowKit P1 Draw6 LawC CntC DocK

set_option maxRecDepth 100000 in
set_option maxHeartbeats 6400000 in
theorem walk_good (w : World) (a0 : Option Addr) (len0 cap0 : Nat) (hb0 : Bytes w a0 len0) (hlc0 : len0 ≤ cap0) (hcm0 : cap0 ≤ maxLen) (hl0 : len0 ≤ 1048576) :
    Calls Try.prog 5 #[.slice a0 len0 cap0] w fun e w' => e = .returned (.bool true) ∧ Ext w w' := by
  have HD0 := Lib.hid (DrI.drawDocValid w a0 len0 cap0 hb0 hlc0 hcm0)
  clear hb0
  unfold maxLen at hcm0
  go_enter Try.func5, Try.ntmps5
  go_wp2_with fail
  refine HD0.out.mono ?_
  rintro e1 w1 ⟨o, n, t, k, a, cap, fs, rfl, hc, hsz, hsub, hfr, hb1⟩
  have D1 := Lib.hid (show DocK.Doc0 w1 n t k a cap fs from ⟨hsub, fun c hc => (hfr.2 c hc).2, hc, by omega⟩)
  have E1 := Lib.hid (show Ext w w1 from hb1)
  clear hsub hfr hb1
  obtain ⟨V, hV⟩ : ∃ V, canD o n t k = V := ⟨_, rfl⟩
  have hcnt : k.cnt ≤ 100000 := by have := F.cnt_le_size k; omega
  have HVI := Lib.hid (show ∀ W : World, Ext w1 W → Calls Try.prog 24 #[.agg #[.int .i64 o, .int .i64 n, .string t, .slice a k.len cap]] W fun e w' => e = .returned (.bool V) ∧ Ext W w' from fun W e => by rw [← hV]; exact (D1.out.ext e).implCanFlatten o)
  obtain ⟨Z, hZ⟩ : ∃ Z : Nat, 1 + k.cnt = Z := ⟨_, rfl⟩
  have HZI := Lib.hid (show ∀ W : World, Ext w1 W → Calls Try.prog 23 #[.agg #[.int .i64 o, .int .i64 n, .string t, .slice a k.len cap]] W fun e w' => e = .returned (.int .i64 (Z : Int)) ∧ Ext W w' from fun W e => by rw [← hZ]; exact (D1.out.ext e).implDocSize o)
  obtain ⟨Q, hQ⟩ : ∃ Q, validD o n t k = Q := ⟨_, rfl⟩
  have HV := Lib.hid (show ∀ W : World, Ext w1 W → Calls Try.prog 22 #[.agg #[.int .i64 o, .int .i64 n, .string t, .slice a k.len cap]] W fun e w' => e = .returned (.bool Q) ∧ Ext W w' from fun W e => by rw [← hQ]; exact (D1.out.ext e).implDocValid o)
  have HS := Lib.hid (show ∀ W : World, Ext w1 W → Calls Try.prog 30 #[.agg #[.int .i64 o, .int .i64 n, .string t, .slice a k.len cap]] W fun e w' => e = .returned (.bool Q) ∧ Ext W w' from fun W e => by rw [← hQ]; exact (D1.out.ext e).specDocValid o)
  have hNN : (Q != Q) = false := by simp
  have hNe : (Q == Q) = true := by simp
  have hkl : k.len ≤ 100000 := D1.out.len
  clear hc hsz
  go_wp2_with fail
  refine (HV.out _ ((Ext.refl _).alloc _)).mono ?_
  rintro e2 w2 ⟨rfl, hb2⟩
  have X2 := Lib.hid (box4 (box_new w1 _ _ _ _ _) (by simp) hb2)
  have E2 := Lib.hid (((Ext.refl w1).alloc _).trans hb2)
  have L2 := Lib.hid (show w1.heap.size < w2.heap.size from by have := hb2.size; simp at this; omega)
  clear hb2
  obtain ⟨x0, x1, x2, x3⟩ := X2.out
  have l2 := L2.out
  cases Q with
  | false =>
    clear hV hQ hZ
    go_wp2_with fail
    refine (HS.out _ E2.out).mono ?_
    rintro e3 w3 ⟨rfl, hb3⟩
    have X3 := Lib.hid (box4 X2.out L2.out hb3)
    have E3 := Lib.hid (E2.out.trans hb3)
    clear hb3 x0 x1 x2 x3 l2
    obtain ⟨x0, x1, x2, x3⟩ := X3.out
    go_wp2_with fail
    refine (HS.out _ E3.out).mono ?_
    rintro e5 w5 ⟨rfl, hb5⟩
    have HB5 := Lib.hid hb5
    clear hb5 x0 x1 x2 x3
    go_wp2_with fail
    go_ret
    exact ⟨by first | rfl | simp, E1.out.trans (E3.out.trans HB5.out)⟩
  | true =>
    have HVV := Lib.hid (And.intro hV (And.intro hQ hZ))
    clear hV hQ hZ
    go_wp2_with fail
    refine (HS.out _ E2.out).mono ?_
    rintro e3 w3 ⟨rfl, hb3⟩
    have X3 := Lib.hid (box4 X2.out L2.out hb3)
    have E3 := Lib.hid (E2.out.trans hb3)
    have L3 := Lib.hid (Nat.lt_of_lt_of_le L2.out hb3.size)
    clear hb3 x0 x1 x2 x3 l2
    obtain ⟨x0, x1, x2, x3⟩ := X3.out
    go_wp2_with fail
    go_loopw [5] (fun i wr => ∃ p g : F, k = p.app g ∧ i = .int .i64 (p.len : Int) ∧ Ext w3 wr) (fun i _ => k.len - (intOf i).toNat)
    case atStart => exact ⟨.nil, k, rfl, rfl, Ext.refl _⟩
    case round =>
      obtain ⟨p, g, hk, rfl, hext⟩ := hrel
      obtain ⟨J, hp⟩ : ∃ J, p.len = J := ⟨_, rfl⟩
      rw [hp]
      obtain ⟨x0, x1, x2, x3⟩ := box4 X3.out L3.out hext
      have lr : w1.heap.size < wr.heap.size := Nat.lt_of_lt_of_le L3.out hext.size
      have E1r := Lib.hid (E3.out.trans hext)
      have HXT := Lib.hid hext
      clear hext
      cases g with
      | nil =>
        have hkp : k = p := by rw [hk, F.app_nil]
        have hJ : J = k.len := by rw [hkp, hp]
        subst hJ
        clear hk hp hkp
        go_wp2_with fail
        go_ret
        exact ⟨by first | rfl | simp, E1.out.trans E1r.out⟩
      | cons o1 n1 t1 k1 r =>
        obtain ⟨b, off, a1, c1, f1, rfl, hbl, hD, z0, z1, z2, z3⟩ := D1.out.kid' hk
        rw [hp] at z0 z1 z2 z3
        rw [← E1r.out.cell hbl] at z0 z1 z2 z3
        have HD := Lib.hid hD
        have hjl : J < k.len := by rw [hk, F.len_app, hp]; simp only [F.len]; omega
        have hpl : (p.app (.cons o1 n1 t1 k1 .nil)).len = J + 1 := by rw [F.len_app, hp]; rfl
        have hka : k = (p.app (.cons o1 n1 t1 k1 .nil)).app r := by rw [hk, F.app_assoc]; rfl
        have HK := Lib.hid (And.intro hk (And.intro hp (And.intro hpl hka)))
        have hval := HVV.out.2.1
        have hval0 := hval
        rw [hk] at hval
        have hv1 : validD o1 n1 t1 k1 = true := valid_kid hval
        obtain ⟨Y, hY⟩ : ∃ Y : Nat, 1 + k1.cnt = Y := ⟨_, rfl⟩
        have hYZ : Y < Z := by rw [← hY, ← HVV.out.2.2, hk, F.cnt_app]; simp only [F.cnt]; omega
        have hcan : V = true → canD o1 n1 t1 k1 = true := fun hv => by
          have h1 := HVV.out.1
          rw [canD_of hval0, hv, hk, opsD_app] at h1
          simp only [decide_eq_true_eq] at h1
          rw [canD_of hv1]
          simp only [decide_eq_true_eq]
          omega
        have HC0 := Lib.hid (fun (W : World) (e : Ext wr W) => (HD.out.ext (E1r.out.trans e)).implDocValid o1)
        have HC1 := Lib.hid (fun (W : World) (e : Ext wr W) => (HD.out.ext (E1r.out.trans e)).implDocSize o1)
        have HC2 := Lib.hid (fun (W : World) (e : Ext wr W) => (HD.out.ext (E1r.out.trans e)).implCanFlatten o1)
        have HR1 := Lib.hid (fun (W : World) (e : Ext wr W) => HZI.out W (E1r.out.trans e))
        have HR2 := Lib.hid (fun (W : World) (e : Ext wr W) => HVI.out W (E1r.out.trans e))
        simp only [hv1] at HC0
        simp only [hY] at HC1
        have hge : ¬ ((Z : Int) ≤ (Y : Int)) := by omega
        have hge2 : decide ((Z : Int) ≤ (Y : Int)) = false := decide_eq_false hge
        have hge3 : ¬ Z ≤ Y := by omega
        have hge4 : decide (Z ≤ Y) = false := decide_eq_false hge3
        have hbl' : b < wr.heap.size := Nat.lt_of_lt_of_le hbl E1r.out.size
        clear hk hp hD hpl hka hval hval0 hv1 hY
        have XX := Lib.hid (And.intro (And.intro x0 (And.intro x1 (And.intro x2 x3))) (And.intro z0 (And.intro z1 (And.intro z2 z3))))
        have LL := Lib.hid (And.intro lr hbl')
        cases V with
        | false =>
          clear hcan
          go_wp2_with fail
          first | go_region_with (first
            | (go_at_call 22; refine (HC0.out _ (by first | exact (Ext.refl wr).drew | exact Ext.refl _)).mono ?_; rintro e1 v1 ⟨rfl, hb_1⟩; have q1 : Ext wr v1 := Ext.trans (by first | exact (Ext.refl wr).drew | exact Ext.refl wr) hb_1; obtain ⟨x0, x1, x2, x3, z0, z1, z2, z3⟩ := keep8 XX.out LL.out q1)
            | (go_at_call_of 23 (Value.agg #[.int .i64 o1, .int .i64 n1, .string t1, .slice a1 k1.len c1]); refine (HC1.out _ (by exact q1)).mono ?_; rintro e1 v2 ⟨rfl, hb_2⟩; have q2 : Ext wr v2 := Ext.trans (by first | exact q1 | exact Ext.refl wr) hb_2; obtain ⟨x0, x1, x2, x3, z0, z1, z2, z3⟩ := keep8 XX.out LL.out q2)
            | (go_at_call_of 23 (Value.agg #[.int .i64 o, .int .i64 n, .string t, .slice (some ⟨b, off, none⟩) k.len cap]); refine (HR1.out _ (by exact q2)).mono ?_; rintro e1 v3 ⟨rfl, hb_3⟩; have q3 : Ext wr v3 := Ext.trans (by first | exact q2 | exact Ext.refl wr) hb_3; obtain ⟨x0, x1, x2, x3, z0, z1, z2, z3⟩ := keep8 XX.out LL.out q3)
            | (go_at_call_of 24 (Value.agg #[.int .i64 o, .int .i64 n, .string t, .slice (some ⟨b, off, none⟩) k.len cap]); refine (HR2.out _ (by exact q3)).mono ?_; rintro e1 v4 ⟨rfl, hb_4⟩; have q4 : Ext wr v4 := Ext.trans (by first | exact q3 | exact Ext.refl wr) hb_4; obtain ⟨x0, x1, x2, x3, z0, z1, z2, z3⟩ := keep8 XX.out LL.out q4)) | fail
          all_goals
            have Q := Lib.hid q4
            clear x0 x1 x2 x3 z0 z1 z2 z3
            go_wp2_with fail
            go_roundw
          all_goals first
            | exact ⟨p.app (.cons o1 n1 t1 k1 .nil), r, HK.out.2.2.2, by rw [HK.out.2.2.1]; go_num, HXT.out.trans Q.out⟩
            | (simp [intOf]; omega)
        | true =>
          have hc1 := hcan rfl
          simp only [hc1] at HC2
          clear hcan hc1
          go_wp2_with fail
          first | go_region_held3 (fun w' => w'.cell? ⟨w1.heap.size, 0, none⟩ = some (.int .i64 o) ∧ w'.cell? ⟨w1.heap.size, 1, none⟩ = some (.int .i64 n) ∧ w'.cell? ⟨w1.heap.size, 2, none⟩ = some (.string t) ∧ w'.cell? ⟨w1.heap.size, 3, none⟩ = some (.slice (some ⟨b, off, none⟩) k.len cap) ∧ w'.cell? ⟨b, off + J * 4, none⟩ = some (.int .i64 o1) ∧ w'.cell? ⟨b, off + J * 4 + 1, none⟩ = some (.int .i64 n1) ∧ w'.cell? ⟨b, off + J * 4 + 2, none⟩ = some (.string t1) ∧ w'.cell? ⟨b, off + J * 4 + 3, none⟩ = some (.slice a1 k1.len c1)) (first | go_keep | exact keep8 XX.out LL.out q1 | exact keep8 XX.out LL.out q2 | exact keep8 XX.out LL.out q3 | exact keep8 XX.out LL.out q4 | exact keep8 XX.out LL.out q5) (first
            | (go_at_call 22; refine (HC0.out _ (by first | exact (Ext.refl wr).drew | exact Ext.refl _)).mono ?_; rintro e1 v1 ⟨rfl, hb_1⟩; have q1 : Ext wr v1 := Ext.trans (by first | exact (Ext.refl wr).drew | exact Ext.refl wr) hb_1)
            | (go_at_call_of 23 (Value.agg #[.int .i64 o1, .int .i64 n1, .string t1, .slice a1 k1.len c1]); refine (HC1.out _ (by exact q1)).mono ?_; rintro e1 v2 ⟨rfl, hb_2⟩; have q2 : Ext wr v2 := Ext.trans (by first | exact q1 | exact Ext.refl wr) hb_2)
            | (go_at_call_of 23 (Value.agg #[.int .i64 o, .int .i64 n, .string t, .slice (some ⟨b, off, none⟩) k.len cap]); refine (HR1.out _ (by exact q2)).mono ?_; rintro e1 v3 ⟨rfl, hb_3⟩; have q3 : Ext wr v3 := Ext.trans (by first | exact q2 | exact Ext.refl wr) hb_3)
            | (go_at_call_of 24 (Value.agg #[.int .i64 o, .int .i64 n, .string t, .slice (some ⟨b, off, none⟩) k.len cap]); refine (HR2.out _ (by exact q3)).mono ?_; rintro e1 v4 ⟨rfl, hb_4⟩; have q4 : Ext wr v4 := Ext.trans (by first | exact q3 | exact Ext.refl wr) hb_4)
            | (go_at_call_of 24 (Value.agg #[.int .i64 o1, .int .i64 n1, .string t1, .slice a1 k1.len c1]); refine (HC2.out _ (by exact q4)).mono ?_; rintro e1 v5 ⟨rfl, hb_5⟩; have q5 : Ext wr v5 := Ext.trans (by first | exact q4 | exact Ext.refl wr) hb_5)) | fail
          all_goals
            have Q := Lib.hid q5
            go_wp2_with fail
            go_roundw
          all_goals first
            | exact ⟨p.app (.cons o1 n1 t1 k1 .nil), r, HK.out.2.2.2, by rw [HK.out.2.2.1]; go_num, HXT.out.trans Q.out⟩
            | (simp [intOf]; omega)

set_option maxHeartbeats 400000 in
theorem walk_big (w : World) (a0 : Option Addr) (len0 cap0 : Nat) (hl0 : 1048576 < len0) :
    Calls Try.prog 5 #[.slice a0 len0 cap0] w fun e w' => e = .returned (.bool true) ∧ Ext w w' := by
  have h1 : (1048576 : Int) < (len0 : Int) := by omega
  go_enter Try.func5, Try.ntmps5
  go_wp2_with fail
  go_ret
  exact ⟨rfl, Ext.refl w⟩

theorem walk (w : World) (a0 : Option Addr) (len0 cap0 : Nat) (hb0 : Bytes w a0 len0) (hlc0 : len0 ≤ cap0) (hcm0 : cap0 ≤ maxLen) :
    Calls Try.prog 5 #[.slice a0 len0 cap0] w fun e w' => e = .returned (.bool true) ∧ Below w.heap.size w w' := by
  by_cases h : 1048576 < len0
  · exact walk_big w a0 len0 cap0 h
  · exact walk_good w a0 len0 cap0 hb0 hlc0 hcm0 (by omega)

set_option maxRecDepth 100000 in
theorem lifted (os : Os) (started : os.Started) (H : Type) (enc : TypeId × Value → H) :
    ReturnsInHanded {} Try.checked os 5 .any (Rows.fnDocPartsSpec.pre6 enc Try.prog Try.f5 Rows.fnDocPartsRow.domain false) (Rows.fnDocPartsSpec.post enc Try.prog Try.f5 false true false false) := by
  refine returnsInHanded_of_change (C := Try.checked) Facts.own started (by kernel_rfl) Try.func5
    (ChangeSpec.witness6 (enc := enc) (C := Try.checked) false ⟨#[], #[.slice none 0 0], []⟩ 8 (by kernel_rfl) (by kernel_rfl) (by kernel_rfl) (by kernel_rfl)) ?_
  intro W base args ds gs before hval0 hW hcnd0 _
  clear hcnd0
  have hval : ∀ (j : Nat) t v, Try.f5.params[j]? = some t → args[j]? = some v → Value.okWide Try.prog W .any base t v := hval0
  have hW' := hW
  obtain ⟨p, q, hA0, hV, rfl, hfz, hnd⟩ := hW
  have hA : DataW.TrodAll enc Try.prog W 0 (fun _ => true) true Try.f5.params.toList args.toList ds p := hA0
  rw [Try.params5] at hA hval
  obtain ⟨v0, d0, rfl, rfl, h0⟩ := trodAll_one hA
  obtain ⟨rfl, rfl⟩ := trodVars_none hV
  obtain ⟨a0, len0, cap0, rfl⟩ := okWide_slice Try.underlying22 (hval 0 22 v0 rfl rfl)
  clear hA0 hval0
  simp only [List.append_nil] at hW'
  have hlt : ∀ x ∈ p, x.block < W.heap.size := fun x hx => by simpa using hW'.lt x hx
  obtain ⟨hb0, hlc0, hcm0⟩ := opened h0
  refine (walk W a0 len0 cap0 hb0 hlc0 hcm0).mono fun e W' ⟨he, hb⟩ => ?_
  subst he
  refine ⟨_, rfl, [_], [], p, [], p, [], hW', trodAll_mk1 (shut_bool Try.underlying4 _), ?_, rfl, hb.frame _, fun h => by cases h⟩
  exact trodAll_mk1 (Below.trod Facts.laidOut (by kernel_rfl) (of_decide_eq_true (by kernel_rfl)) h0 hb hlt)

theorem named : Try.prog.funcNamed Rows.fnDocPartsRow.func = some 5 := by kernel_rfl
theorem closed : joinedFacts Try.prog 5 Try.f5 Rows.fnDocPartsSpec Rows.fnDocPartsRow = true :=
  Facts.closed_of rfl rfl rfl rfl (h28b := rfl) (by kernel_rfl) (by kernel_rfl) (by kernel_rfl) (by kernel_rfl) (by kernel_rfl) (by kernel_rfl) (by kernel_rfl) (by kernel_rfl) (by kernel_rfl) (by kernel_rfl) (by kernel_rfl) (by kernel_rfl) (by kernel_rfl) (by kernel_rfl) (by kernel_rfl) (by kernel_rfl) (by kernel_rfl) (by kernel_rfl) (by kernel_rfl) (by kernel_rfl) (by kernel_rfl) (by kernel_rfl) (by kernel_rfl) (by kernel_rfl)
theorem instanced : Try.f5.isInstance Try.prog Rows.fnDocPartsRow.origin Rows.fnDocPartsRow.targs := of_decide_eq_true (by kernel_rfl)
theorem wrapped : Try.f5.isWrapper Try.prog Rows.fnDocPartsRow.wrapper Rows.fnDocPartsRow.mainSum := by
  unfold Func.isWrapper
  rw [if_neg (of_decide_eq_false (by kernel_rfl))]
  exact ⟨rfl, rfl⟩

theorem holds : Rows.FnDocPartsSaid :=
  OpenClaim.holds_of_wide 5 Try.f5 rfl rfl rfl rfl rfl rfl rfl ⟨rfl, rfl, rfl, rfl, rfl⟩ rfl rfl rfl rfl rfl named Try.func5 closed instanced wrapped
    (fun os started H enc _ => lifted os started H enc)

end Go.Proofs.Ytjpgnhpfmdjamaa.lawDocParts
