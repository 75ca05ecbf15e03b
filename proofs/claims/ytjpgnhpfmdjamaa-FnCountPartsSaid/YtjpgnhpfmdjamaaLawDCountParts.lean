/-
  Counts add up: the law FnCountParts returns true for whatever draws, and its argument reads as it did. No condition of ours.
-/
import Derived.Test.YtjpgnhpfmdjamaaDrI
import Derived.Test.YtjpgnhpfmdjamaaDocK
import Derived.Test.YtjpgnhpfmdjamaaLawC
import Derived.Test.YtjpgnhpfmdjamaaFacts
import Derived.Test.YtjpgnhpfmdjamaaRows
import Derived.Deep.RegionHeld3
import Derived.Deep.DeepCutAuto
set_option linter.unusedVariables false
set_option linter.unusedSimpArgs false
namespace Go.Proofs.Ytjpgnhpfmdjamaa.lawCountParts
open Go.ChangeShapes Go.WideShapes Go.ChangeAt Go.RowKit P1 Draw6 LawC CntC DocK

set_option maxRecDepth 100000 in
set_option maxHeartbeats 6400000 in
theorem walk_good (w : World) (a0 : Option Addr) (len0 cap0 : Nat) (hb0 : Bytes w a0 len0) (hlc0 : len0 ≤ cap0) (hcm0 : cap0 ≤ maxLen) (hl0 : len0 ≤ 1048576) :
    Calls Try.prog 8 #[.slice a0 len0 cap0] w fun e w' => e = .returned (.bool true) ∧ Ext w w' := by
  have HD0 := Lib.hid (DrI.drawCountOps w a0 len0 cap0 hb0 hlc0 hcm0)
  clear hb0
  unfold maxLen at hcm0
  go_enter Try.func8, Try.ntmps8
  go_wp2_with fail
  refine HD0.out.mono ?_
  rintro e1 w1 ⟨o, n, t, k, a, cap, fs, op, rfl, hc, hsz, hsub, hfr, hb1⟩
  have D1 := Lib.hid (show DocK.Doc0 w1 n t k a cap fs from ⟨hsub, fun c hc => (hfr.2 c hc).2, hc, by omega⟩)
  have E1 := Lib.hid (show Ext w w1 from hb1)
  clear hsub hfr hb1
  obtain ⟨Z, hZ⟩ : ∃ Z : Int, ((1 + k.cnt : Nat) : Int) = Z := ⟨_, rfl⟩
  have hcnt : k.cnt ≤ 100000 := by have := F.cnt_le_size k; omega
  have HZI := Lib.hid (show ∀ W : World, Ext w1 W → Calls Try.prog 23 #[.agg #[.int .i64 o, .int .i64 n, .string t, .slice a k.len cap]] W fun e w' => e = .returned (.int .i64 Z) ∧ Ext W w' from fun W e => by rw [← hZ]; exact (D1.out.ext e).implDocSize o)
  have HV := Lib.hid (show ∀ W : World, Ext w1 W → Calls Try.prog 22 #[.agg #[.int .i64 o, .int .i64 n, .string t, .slice a k.len cap]] W fun e w' => e = .returned (.bool (validD o n t k)) ∧ Ext W w' from fun W e => (D1.out.ext e).implDocValid o)
  obtain ⟨N, hN⟩ : ∃ N : Int, ((opsD op o k : Nat) : Int) = N := ⟨_, rfl⟩
  have HCI := Lib.hid (show ∀ W : World, Ext w1 W → Calls Try.prog 26 #[.agg #[.int .i64 o, .int .i64 n, .string t, .slice a k.len cap], .int .i64 op] W fun e w' => e = .returned (.int .i64 N) ∧ Ext W w' from fun W e => by rw [← hN]; exact (D1.out.ext e).implCountOps o op)
  have HCS := Lib.hid (show ∀ W : World, Ext w1 W → Calls Try.prog 27 #[.agg #[.int .i64 o, .int .i64 n, .string t, .slice a k.len cap], .int .i64 op] W fun e w' => e = .returned (.int .i64 N) ∧ Ext W w' from fun W e => by rw [← hN]; exact (D1.out.ext e).specCountOps o op)
  have HN := Lib.hid (And.intro hN hZ)
  have hNN : (N != N) = false := by simp
  have hNe : (N == N) = true := by simp
  have hZe : (Z == Z) = true := by simp
  have hkl : k.len ≤ 100000 := D1.out.len
  clear hN hZ hc hsz
  go_wp2_with fail
  refine (HCI.out _ ((Ext.refl _).alloc _)).mono ?_
  rintro e2 w2 ⟨rfl, hb2⟩
  have X2 := Lib.hid (box4 (box_new w1 _ _ _ _ _) (by simp) hb2)
  have E2 := Lib.hid (((Ext.refl w1).alloc _).trans hb2)
  have L2 := Lib.hid (show w1.heap.size < w2.heap.size from by have := hb2.size; simp at this; omega)
  clear hb2
  obtain ⟨x0, x1, x2, x3⟩ := X2.out
  have l2 := L2.out
  go_wp2_with fail
  refine (HCS.out _ E2.out).mono ?_
  rintro e3 w3 ⟨rfl, hb3⟩
  have X3 := Lib.hid (box4 X2.out L2.out hb3)
  have E3 := Lib.hid (E2.out.trans hb3)
  have L3 := Lib.hid (Nat.lt_of_lt_of_le L2.out hb3.size)
  clear hb3 x0 x1 x2 x3 l2 X2 E2 L2
  obtain ⟨x0, x1, x2, x3⟩ := X3.out
  have l3 := L3.out
  cases hoo : (o == op) with
  | false =>
    have HO := Lib.hid (show opsD op o .nil = 0 from by rw [opsD_eq, hoo]; rfl)
    have hne : o ≠ op := by simpa using hoo
    have hb1 : (o == op) = false := hoo
    have hb2 : (o != op) = true := by simpa using hne
    clear hoo
    go_wp2_with fail
    go_loopw [6, 7, 8] (fun s z i wr => ∃ p g : F, k = p.app g ∧ s = .int .i64 ((opsD op o p : Nat) : Int) ∧ z = .int .i64 ((1 + p.cnt : Nat) : Int) ∧ i = .int .i64 (p.len : Int) ∧ Ext w3 wr) (fun _ _ i _ => k.len - (intOf i).toNat)
    case atStart => exact ⟨.nil, k, rfl, by rw [HO.out]; rfl, rfl, rfl, Ext.refl _⟩
    case round =>
      obtain ⟨p, g, hk, rfl, rfl, rfl, hext⟩ := hrel
      obtain ⟨J, hp⟩ : ∃ J, p.len = J := ⟨_, rfl⟩
      obtain ⟨A, hA⟩ : ∃ A : Nat, opsD op o p = A := ⟨_, rfl⟩
      obtain ⟨C, hC⟩ : ∃ C : Nat, 1 + p.cnt = C := ⟨_, rfl⟩
      rw [hp, hA, hC]
      obtain ⟨x0, x1, x2, x3⟩ := box4 X3.out L3.out hext
      have lr : w1.heap.size < wr.heap.size := Nat.lt_of_lt_of_le L3.out hext.size
      have E1r := Lib.hid (E3.out.trans hext)
      have HXT := Lib.hid hext
      have hA8 : A ≤ 100001 := by have h1 := opsD_le op o p; have h2 : p.cnt ≤ k.cnt := by rw [hk, F.cnt_app]; omega
                                  omega
      have hC8 : C ≤ 100001 := by have h2 : p.cnt ≤ k.cnt := by rw [hk, F.cnt_app]; omega
                                  omega
      clear hext
      cases g with
      | nil =>
        have hkp : k = p := by rw [hk, F.app_nil]
        have hJ : J = k.len := by rw [hkp, hp]
        have hAN : (A : Int) = N := by rw [← hA, ← HN.out.1, hkp]
        have hCZ : (C : Int) = Z := by rw [← hC, ← HN.out.2, hkp]
        have HZ := Lib.hid (HZI.out wr E1r.out)
        subst hJ
        rw [hAN, hCZ]
        clear hk hp hA hC hkp hAN hCZ
        go_wp2_with fail
        refine HZ.out.mono ?_
        rintro e7 w7 ⟨rfl, hb7⟩
        have HB7 := Lib.hid hb7
        clear hb7 x0 x1 x2 x3
        go_wp2_with fail
        go_ret
        exact ⟨by first | rfl | simp, E1.out.trans (E1r.out.trans HB7.out)⟩
      | cons o1 n1 t1 k1 r =>
        obtain ⟨b, off, a1, c1, f1, rfl, hbl, hD, z0, z1, z2, z3⟩ := D1.out.kid' hk
        rw [hp] at z0 z1 z2 z3
        rw [← E1r.out.cell hbl] at z0 z1 z2 z3
        have HD := Lib.hid hD
        have hjl : J < k.len := by rw [hk, F.len_app, hp]; simp only [F.len]; omega
        have hpl : (p.app (.cons o1 n1 t1 k1 .nil)).len = J + 1 := by rw [F.len_app, hp]; rfl
        have hka : k = (p.app (.cons o1 n1 t1 k1 .nil)).app r := by rw [hk, F.app_assoc]; rfl
        have HK := Lib.hid (And.intro hk (And.intro hp (And.intro hpl hka)))
        have hst : opsD op o (p.app (.cons o1 n1 t1 k1 .nil)) = A + opsD op o1 k1 := by rw [opsD_app, hA]; simp [cntF]
        have hct : 1 + (p.app (.cons o1 n1 t1 k1 .nil)).cnt = C + (1 + k1.cnt) := by rw [F.cnt_app, ← hC]; simp only [F.cnt]; omega
        obtain ⟨M, hM⟩ : ∃ M : Nat, opsD op o1 k1 = M := ⟨_, rfl⟩
        obtain ⟨Y, hY⟩ : ∃ Y : Nat, 1 + k1.cnt = Y := ⟨_, rfl⟩
        have hY8 : Y ≤ 100001 := by have h2 : k1.cnt ≤ k.cnt := by rw [hk, F.cnt_app]; simp only [F.cnt]; omega
                                    omega
        have hM8 : M ≤ 100001 := by have := opsD_le op o1 k1; omega
        have HC1 := Lib.hid (fun (W : World) (e : Ext wr W) => (HD.out.ext (E1r.out.trans e)).implCountOps o1 op)
        have HC2 := Lib.hid (fun (W : World) (e : Ext wr W) => (HD.out.ext (E1r.out.trans e)).implDocSize o1)
        simp only [hM] at HC1
        simp only [hY] at HC2
        rw [hM] at hst
        rw [hY] at hct
        have HST := Lib.hid (And.intro hst hct)
        have HB := Lib.hid hbl
        clear hk hp hA hC hD hpl hka hst hct hM hY
        go_wp2_with fail
        refine (HC1.out _ (Ext.refl _)).mono ?_
        rintro e7 w7 ⟨rfl, hb7⟩
        have hbl' : b < wr.heap.size := Nat.lt_of_lt_of_le hbl E1r.out.size
        obtain ⟨x0, x1, x2, x3⟩ := box4 ⟨x0, x1, x2, x3⟩ lr hb7
        rw [← Ext.cell hb7 hbl'] at z0 z1 z2 z3
        have HB7 := Lib.hid hb7
        have l7 := Nat.lt_of_lt_of_le lr hb7.size
        clear hb7
        go_wp2_with fail
        refine (HC2.out _ HB7.out).mono ?_
        rintro e8 w8 ⟨rfl, hb8⟩
        have HB8 := Lib.hid hb8
        clear hb8 x0 x1 x2 x3 z0 z1 z2 z3
        go_wp2_with fail
        go_roundw
        case rel => exact ⟨p.app (.cons o1 n1 t1 k1 .nil), r, HK.out.2.2.2, by rw [HST.out.1]; go_num, by rw [HST.out.2]; go_num, by rw [HK.out.2.2.1]; go_num, HXT.out.trans (HB7.out.trans HB8.out)⟩
        case measure => simp [intOf]; omega
  | true =>
    have HO := Lib.hid (show opsD op o .nil = 1 from by rw [opsD_eq, hoo]; rfl)
    have hb1 : (o == op) = true := hoo
    clear hoo
    go_wp2_with fail
    go_loopw [6, 7, 8] (fun s z i wr => ∃ p g : F, k = p.app g ∧ s = .int .i64 ((opsD op o p : Nat) : Int) ∧ z = .int .i64 ((1 + p.cnt : Nat) : Int) ∧ i = .int .i64 (p.len : Int) ∧ Ext w3 wr) (fun _ _ i _ => k.len - (intOf i).toNat)
    case atStart => exact ⟨.nil, k, rfl, by rw [HO.out]; rfl, rfl, rfl, Ext.refl _⟩
    case round =>
      obtain ⟨p, g, hk, rfl, rfl, rfl, hext⟩ := hrel
      obtain ⟨J, hp⟩ : ∃ J, p.len = J := ⟨_, rfl⟩
      obtain ⟨A, hA⟩ : ∃ A : Nat, opsD op o p = A := ⟨_, rfl⟩
      obtain ⟨C, hC⟩ : ∃ C : Nat, 1 + p.cnt = C := ⟨_, rfl⟩
      rw [hp, hA, hC]
      obtain ⟨x0, x1, x2, x3⟩ := box4 X3.out L3.out hext
      have lr : w1.heap.size < wr.heap.size := Nat.lt_of_lt_of_le L3.out hext.size
      have E1r := Lib.hid (E3.out.trans hext)
      have HXT := Lib.hid hext
      have hA8 : A ≤ 100001 := by have h1 := opsD_le op o p; have h2 : p.cnt ≤ k.cnt := by rw [hk, F.cnt_app]; omega
                                  omega
      have hC8 : C ≤ 100001 := by have h2 : p.cnt ≤ k.cnt := by rw [hk, F.cnt_app]; omega
                                  omega
      clear hext
      cases g with
      | nil =>
        have hkp : k = p := by rw [hk, F.app_nil]
        have hJ : J = k.len := by rw [hkp, hp]
        have hAN : (A : Int) = N := by rw [← hA, ← HN.out.1, hkp]
        have hCZ : (C : Int) = Z := by rw [← hC, ← HN.out.2, hkp]
        have HZ := Lib.hid (HZI.out wr E1r.out)
        subst hJ
        rw [hAN, hCZ]
        clear hk hp hA hC hkp hAN hCZ
        go_wp2_with fail
        refine HZ.out.mono ?_
        rintro e7 w7 ⟨rfl, hb7⟩
        have HB7 := Lib.hid hb7
        clear hb7 x0 x1 x2 x3
        go_wp2_with fail
        go_ret
        exact ⟨by first | rfl | simp, E1.out.trans (E1r.out.trans HB7.out)⟩
      | cons o1 n1 t1 k1 r =>
        obtain ⟨b, off, a1, c1, f1, rfl, hbl, hD, z0, z1, z2, z3⟩ := D1.out.kid' hk
        rw [hp] at z0 z1 z2 z3
        rw [← E1r.out.cell hbl] at z0 z1 z2 z3
        have HD := Lib.hid hD
        have hjl : J < k.len := by rw [hk, F.len_app, hp]; simp only [F.len]; omega
        have hpl : (p.app (.cons o1 n1 t1 k1 .nil)).len = J + 1 := by rw [F.len_app, hp]; rfl
        have hka : k = (p.app (.cons o1 n1 t1 k1 .nil)).app r := by rw [hk, F.app_assoc]; rfl
        have HK := Lib.hid (And.intro hk (And.intro hp (And.intro hpl hka)))
        have hst : opsD op o (p.app (.cons o1 n1 t1 k1 .nil)) = A + opsD op o1 k1 := by rw [opsD_app, hA]; simp [cntF]
        have hct : 1 + (p.app (.cons o1 n1 t1 k1 .nil)).cnt = C + (1 + k1.cnt) := by rw [F.cnt_app, ← hC]; simp only [F.cnt]; omega
        obtain ⟨M, hM⟩ : ∃ M : Nat, opsD op o1 k1 = M := ⟨_, rfl⟩
        obtain ⟨Y, hY⟩ : ∃ Y : Nat, 1 + k1.cnt = Y := ⟨_, rfl⟩
        have hY8 : Y ≤ 100001 := by have h2 : k1.cnt ≤ k.cnt := by rw [hk, F.cnt_app]; simp only [F.cnt]; omega
                                    omega
        have hM8 : M ≤ 100001 := by have := opsD_le op o1 k1; omega
        have HC1 := Lib.hid (fun (W : World) (e : Ext wr W) => (HD.out.ext (E1r.out.trans e)).implCountOps o1 op)
        have HC2 := Lib.hid (fun (W : World) (e : Ext wr W) => (HD.out.ext (E1r.out.trans e)).implDocSize o1)
        simp only [hM] at HC1
        simp only [hY] at HC2
        rw [hM] at hst
        rw [hY] at hct
        have HST := Lib.hid (And.intro hst hct)
        have HB := Lib.hid hbl
        clear hk hp hA hC hD hpl hka hst hct hM hY
        go_wp2_with fail
        refine (HC1.out _ (Ext.refl _)).mono ?_
        rintro e7 w7 ⟨rfl, hb7⟩
        have hbl' : b < wr.heap.size := Nat.lt_of_lt_of_le hbl E1r.out.size
        obtain ⟨x0, x1, x2, x3⟩ := box4 ⟨x0, x1, x2, x3⟩ lr hb7
        rw [← Ext.cell hb7 hbl'] at z0 z1 z2 z3
        have HB7 := Lib.hid hb7
        have l7 := Nat.lt_of_lt_of_le lr hb7.size
        clear hb7
        go_wp2_with fail
        refine (HC2.out _ HB7.out).mono ?_
        rintro e8 w8 ⟨rfl, hb8⟩
        have HB8 := Lib.hid hb8
        clear hb8 x0 x1 x2 x3 z0 z1 z2 z3
        go_wp2_with fail
        go_roundw
        case rel => exact ⟨p.app (.cons o1 n1 t1 k1 .nil), r, HK.out.2.2.2, by rw [HST.out.1]; go_num, by rw [HST.out.2]; go_num, by rw [HK.out.2.2.1]; go_num, HXT.out.trans (HB7.out.trans HB8.out)⟩
        case measure => simp [intOf]; omega

set_option maxHeartbeats 400000 in
theorem walk_big (w : World) (a0 : Option Addr) (len0 cap0 : Nat) (hl0 : 1048576 < len0) :
    Calls Try.prog 8 #[.slice a0 len0 cap0] w fun e w' => e = .returned (.bool true) ∧ Ext w w' := by
  have h1 : (1048576 : Int) < (len0 : Int) := by omega
  go_enter Try.func8, Try.ntmps8
  go_wp2_with fail
  go_ret
  exact ⟨rfl, Ext.refl w⟩

theorem walk (w : World) (a0 : Option Addr) (len0 cap0 : Nat) (hb0 : Bytes w a0 len0) (hlc0 : len0 ≤ cap0) (hcm0 : cap0 ≤ maxLen) :
    Calls Try.prog 8 #[.slice a0 len0 cap0] w fun e w' => e = .returned (.bool true) ∧ Below w.heap.size w w' := by
  by_cases h : 1048576 < len0
  · exact walk_big w a0 len0 cap0 h
  · exact walk_good w a0 len0 cap0 hb0 hlc0 hcm0 (by omega)

set_option maxRecDepth 100000 in
theorem lifted (os : Os) (started : os.Started) (H : Type) (enc : TypeId × Value → H) :
    ReturnsInHanded {} Try.checked os 8 .any (Rows.fnCountPartsSpec.pre6 enc Try.prog Try.f8 Rows.fnCountPartsRow.domain false) (Rows.fnCountPartsSpec.post enc Try.prog Try.f8 false true false false) := by
  refine returnsInHanded_of_change (C := Try.checked) Facts.own started (by kernel_rfl) Try.func8
    (ChangeSpec.witness6 (enc := enc) (C := Try.checked) false ⟨#[], #[.slice none 0 0], []⟩ 8 (by kernel_rfl) (by kernel_rfl) (by kernel_rfl) (by kernel_rfl)) ?_
  intro W base args ds gs before hval0 hW hcnd0 _
  clear hcnd0
  have hval : ∀ (j : Nat) t v, Try.f8.params[j]? = some t → args[j]? = some v → Value.okWide Try.prog W .any base t v := hval0
  have hW' := hW
  obtain ⟨p, q, hA0, hV, rfl, hfz, hnd⟩ := hW
  have hA : DataW.TrodAll enc Try.prog W 0 (fun _ => true) true Try.f8.params.toList args.toList ds p := hA0
  rw [Try.params8] at hA hval
  obtain ⟨v0, d0, rfl, rfl, h0⟩ := trodAll_one hA
  obtain ⟨rfl, rfl⟩ := trodVars_none hV
  obtain ⟨a0, len0, cap0, rfl⟩ := okWide_slice Try.underlying22 (hval 0 22 v0 rfl rfl)
  clear hA0 hval0
  simp only [List.append_nil] at hW'
  have hlt : ∀ x ∈ p, x.block < W.heap.size := fun x hx => by simpa using hW'.lt x hx
  obtain ⟨hb0, hlc0, hcm0⟩ := opened h0
  refine (walk W a0 len0 cap0 hb0 hlc0 hcm0).mono fun e W' ⟨he, hb⟩ => ?_
  subst he
  refine ⟨_, rfl, [_], [], p, [], p, [], hW', trodAll_mk1 (shut_bool Try.underlying4 _), ?_, rfl, hb.frame _, fun h => by cases h⟩
  exact trodAll_mk1 (Below.trod Facts.laidOut (by kernel_rfl) (of_decide_eq_true (by kernel_rfl)) h0 hb hlt)

theorem named : Try.prog.funcNamed Rows.fnCountPartsRow.func = some 8 := by kernel_rfl
theorem closed : joinedFacts Try.prog 8 Try.f8 Rows.fnCountPartsSpec Rows.fnCountPartsRow = true :=
  Facts.closed_of rfl rfl rfl rfl (h28b := rfl) (by kernel_rfl) (by kernel_rfl) (by kernel_rfl) (by kernel_rfl) (by kernel_rfl) (by kernel_rfl) (by kernel_rfl) (by kernel_rfl) (by kernel_rfl) (by kernel_rfl) (by kernel_rfl) (by kernel_rfl) (by kernel_rfl) (by kernel_rfl) (by kernel_rfl) (by kernel_rfl) (by kernel_rfl) (by kernel_rfl) (by kernel_rfl) (by kernel_rfl) (by kernel_rfl) (by kernel_rfl) (by kernel_rfl) (by kernel_rfl)
theorem instanced : Try.f8.isInstance Try.prog Rows.fnCountPartsRow.origin Rows.fnCountPartsRow.targs := of_decide_eq_true (by kernel_rfl)
theorem wrapped : Try.f8.isWrapper Try.prog Rows.fnCountPartsRow.wrapper Rows.fnCountPartsRow.mainSum := by
  unfold Func.isWrapper
  rw [if_neg (of_decide_eq_false (by kernel_rfl))]
  exact ⟨rfl, rfl⟩

theorem holds : Rows.FnCountPartsSaid :=
  OpenClaim.holds_of_wide 8 Try.f8 rfl rfl rfl rfl rfl rfl rfl ⟨rfl, rfl, rfl, rfl, rfl⟩ rfl rfl rfl rfl rfl named Try.func8 closed instanced wrapped
    (fun os started H enc _ => lifted os started H enc)

end Go.Proofs.Ytjpgnhpfmdjamaa.lawCountParts
