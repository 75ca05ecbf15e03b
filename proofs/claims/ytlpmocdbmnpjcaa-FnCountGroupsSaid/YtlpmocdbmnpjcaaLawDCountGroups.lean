import Derived.Test.YtlpmocdbmnpjcaaDrN
import Derived.Test.YtlpmocdbmnpjcaaDocC
import Derived.Test.YtlpmocdbmnpjcaaDrZ
import Derived.Test.YtlpmocdbmnpjcaaFacts
import Derived.Test.YtlpmocdbmnpjcaaRows
import Derived.Deep.RegionHeld3
import Derived.Deep.DeepCutAuto
import Derived.Deep.RegionWith
/-
  Groups make choices: the law FnCountGroups returns true for whatever draws, and its argument reads as it did. No condition of ours.
-/
set_option linter.unusedVariables false
set_option linter.unusedSimpArgs false
namespace Go.Proofs.Ytlpmocdbmnpjcaa.lawCountGroups
open Go.ChangeShapes Go.WideShapes Go.ChangeAt Go.RowKit P1 Draw6 LawC CntC DocK OpenR LayN ChP

set_option maxRecDepth 100000 in
set_option maxHeartbeats 6400000 in
theorem walk_good (w : World) (a0 : Option Addr) (len0 cap0 : Nat) (hb0 : Bytes w a0 len0) (hlc0 : len0 ≤ cap0) (hcm0 : cap0 ≤ maxLen) (hl0 : len0 ≤ 1048576) :
    Calls Try.prog 9 #[.slice a0 len0 cap0] w fun e w' => e = .returned (.bool true) ∧ Ext w w' := by
  have HD0 := Lib.hid (DrN.drawCountChoices w a0 len0 cap0 hb0 hlc0 hcm0)
  clear hb0
  unfold maxLen at hcm0
  go_enter Try.func9, Try.ntmps9
  go_wp2_with fail
  refine HD0.out.mono ?_
  rintro e1 w1 ⟨o, n, t, k, a, cap, fs, rfl, hc, hsz, hsub, hfr, hb1⟩
  have D1 := Lib.hid (show DocK.Doc0 w1 n t k a cap fs from ⟨hsub, fun c hc => (hfr.2 c hc).2, hc, by omega⟩)
  have E1 := Lib.hid (show Ext w w1 from hb1)
  have hkl : k.len ≤ 100000 := D1.out.len
  clear hsub hfr hb1
  obtain ⟨V, hV⟩ : ∃ V, manyD o n t k = V := ⟨_, rfl⟩
  obtain ⟨N, hN⟩ : ∃ N : Int, ChS.ccN o n t k = N := ⟨_, rfl⟩
  have HCI := Lib.hid (show ∀ W : World, Ext w1 W → Calls Try.prog 26 #[.agg #[.int .i64 o, .int .i64 n, .string t, .slice a k.len cap]] W (fun e w' => e = .returned (.tuple #[.int .i64 N, .bool V]) ∧ Ext W w') from fun W e => by rw [← hN, ← hV]; exact DocC.implCount (D1.out.ext e) o)
  have HCS := Lib.hid (show ∀ W : World, Ext w1 W → Calls Try.prog 27 #[.agg #[.int .i64 o, .int .i64 n, .string t, .slice a k.len cap]] W (fun e w' => e = .returned (.tuple #[.int .i64 N, .bool V]) ∧ Ext W w') from fun W e => by rw [← hN, ← hV]; exact DocC.specCount (D1.out.ext e) o)
  have hNN : (N != N) = false := by simp
  have hNe : (N == N) = true := by simp
  have HSZ := Lib.hid hsz
  clear hc hsz
  go_wp2_with fail
  refine (HCI.out _ ((Ext.refl w1).alloc _)).mono ?_
  rintro e2 w2 ⟨rfl, hb⟩
  have X2 := Lib.hid (box4 (box_new w1 _ _ _ _ _) (by simp) hb)
  have E2 := Lib.hid (((Ext.refl w1).alloc _).trans hb)
  have L2 := Lib.hid (show w1.heap.size < w2.heap.size from by have := hb.size; simp at this; omega)
  try clear x0 x1 x2 x3 l
  clear hb
  obtain ⟨x0, x1, x2, x3⟩ := X2.out
  have l := L2.out
  go_wp2_with fail
  refine (HCS.out _ E2.out).mono ?_
  rintro e3 w3 ⟨rfl, hb⟩
  have X3 := Lib.hid (box4 X2.out L2.out hb)
  have E3 := Lib.hid (E2.out.trans hb)
  have L3 := Lib.hid (Nat.lt_of_lt_of_le L2.out hb.size)
  try clear x0 x1 x2 x3 l
  clear hb
  obtain ⟨x0, x1, x2, x3⟩ := X3.out
  have l := L3.out
  cases V with
  | false =>
    have hN0 : 0 = N := by rw [← hN, ChS.ccN, hV]; rfl
    subst hN0
    clear hV hN hNN hNe
    go_wp2_with fail
    go_ret
    exact ⟨by first | rfl | simp, E1.out.trans E3.out⟩
  | true =>
    have hct := (DocC.many_yes hV).2
    have hNc : N = (ctD o k : Int) := by rw [← hN, ChS.ccN, hV]; rfl
    have hN1 : 1 ≤ N := by have := ctD_pos o k; omega
    have hN2 : N ≤ 100000 := by omega
    obtain ⟨M, hM⟩ : ∃ M : Nat, opsD 8 o k = M := ⟨_, rfl⟩
    have hM8 : M ≤ 100001 := by rw [← hM]; have h1 := DocK.opsD_le 8 o k; have h2 := F.cnt_le_size k; have h3 := HSZ.out; omega
    have HPW := Lib.hid (show N ≤ ((2 ^ M : Nat) : Int) by rw [hNc, ← hM]; exact Int.ofNat_le.2 (ctD_groups o k))
    have HC := Lib.hid (fun (W : World) (e : Ext w1 W) => (D1.out.ext e).implCountOps o 8)
    rw [hM] at HC
    clear hV hN hNc hct hM
    go_wp2_with fail
    go_loopw [8, 9] (fun s i wr => ∃ (c j : Nat), j ≤ M ∧ i = .int .i64 (j : Int) ∧ s = .int .i64 (c : Int) ∧ c = 2 ^ j ∧ c ≤ 200000 ∧ Ext w3 wr) (fun _ i _ => M - (intOf i).toNat)
    case atStart => exact ⟨1, 0, by omega, rfl, rfl, rfl, by omega, Ext.refl _⟩
    case round =>
      obtain ⟨c, j, hj, rfl, rfl, hcj, hc2, hext⟩ := hrel
      obtain ⟨x0, x1, x2, x3⟩ := box4 X3.out L3.out hext
      have lr : w1.heap.size < wr.heap.size := Nat.lt_of_lt_of_le L3.out hext.size
      have ER := Lib.hid (E3.out.trans hext)
      have HXT := Lib.hid hext
      have HCJ := Lib.hid hcj
      clear hext l hcj
      go_wp2_with fail
      refine (HC.out _ ER.out).mono ?_
      rintro e7 w7 ⟨rfl, hb7⟩
      have HB7 := Lib.hid hb7
      clear hb7 x0 x1 x2 x3
      by_cases hjM : j < M
      · have hji : (j : Int) < (M : Int) := by omega
        by_cases hcb : c ≤ 100000
        · have hci : (c : Int) ≤ 100000 := by omega
          go_wp2_with fail
          go_roundw
          case rel => exact ⟨c * 2, j + 1, by omega, by go_num, by go_num, by rw [HCJ.out, Nat.pow_succ], by omega, HXT.out.trans HB7.out⟩
          case measure => simp [intOf]; omega
        · have hci : ¬ ((c : Int) ≤ 100000) := by omega
          have hNci : N ≤ (c : Int) := by omega
          go_wp2_with fail
          go_ret
          exact ⟨by first | rfl | simp [hN1, hNci] | simp, E1.out.trans (ER.out.trans HB7.out)⟩
      · have hji : ¬ ((j : Int) < (M : Int)) := by omega
        have hNci : N ≤ (c : Int) := by
          have h1 := HPW.out
          have h2 : j = M := by omega
          rw [HCJ.out, h2]; exact h1
        go_wp2_with fail
        go_ret
        exact ⟨by first | rfl | simp [hN1, hNci] | simp, E1.out.trans (ER.out.trans HB7.out)⟩

set_option maxHeartbeats 400000 in
theorem walk_big (w : World) (a0 : Option Addr) (len0 cap0 : Nat) (hl0 : 1048576 < len0) :
    Calls Try.prog 9 #[.slice a0 len0 cap0] w fun e w' => e = .returned (.bool true) ∧ Ext w w' := by
  have h1 : (1048576 : Int) < (len0 : Int) := by omega
  go_enter Try.func9, Try.ntmps9
  go_wp2_with fail
  go_ret
  exact ⟨rfl, Ext.refl w⟩

theorem walk (w : World) (a0 : Option Addr) (len0 cap0 : Nat) (hb0 : Bytes w a0 len0) (hlc0 : len0 ≤ cap0) (hcm0 : cap0 ≤ maxLen) :
    Calls Try.prog 9 #[.slice a0 len0 cap0] w fun e w' => e = .returned (.bool true) ∧ Below w.heap.size w w' := by
  by_cases h : 1048576 < len0
  · exact walk_big w a0 len0 cap0 h
  · exact walk_good w a0 len0 cap0 hb0 hlc0 hcm0 (by omega)

set_option maxRecDepth 100000 in
theorem lifted (os : Os) (started : os.Started) (H : Type) (enc : TypeId × Value → H) :
    ReturnsInHanded {} Try.checked os 9 .any (Rows.fnCountGroupsSpec.pre6 enc Try.prog Try.f9 Rows.fnCountGroupsRow.domain false) (Rows.fnCountGroupsSpec.post enc Try.prog Try.f9 false true false false) := by
  refine returnsInHanded_of_change (C := Try.checked) Facts.own started (by kernel_rfl) Try.func9
    (ChangeSpec.witness6 (enc := enc) (C := Try.checked) false ⟨#[], #[.slice none 0 0], []⟩ 8 (by kernel_rfl) (by kernel_rfl) (by kernel_rfl) (by kernel_rfl)) ?_
  intro W base args ds gs before hval0 hW hcnd0 _
  clear hcnd0
  have hval : ∀ (j : Nat) t v, Try.f9.params[j]? = some t → args[j]? = some v → Value.okWide Try.prog W .any base t v := hval0
  have hW' := hW
  obtain ⟨p, q, hA0, hV, rfl, hfz, hnd⟩ := hW
  have hA : DataW.TrodAll enc Try.prog W 0 (fun _ => true) true Try.f9.params.toList args.toList ds p := hA0
  rw [Try.params9] at hA hval
  obtain ⟨v0, d0, rfl, rfl, h0⟩ := trodAll_one hA
  obtain ⟨rfl, rfl⟩ := trodVars_none hV
  obtain ⟨a0, len0, cap0, rfl⟩ := okWide_slice Try.underlying22 (hval 0 22 v0 rfl rfl)
  clear hA0 hval0
  simp only [List.append_nil] at hW'
  have hlt : ∀ x ∈ p, x.block < W.heap.size := fun x hx => by simpa using hW'.lt x hx
  obtain ⟨hb0, hlc0, hcm0⟩ := opened h0
  refine (walk W a0 len0 cap0 hb0 hlc0 hcm0).mono fun e W' ⟨he, hb⟩ => ?_
  subst he
  refine ⟨_, rfl, [_], [], p, [], p, [], hW', trodAll_mk1 (shut_bool Try.underlying4 _), ?_, rfl, hb.frame _, fun h => by cases h⟩
  exact trodAll_mk1 (Below.trod Facts.laidOut (by kernel_rfl) (of_decide_eq_true (by kernel_rfl)) h0 hb hlt)

theorem named : Try.prog.funcNamed Rows.fnCountGroupsRow.func = some 9 := by kernel_rfl
theorem closed : joinedFacts Try.prog 9 Try.f9 Rows.fnCountGroupsSpec Rows.fnCountGroupsRow = true :=
  Facts.closed_of rfl rfl rfl rfl (h28b := rfl) (by kernel_rfl) (by kernel_rfl) (by kernel_rfl) (by kernel_rfl) (by kernel_rfl) (by kernel_rfl) (by kernel_rfl) (by kernel_rfl) (by kernel_rfl) (by kernel_rfl) (by kernel_rfl) (by kernel_rfl) (by kernel_rfl) (by kernel_rfl) (by kernel_rfl) (by kernel_rfl) (by kernel_rfl) (by kernel_rfl) (by kernel_rfl) (by kernel_rfl) (by kernel_rfl) (by kernel_rfl) (by kernel_rfl) (by kernel_rfl)
theorem instanced : Try.f9.isInstance Try.prog Rows.fnCountGroupsRow.origin Rows.fnCountGroupsRow.targs := of_decide_eq_true (by kernel_rfl)
theorem wrapped : Try.f9.isWrapper Try.prog Rows.fnCountGroupsRow.wrapper Rows.fnCountGroupsRow.mainSum := by
  unfold Func.isWrapper
  rw [if_neg (of_decide_eq_false (by kernel_rfl))]
  exact ⟨rfl, rfl⟩

theorem holds : Rows.FnCountGroupsSaid :=
  OpenClaim.holds_of_wide 9 Try.f9 rfl rfl rfl rfl rfl rfl rfl ⟨rfl, rfl, rfl, rfl, rfl⟩ rfl rfl rfl rfl rfl named Try.func9 closed instanced wrapped
    (fun os started H enc _ => lifted os started H enc)

end Go.Proofs.Ytlpmocdbmnpjcaa.lawCountGroups

