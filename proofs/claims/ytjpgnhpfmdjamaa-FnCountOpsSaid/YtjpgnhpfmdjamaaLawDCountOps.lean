/-
  Nodes are counted: the law FnCountOps returns true for whatever draws, and its argument reads as it did. No condition of ours.
-/
import Derived.Test.YtjpgnhpfmdjamaaDrI
import Derived.Test.YtjpgnhpfmdjamaaDocK
import Derived.Test.YtjpgnhpfmdjamaaLawC
import Derived.Test.YtjpgnhpfmdjamaaFacts
import Derived.Test.YtjpgnhpfmdjamaaRows
import Derived.Deep.RegionHeld3
import Derived.Deep.DeepCutAuto
set_option linter.unusedVariables false
set_option linter.unusedSimpArgs false
namespace Go.Proofs.Ytjpgnhpfmdjamaa.lawCountOps
open Go.ChangeShapes Go.WideShapes Go.ChangeAt Go.RowKit P1 Draw6 LawC CntC DocK

set_option maxRecDepth 100000 in
set_option maxHeartbeats 6400000 in
theorem walk_good (w : World) (a0 : Option Addr) (len0 cap0 : Nat) (hb0 : Bytes w a0 len0) (hlc0 : len0 ≤ cap0) (hcm0 : cap0 ≤ maxLen) (hl0 : len0 ≤ 1048576) :
    Calls Try.prog 4 #[.slice a0 len0 cap0] w fun e w' => e = .returned (.bool true) ∧ Ext w w' := by
  have HD0 := Lib.hid (DrI.drawCountOps w a0 len0 cap0 hb0 hlc0 hcm0)
  clear hb0
  unfold maxLen at hcm0
  go_enter Try.func4, Try.ntmps4
  go_wp2_with fail
  refine HD0.out.mono ?_
  rintro e1 w1 ⟨o, n, t, k, a, cap, fs, op, rfl, hc, hsz, hsub, hfr, hb1⟩
  have D1 := Lib.hid (show DocK.Doc0 w1 n t k a cap fs from ⟨hsub, fun c hc => (hfr.2 c hc).2, hc, by omega⟩)
  have E1 := Lib.hid (show Ext w w1 from hb1)
  clear hsub hfr hb1
  obtain ⟨Z, hZ⟩ : ∃ Z : Int, ((1 + k.cnt : Nat) : Int) = Z := ⟨_, rfl⟩
  have hcnt : k.cnt ≤ 100000 := by have := F.cnt_le_size k; omega
  have HZI := Lib.hid (show ∀ W : World, Ext w1 W → Calls Try.prog 23 #[.agg #[.int .i64 o, .int .i64 n, .string t, .slice a k.len cap]] W fun e w' => e = .returned (.int .i64 Z) ∧ Ext W w' from fun W e => by rw [← hZ]; exact (D1.out.ext e).implDocSize o)
  have HV := Lib.hid (show ∀ W : World, Ext w1 W → Calls Try.prog 22 #[.agg #[.int .i64 o, .int .i64 n, .string t, .slice a k.len cap]] W fun e w' => e = .returned (.bool (validD o n t k)) ∧ Ext W w' from fun W e => (D1.out.ext e).implDocValid o)
  obtain ⟨N, hN⟩ : ∃ N : Int, ((opsD op o k : Nat) : Int) = N := ⟨_, rfl⟩
  have HCI := Lib.hid (show ∀ W : World, Ext w1 W → Calls Try.prog 26 #[.agg #[.int .i64 o, .int .i64 n, .string t, .slice a k.len cap], .int .i64 op] W fun e w' => e = .returned (.int .i64 N) ∧ Ext W w' from fun W e => by rw [← hN]; exact (D1.out.ext e).implCountOps o op)
  have HCS := Lib.hid (show ∀ W : World, Ext w1 W → Calls Try.prog 27 #[.agg #[.int .i64 o, .int .i64 n, .string t, .slice a k.len cap], .int .i64 op] W fun e w' => e = .returned (.int .i64 N) ∧ Ext W w' from fun W e => by rw [← hN]; exact (D1.out.ext e).specCountOps o op)
  have HZS := Lib.hid (show ∀ W : World, Ext w1 W → Calls Try.prog 28 #[.agg #[.int .i64 o, .int .i64 n, .string t, .slice a k.len cap]] W fun e w' => e = .returned (.int .i64 Z) ∧ Ext W w' from fun W e => by rw [← hZ]; exact (D1.out.ext e).specDocSize o)
  have HCK := Lib.hid (fun (W : World) (e : Ext w1 W) (x : Int) => (D1.out.ext e).implCountOps o x)
  have HN := Lib.hid (And.intro hN hZ)
  have hNN : (N != N) = false := by simp
  have hZZ : (Z != Z) = false := by simp
  have hNe : (N == N) = true := by simp
  have hZe : (Z == Z) = true := by simp
  clear hN hZ hc hsz
  go_wp2_with fail
  refine (HCI.out _ ((Ext.refl _).alloc _)).mono ?_
  rintro e2 w2 ⟨rfl, hb2⟩
  have X2 := Lib.hid (box4 (box_new w1 _ _ _ _ _) (by simp) hb2)
  have E2 := Lib.hid (((Ext.refl w1).alloc _).trans hb2)
  have L2 := Lib.hid (show w1.heap.size < w2.heap.size from by have := hb2.size; simp at this; omega)
  clear hb2
  obtain ⟨x0, x1, x2, x3⟩ := X2.out
  have l2 := L2.out
  cases hv : validD o n t k with
  | false =>
    rw [hv] at HV
    have HVV := Lib.hid hv
    clear hv
    go_wp2_with fail
    go_region_held3 (fun w' => w'.cell? ⟨w1.heap.size, 0, none⟩ = some (.int .i64 o) ∧ w'.cell? ⟨w1.heap.size, 1, none⟩ = some (.int .i64 n) ∧ w'.cell? ⟨w1.heap.size, 2, none⟩ = some (.string t) ∧ w'.cell? ⟨w1.heap.size, 3, none⟩ = some (.slice a k.len cap))
      (first | go_keep | exact box4 X2.out L2.out qw2_0 | exact box4 X2.out L2.out qw2_1 | exact box4 X2.out L2.out qw2_2 | exact box4 X2.out L2.out qw2_3)
      (first
        | (go_at_call 27; refine (HCS.out _ (by first | exact (E2.out).drew | exact E2.out)).mono ?_; rintro e1 vw2_0 ⟨rfl, hb_0⟩; have qw2_0 : Ext w2 vw2_0 := Ext.trans (by first | exact (Ext.refl w2).drew | exact Ext.refl w2) hb_0)
        | (go_at_call 23; refine (HZI.out _ (by first | exact (E2.out).trans qw2_0 | exact E2.out)).mono ?_; rintro e1 vw2_1 ⟨rfl, hb_1⟩; have qw2_1 : Ext w2 vw2_1 := Ext.trans (by first | exact qw2_0 | exact Ext.refl w2) hb_1)
        | (go_at_call 28; refine (HZS.out _ (by first | exact (E2.out).trans qw2_1 | exact E2.out)).mono ?_; rintro e1 vw2_2 ⟨rfl, hb_2⟩; have qw2_2 : Ext w2 vw2_2 := Ext.trans (by first | exact qw2_1 | exact Ext.refl w2) hb_2)
        | (go_at_call 22; refine (HV.out _ (by first | exact (E2.out).trans qw2_2 | exact E2.out)).mono ?_; rintro e1 vw2_3 ⟨rfl, hb_3⟩; have qw2_3 : Ext w2 vw2_3 := Ext.trans (by first | exact qw2_2 | exact Ext.refl w2) hb_3))
    have X6 := Lib.hid (box4 X2.out L2.out qw2_3)
    have E6 := Lib.hid (E2.out.trans qw2_3)
    have L6 := Lib.hid (Nat.lt_of_lt_of_le L2.out qw2_3.size)
    clear x0 x1 x2 x3 l2
    obtain ⟨x0, x1, x2, x3⟩ := X6.out
    have l6 := L6.out
    go_wp2_with fail
    go_region_held3 (fun w' => w'.cell? ⟨w1.heap.size, 0, none⟩ = some (.int .i64 o) ∧ w'.cell? ⟨w1.heap.size, 1, none⟩ = some (.int .i64 n) ∧ w'.cell? ⟨w1.heap.size, 2, none⟩ = some (.string t) ∧ w'.cell? ⟨w1.heap.size, 3, none⟩ = some (.slice a k.len cap))
      (first | go_keep | exact box4 X6.out L6.out qvw2_3_0 | exact box4 X6.out L6.out qvw2_3_1 | exact box4 X6.out L6.out qvw2_3_2)
      (first
        | (go_at_call 27; refine (HCS.out _ (by first | exact (E6.out).drew | exact E6.out)).mono ?_; rintro e1 vvw2_3_0 ⟨rfl, hb_0⟩; have qvw2_3_0 : Ext vw2_3 vvw2_3_0 := Ext.trans (by first | exact (Ext.refl vw2_3).drew | exact Ext.refl vw2_3) hb_0)
        | (go_at_call 23; refine (HZI.out _ (by first | exact (E6.out).trans qvw2_3_0 | exact E6.out)).mono ?_; rintro e1 vvw2_3_1 ⟨rfl, hb_1⟩; have qvw2_3_1 : Ext vw2_3 vvw2_3_1 := Ext.trans (by first | exact qvw2_3_0 | exact Ext.refl vw2_3) hb_1)
        | (go_at_call 28; refine (HZS.out _ (by first | exact (E6.out).trans qvw2_3_1 | exact E6.out)).mono ?_; rintro e1 vvw2_3_2 ⟨rfl, hb_2⟩; have qvw2_3_2 : Ext vw2_3 vvw2_3_2 := Ext.trans (by first | exact qvw2_3_1 | exact Ext.refl vw2_3) hb_2))
    have E9 := Lib.hid (E6.out.trans qvw2_3_2)
    go_wp2_with fail
    go_ret
    exact ⟨by first | rfl | simp, E1.out.trans E9.out⟩
  | true =>
    rw [hv] at HV
    have HS := Lib.hid (sumOps_all hv)
    clear hv
    go_wp2_with fail
    go_region_held3 (fun w' => w'.cell? ⟨w1.heap.size, 0, none⟩ = some (.int .i64 o) ∧ w'.cell? ⟨w1.heap.size, 1, none⟩ = some (.int .i64 n) ∧ w'.cell? ⟨w1.heap.size, 2, none⟩ = some (.string t) ∧ w'.cell? ⟨w1.heap.size, 3, none⟩ = some (.slice a k.len cap))
      (first | go_keep | exact box4 X2.out L2.out qw2_0 | exact box4 X2.out L2.out qw2_1 | exact box4 X2.out L2.out qw2_2 | exact box4 X2.out L2.out qw2_3)
      (first
        | (go_at_call 27; refine (HCS.out _ (by first | exact (E2.out).drew | exact E2.out)).mono ?_; rintro e1 vw2_0 ⟨rfl, hb_0⟩; have qw2_0 : Ext w2 vw2_0 := Ext.trans (by first | exact (Ext.refl w2).drew | exact Ext.refl w2) hb_0)
        | (go_at_call 23; refine (HZI.out _ (by first | exact (E2.out).trans qw2_0 | exact E2.out)).mono ?_; rintro e1 vw2_1 ⟨rfl, hb_1⟩; have qw2_1 : Ext w2 vw2_1 := Ext.trans (by first | exact qw2_0 | exact Ext.refl w2) hb_1)
        | (go_at_call 28; refine (HZS.out _ (by first | exact (E2.out).trans qw2_1 | exact E2.out)).mono ?_; rintro e1 vw2_2 ⟨rfl, hb_2⟩; have qw2_2 : Ext w2 vw2_2 := Ext.trans (by first | exact qw2_1 | exact Ext.refl w2) hb_2)
        | (go_at_call 22; refine (HV.out _ (by first | exact (E2.out).trans qw2_2 | exact E2.out)).mono ?_; rintro e1 vw2_3 ⟨rfl, hb_3⟩; have qw2_3 : Ext w2 vw2_3 := Ext.trans (by first | exact qw2_2 | exact Ext.refl w2) hb_3))
    have X6 := Lib.hid (box4 X2.out L2.out qw2_3)
    have E6 := Lib.hid (E2.out.trans qw2_3)
    have L6 := Lib.hid (Nat.lt_of_lt_of_le L2.out qw2_3.size)
    clear x0 x1 x2 x3 l2
    go_wp2_with fail
    go_loopw [6, 7] (fun s i wr => ∃ j : Nat, j ≤ 8 ∧ i = .int .i64 ((j : Int) + 1) ∧ s = .int .i64 ((sumOps o k j : Nat) : Int) ∧ Ext vw2_3 wr) (fun _ i _ => 10 - (intOf i).toNat)
    case atStart => exact ⟨0, by omega, rfl, rfl, Ext.refl _⟩
    case round =>
      obtain ⟨j, hj, rfl, rfl, hext⟩ := hrel
      have hsl := sumOps_le o k j
      have hs8 : sumOps o k j ≤ 900000 := by
        have : j * (1 + k.cnt) ≤ 8 * (1 + k.cnt) := Nat.mul_le_mul_right _ hj
        omega
      obtain ⟨x0, x1, x2, x3⟩ := box4 X6.out L6.out hext
      have lr : w1.heap.size < wr.heap.size := Nat.lt_of_lt_of_le L6.out hext.size
      have ER := Lib.hid (E6.out.trans hext)
      have HXT := Lib.hid hext
      by_cases hj8 : j < 8
      · have hcl := opsD_le ((j : Int) + 1) o k
        have hst : sumOps o k (j + 1) = sumOps o k j + opsD ((j : Int) + 1) o k := rfl
        obtain ⟨A, hA⟩ : ∃ A : Nat, sumOps o k j = A := ⟨_, rfl⟩
        obtain ⟨B, hB⟩ : ∃ B : Nat, opsD ((j : Int) + 1) o k = B := ⟨_, rfl⟩
        have HC := Lib.hid (HCK.out wr ER.out ((j : Int) + 1))
        rw [hB] at HC hcl hst
        rw [hA] at hs8 hst ⊢
        have HST := Lib.hid hst
        clear hsl hst hA hB hext
        go_wp2_with fail
        refine HC.out.mono ?_
        rintro e7 w7 ⟨rfl, hb7⟩
        have HB7 := Lib.hid hb7
        clear hb7 x0 x1 x2 x3
        go_wp2_with fail
        go_roundw
        case rel => exact ⟨j + 1, by omega, by go_num, by rw [HST.out]; go_num, HXT.out.trans HB7.out⟩
        case measure => simp [intOf]; omega
      · obtain rfl : j = 8 := by omega
        have HZ := Lib.hid (HZI.out wr ER.out)
        have hSZ : ((sumOps o k 8 : Nat) : Int) = Z := by rw [HS.out]; exact HN.out.2
        rw [hSZ]
        have hNZ : N ≤ Z := by rw [← HN.out.1, ← HN.out.2]; have := opsD_le op o k; omega
        clear hsl hs8 hSZ hext
        go_wp2_with fail
        refine HZ.out.mono ?_
        rintro e7 w7 ⟨rfl, hb7⟩
        have HB7 := Lib.hid hb7
        clear hb7 x0 x1 x2 x3
        go_wp2_with fail
        go_ret
        exact ⟨by first | rfl | simp [hNZ], E1.out.trans (ER.out.trans HB7.out)⟩

set_option maxHeartbeats 400000 in
theorem walk_big (w : World) (a0 : Option Addr) (len0 cap0 : Nat) (hl0 : 1048576 < len0) :
    Calls Try.prog 4 #[.slice a0 len0 cap0] w fun e w' => e = .returned (.bool true) ∧ Ext w w' := by
  have h1 : (1048576 : Int) < (len0 : Int) := by omega
  go_enter Try.func4, Try.ntmps4
  go_wp2_with fail
  go_ret
  exact ⟨rfl, Ext.refl w⟩

theorem walk (w : World) (a0 : Option Addr) (len0 cap0 : Nat) (hb0 : Bytes w a0 len0) (hlc0 : len0 ≤ cap0) (hcm0 : cap0 ≤ maxLen) :
    Calls Try.prog 4 #[.slice a0 len0 cap0] w fun e w' => e = .returned (.bool true) ∧ Below w.heap.size w w' := by
  by_cases h : 1048576 < len0
  · exact walk_big w a0 len0 cap0 h
  · exact walk_good w a0 len0 cap0 hb0 hlc0 hcm0 (by omega)

set_option maxRecDepth 100000 in
theorem lifted (os : Os) (started : os.Started) (H : Type) (enc : TypeId × Value → H) :
    ReturnsInHanded {} Try.checked os 4 .any (Rows.fnCountOpsSpec.pre6 enc Try.prog Try.f4 Rows.fnCountOpsRow.domain false) (Rows.fnCountOpsSpec.post enc Try.prog Try.f4 false true false false) := by
  refine returnsInHanded_of_change (C := Try.checked) Facts.own started (by kernel_rfl) Try.func4
    (ChangeSpec.witness6 (enc := enc) (C := Try.checked) false ⟨#[], #[.slice none 0 0], []⟩ 8 (by kernel_rfl) (by kernel_rfl) (by kernel_rfl) (by kernel_rfl)) ?_
  intro W base args ds gs before hval0 hW hcnd0 _
  clear hcnd0
  have hval : ∀ (j : Nat) t v, Try.f4.params[j]? = some t → args[j]? = some v → Value.okWide Try.prog W .any base t v := hval0
  have hW' := hW
  obtain ⟨p, q, hA0, hV, rfl, hfz, hnd⟩ := hW
  have hA : DataW.TrodAll enc Try.prog W 0 (fun _ => true) true Try.f4.params.toList args.toList ds p := hA0
  rw [Try.params4] at hA hval
  obtain ⟨v0, d0, rfl, rfl, h0⟩ := trodAll_one hA
  obtain ⟨rfl, rfl⟩ := trodVars_none hV
  obtain ⟨a0, len0, cap0, rfl⟩ := okWide_slice Try.underlying22 (hval 0 22 v0 rfl rfl)
  clear hA0 hval0
  simp only [List.append_nil] at hW'
  have hlt : ∀ x ∈ p, x.block < W.heap.size := fun x hx => by simpa using hW'.lt x hx
  obtain ⟨hb0, hlc0, hcm0⟩ := opened h0
  refine (walk W a0 len0 cap0 hb0 hlc0 hcm0).mono fun e W' ⟨he, hb⟩ => ?_
  subst he
  refine ⟨_, rfl, [_], [], p, [], p, [], hW', trodAll_mk1 (shut_bool Try.underlying4 _), ?_, rfl, hb.frame _, fun h => by cases h⟩
  exact trodAll_mk1 (Below.trod Facts.laidOut (by kernel_rfl) (of_decide_eq_true (by kernel_rfl)) h0 hb hlt)

theorem named : Try.prog.funcNamed Rows.fnCountOpsRow.func = some 4 := by kernel_rfl
theorem closed : joinedFacts Try.prog 4 Try.f4 Rows.fnCountOpsSpec Rows.fnCountOpsRow = true :=
  Facts.closed_of rfl rfl rfl rfl (h28b := rfl) (by kernel_rfl) (by kernel_rfl) (by kernel_rfl) (by kernel_rfl) (by kernel_rfl) (by kernel_rfl) (by kernel_rfl) (by kernel_rfl) (by kernel_rfl) (by kernel_rfl) (by kernel_rfl) (by kernel_rfl) (by kernel_rfl) (by kernel_rfl) (by kernel_rfl) (by kernel_rfl) (by kernel_rfl) (by kernel_rfl) (by kernel_rfl) (by kernel_rfl) (by kernel_rfl) (by kernel_rfl) (by kernel_rfl) (by kernel_rfl)
theorem instanced : Try.f4.isInstance Try.prog Rows.fnCountOpsRow.origin Rows.fnCountOpsRow.targs := of_decide_eq_true (by kernel_rfl)
theorem wrapped : Try.f4.isWrapper Try.prog Rows.fnCountOpsRow.wrapper Rows.fnCountOpsRow.mainSum := by
  unfold Func.isWrapper
  rw [if_neg (of_decide_eq_false (by kernel_rfl))]
  exact ⟨rfl, rfl⟩

theorem holds : Rows.FnCountOpsSaid :=
  OpenClaim.holds_of_wide 4 Try.f4 rfl rfl rfl rfl rfl rfl rfl ⟨rfl, rfl, rfl, rfl, rfl⟩ rfl rfl rfl rfl rfl named Try.func4 closed instanced wrapped
    (fun os started H enc _ => lifted os started H enc)

end Go.Proofs.Ytjpgnhpfmdjamaa.lawCountOps
