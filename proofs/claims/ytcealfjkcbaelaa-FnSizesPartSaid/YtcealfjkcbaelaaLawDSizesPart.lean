import Derived.Test.YtcealfjkcbaelaaTkE
import Derived.Test.YtcealfjkcbaelaaTkQ
import Derived.Test.YtcealfjkcbaelaaTkZ
import Derived.Test.YtcealfjkcbaelaaDaI
import Derived.Test.YtcealfjkcbaelaaDrZ
import Derived.Test.YtcealfjkcbaelaaFacts
import Derived.Test.YtcealfjkcbaelaaRows
import Derived.Deep.RegionHeld3
import Derived.Deep.DeepCutAuto
import Derived.Deep.RegionWith
/-
  Needs are bounded: the law FnSizesPart returns true for whatever draws, and its argument reads as it did. No condition of ours.
-/
set_option linter.unusedVariables false
set_option linter.unusedSimpArgs false
namespace Go.Proofs.Ytcealfjkcbaelaa.lawSizesPartD
open Go.ChangeShapes Go.WideShapes Go.ChangeAt Go.RowKit P1 Draw6 LawC Tk VsI

theorem isub_get {w : World} {a : Option Addr} {Z : List Int} {fs : List Nat} (h : ISub w a Z fs) {k : Nat} (hk : k < Z.length) : ∃ b off, a = some ⟨b, off, none⟩ ∧ b < w.heap.size ∧ w.cell? ⟨b, off + k, none⟩ = some (.int .i64 Z[k]) := by
  rcases h with ⟨h0, _⟩ | ⟨b, off, rfl, _, _, hr⟩
  · rw [List.map_eq_nil_iff] at h0; subst h0; simp at hk
  · have h1 := hr k (by simpa using hk)
    simp only [List.getElem_map] at h1
    exact ⟨b, off, rfl, World.block_lt_of_cell? w _ h1, h1⟩

set_option maxRecDepth 100000 in
set_option maxHeartbeats 6400000 in
theorem walk_good (w : World) (a0 : Option Addr) (len0 cap0 : Nat) (hb0 : Bytes w a0 len0) (hlc0 : len0 ≤ cap0) (hcm0 : cap0 ≤ maxLen) (hl0 : len0 ≤ 1048576) :
    Calls Try.prog 11 #[.slice a0 len0 cap0] w fun e w' => e = .returned (.bool true) ∧ Ext w w' := by
  have HD0 := Lib.hid (Tk.drawSizesOf w a0 len0 cap0 hb0 hlc0 hcm0)
  clear hb0
  unfold maxLen at hcm0
  go_enter Try.func11, Try.ntmps11
  go_wp2_with fail
  refine HD0.out.mono ?_
  rintro e1 w1 ⟨X, a, cap, fs, rfl, hc, hl, ht, hs, hf, hb1⟩
  have hft : TL.Fits X := fun r hr => by have := ht r hr; unfold maxLen; omega
  obtain ⟨N, hN⟩ : ∃ N, X.length = N := ⟨_, rfl⟩
  obtain ⟨⟨Z, V⟩, hR⟩ : ∃ R, szR X = R := ⟨_, rfl⟩
  have HSI := Lib.hid (show ∀ W : World, Ext w1 W → Calls Try.prog 34 #[.slice a N cap] W (IRes W (Z, V)) from fun W e => by rw [← hN, ← hR]; exact implSizesOf X W a cap fs (hs.below hs.lt e) hc (by unfold maxLen; omega) hft)
  have HSS := Lib.hid (show ∀ W : World, Ext w1 W → Calls Try.prog 35 #[.slice a N cap] W (IRes W (Z, V)) from fun W e => by rw [← hN, ← hR]; exact specSizesOf X W a cap fs (hs.below hs.lt e) hc (by unfold maxLen; omega) hft)
  have HX := Lib.hid (And.intro hN (And.intro hR hs))
  have hzl : Z.length ≤ 1048576 := by have := sz_len X; rw [hR] at this; exact this
  have E1 := Lib.hid (show Ext w w1 from hb1)
  rw [hN] at hc hl ⊢
  clear hN hR hs hf hb1 ht hft
  go_wp2_with fail
  refine (HSI.out _ (Ext.refl _)).mono ?_
  rintro e2 w2 h2
  obtain ⟨a2, c2, f2, rfl, hc2, hs2, hf2, hb2⟩ := h2.out
  have E2 := Lib.hid (show Ext w1 w2 from hb2)
  have S2 := Lib.hid (show ∀ W, Ext w2 W → ISub W a2 Z f2 from fun W h => hs2.below hs2.lt h)
  clear h2 hs2 hf2 hb2
  go_wp2_with fail
  refine (HSS.out _ E2.out).mono ?_
  rintro e3 w3 h3
  obtain ⟨a3, c3, f3, rfl, hc3, hs3, hf3, hb3⟩ := h3.out
  have E3 := Lib.hid (show Ext w2 w3 from hb3)
  have HDI := Lib.hid (fun (W : World) (h : Ext w3 W) => DaI.daIntsS Z W a2 a3 c2 c3 f2 f3 (S2.out W (E3.out.trans h)) (hs3.below hs3.lt h) hc2 hc3 hzl)
  clear h3 hs3 hf3 hb3
  obtain ⟨m, hm⟩ : ∃ m, Z.length = m := ⟨_, rfl⟩
  have HM := Lib.hid hm
  rw [hm] at HDI hc2 hc3 hzl ⊢
  clear hm
  have v0 : (V != V) = false := by simp
  have v1 : (V == V) = true := by simp
  cases V with
  | false =>
    go_wp2_with fail
    refine (HDI.out _ (Ext.refl _)).mono ?_
    rintro e4 w4 ⟨rfl, hb4⟩
    have E4 := Lib.hid (show Ext w3 w4 from hb4)
    clear hb4
    go_wp2_with fail
    refine (HDI.out _ E4.out).mono ?_
    rintro e5 w5 ⟨rfl, hb5⟩
    have E5 := Lib.hid (show Ext w4 w5 from hb5)
    clear hb5
    go_wp2_with fail
    go_ret
    exact ⟨by first | rfl | simp, (((E1.out.trans E2.out).trans E3.out).trans E4.out).trans E5.out⟩
  | true =>
    have htv : tkv X = true := by
      cases h : tkv X with
      | true => rfl
      | false => have := HX.out.2.1; rw [szR_no h] at this; cases this
    have hZ : szL X = Z := by have := HX.out.2.1; rw [szR_yes htv] at this; injection this
    obtain rfl : N = m := by have := HM.out; rw [← hZ, szL_len, HX.out.1] at this; exact this
    have HV := Lib.hid htv
    have HZ := Lib.hid hZ
    have hN200 := tkv_len htv
    rw [HX.out.1] at hN200
    clear htv hZ
    go_wp2_with fail
    refine (HDI.out _ (Ext.refl _)).mono ?_
    rintro e4 w4 ⟨rfl, hb4⟩
    have E4 := Lib.hid (show Ext w3 w4 from hb4)
    clear hb4
    have HXC := Lib.hid (show ∀ q, (h : q < X.length) → ∃ b off, a = some ⟨b, off, none⟩ ∧ b < w4.heap.size ∧ w4.cell? ⟨b, off + q * 3, none⟩ = some (.int .i64 X[q].1) from fun q h => by
      have hs4 := HX.out.2.2.below HX.out.2.2.lt ((E2.out.trans E3.out).trans E4.out)
      rcases hs4 with ⟨e, _⟩ | ⟨b, off, e, hne, _, hr⟩
      · rw [e] at h; simp at h
      · exact ⟨b, off, e, hr.lt hne, (hr q h).1⟩)
    have HZC := Lib.hid (show ∀ q, (h : q < Z.length) → ∃ b off, a2 = some ⟨b, off, none⟩ ∧ b < w4.heap.size ∧ w4.cell? ⟨b, off + q, none⟩ = some (.int .i64 Z[q]) from fun q h => isub_get (S2.out _ (E3.out.trans E4.out)) h)
    have HZQ := Lib.hid (show ∀ q, (h : q < X.length) → ∃ h' : q < Z.length, Z[q] = roomT X q h from fun q h => by
      have e := HZ.out
      subst e
      exact ⟨by rw [szL_len]; exact h, szL_get h⟩)
    go_wp2_with fail
    go_loopw [8] (fun i wr => ∃ (j : Nat), j ≤ N ∧ i = .int .i64 (j : Int) ∧ wr = w4) (fun i _ => N - (intOf i).toNat)
    case atStart => exact ⟨0, by omega, rfl, rfl⟩
    case round =>
      obtain ⟨j, hj, rfl, rfl⟩ := hrel
      have j0 : (0 : Int) ≤ (j : Int) := Int.natCast_nonneg _
      by_cases hjN : j < N
      · have j1 : (j : Int) < (N : Int) := by omega
        have hjX : j < X.length := by have := HX.out.1; omega
        have HRB := Lib.hid (room_bd HV.out hjX)
        have HRL := Lib.hid (room_le HV.out hjX)
        obtain ⟨hjZ, hZj⟩ := HZQ.out j hjX
        obtain ⟨b2, o2, rfl, hb2, z0⟩ := HZC.out j hjZ
        obtain ⟨zj, hzj⟩ : ∃ z, Z[j] = z := ⟨_, rfl⟩
        rw [hzj] at z0 hZj
        have HZJ := Lib.hid hZj
        obtain ⟨T, hT⟩ : ∃ T, rst (X.drop j) = T := ⟨_, rfl⟩
        have hT1 : 0 ≤ T ∧ T ≤ 2400 := by
          have h1 := rst_nn (X.drop j)
          have h2 := rst_le (X.drop j) (fun r hr => kt_size (kt_all HV.out r (List.mem_of_mem_drop hr)))
          rw [List.length_drop] at h2
          have := HX.out.1
          rw [hT] at h1 h2; omega
        have HT := Lib.hid hT
        clear hzj hT hZj
        go_wp2_with fail
        go_loopw [9, 10] (fun r k wr' => ∃ (q : Nat) (s : Int), j ≤ q ∧ q ≤ N ∧ Hid (s + rst (X.drop q) = T) ∧ 0 ≤ s ∧ s ≤ 2400 ∧ k = .int .i64 (q : Int) ∧ r = .int .i64 s ∧ wr' = wr) (fun _ k _ => N - (intOf k).toNat)
        case atStart => exact ⟨j, 0, by omega, by omega, Lib.hid (by rw [HT.out]; omega), by omega, by omega, rfl, rfl, rfl⟩
        case round =>
          obtain ⟨q, s, hjq, hqN, HS, hs0, hs1, rfl, rfl, rfl⟩ := hrel
          have q0 : (0 : Int) ≤ (q : Int) := Int.natCast_nonneg _
          by_cases hqlt : q < N
          · have q1 : (q : Int) < (N : Int) := by omega
            have hqX : q < X.length := by have := HX.out.1; omega
            obtain ⟨b, off, rfl, hb, c0⟩ := HXC.out q hqX
            obtain ⟨hqZ, hZq⟩ := HZQ.out q hqX
            obtain ⟨b2', o2', e2', _, z1⟩ := HZC.out q hqZ
            injection e2' with e2'
            injection e2' with e2a e2b _
            subst e2a e2b
            have HD := Lib.hid (rst_drop hqX)
            have HRN := Lib.hid (rst_nn (X.drop (q + 1)))
            have HOWN := Lib.hid (fun h => room_own hqX h)
            have HSN := Lib.hid (szT_nn X[q])
            obtain ⟨k, hk⟩ : ∃ k, X[q].1 = k := ⟨_, rfl⟩
            rw [hk] at c0
            have HK := Lib.hid hk
            obtain ⟨zq, hzq⟩ : ∃ z, Z[q] = z := ⟨_, rfl⟩
            rw [hzq] at z1 hZq
            have HZQ' := Lib.hid hZq
            clear hk hzq hZq
            by_cases h1 : k = 1
            · subst h1
              have HZS := Lib.hid (show zq = szT X[q] from by rw [HZQ'.out]; exact HOWN.out (.inl HK.out))
              have HST := Lib.hid (show (s + zq) + rst (X.drop (q + 1)) = T from by have := HS.out; rw [HD.out, HK.out, if_pos (.inl rfl)] at this; rw [HZS.out]; omega)
              have hz2 : 0 ≤ zq ∧ s + zq ≤ 2400 := by have := HSN.out; have := HZS.out; have := HST.out; have := HRN.out; omega
              have hw : IntKind.i64.wrap (s + zq) = s + zq := by rw [IntKind.wrap_i64]; omega
              go_wp2_with fail
              go_roundw
              case rel => exact ⟨q + 1, s + zq, by omega, by omega, HST, by omega, by omega, by go_num, by first | rfl | (rw [hw]), by first | trivial | rfl⟩
              case measure => simp [intOf]; omega
            · have b1 : (k == 1) = false := beq_eq_false_iff_ne.2 h1
              by_cases h2 : k = 2
              · subst h2
                have HZS := Lib.hid (show zq = szT X[q] from by rw [HZQ'.out]; exact HOWN.out (.inr HK.out))
                have HST := Lib.hid (show (s + zq) + rst (X.drop (q + 1)) = T from by have := HS.out; rw [HD.out, HK.out, if_pos (.inr rfl)] at this; rw [HZS.out]; omega)
                have hz2 : 0 ≤ zq ∧ s + zq ≤ 2400 := by have := HSN.out; have := HZS.out; have := HST.out; have := HRN.out; omega
                have hw : IntKind.i64.wrap (s + zq) = s + zq := by rw [IntKind.wrap_i64]; omega
                go_wp2_with fail
                go_roundw
                case rel => exact ⟨q + 1, s + zq, by omega, by omega, HST, by omega, by omega, by go_num, by first | rfl | (rw [hw]), by first | trivial | rfl⟩
                case measure => simp [intOf]; omega
              · have b2'' : (k == 2) = false := beq_eq_false_iff_ne.2 h2
                have HST := Lib.hid (show s + rst (X.drop (q + 1)) = T from by have := HS.out; rw [HD.out, HK.out, if_neg (by omega)] at this; omega)
                clear z1
                go_wp2_with fail
                go_roundw
                case rel => exact ⟨q + 1, s, by omega, by omega, HST, by omega, by omega, by go_num, by first | rfl | trivial, by first | trivial | rfl⟩
                case measure => simp [intOf]; omega
          · obtain rfl : N = q := by omega
            have HE := Lib.hid (show s = T from by
              have := HS.out
              rw [List.drop_eq_nil_of_le (by have := HX.out.1; omega)] at this
              have e : rst [] = 0 := rfl
              omega)
            have hle : ¬ (s < zj) := by have := HE.out; have := HRL.out; have := HZJ.out; have := HT.out; omega
            go_wp2_with fail
            go_roundw
            case rel => exact ⟨j + 1, by omega, by go_num, by first | trivial | rfl⟩
            case measure => simp [intOf]; omega
      · obtain rfl : N = j := by omega
        go_wp2_with fail
        go_ret
        exact ⟨by first | rfl | simp, ((E1.out.trans E2.out).trans E3.out).trans E4.out⟩

set_option maxHeartbeats 400000 in
theorem walk_big (w : World) (a0 : Option Addr) (len0 cap0 : Nat) (hl0 : 1048576 < len0) :
    Calls Try.prog 11 #[.slice a0 len0 cap0] w fun e w' => e = .returned (.bool true) ∧ Ext w w' := by
  have h1 : (1048576 : Int) < (len0 : Int) := by omega
  go_enter Try.func11, Try.ntmps11
  go_wp2_with fail
  go_ret
  exact ⟨rfl, Ext.refl w⟩

theorem walk (w : World) (a0 : Option Addr) (len0 cap0 : Nat) (hb0 : Bytes w a0 len0) (hlc0 : len0 ≤ cap0) (hcm0 : cap0 ≤ maxLen) :
    Calls Try.prog 11 #[.slice a0 len0 cap0] w fun e w' => e = .returned (.bool true) ∧ Below w.heap.size w w' := by
  by_cases h : 1048576 < len0
  · exact walk_big w a0 len0 cap0 h
  · exact walk_good w a0 len0 cap0 hb0 hlc0 hcm0 (by omega)

set_option maxRecDepth 100000 in
theorem lifted (os : Os) (started : os.Started) (H : Type) (enc : TypeId × Value → H) :
    ReturnsInHanded {} Try.checked os 11 .any (Rows.fnSizesPartSpec.pre6 enc Try.prog Try.f11 Rows.fnSizesPartRow.domain false) (Rows.fnSizesPartSpec.post enc Try.prog Try.f11 false true false false) := by
  refine returnsInHanded_of_change (C := Try.checked) Facts.own started (by kernel_rfl) Try.func11
    (ChangeSpec.witness6 (enc := enc) (C := Try.checked) false ⟨#[], #[.slice none 0 0], []⟩ 8 (by kernel_rfl) (by kernel_rfl) (by kernel_rfl) (by kernel_rfl)) ?_
  intro W base args ds gs before hval0 hW hcnd0 _
  clear hcnd0
  have hval : ∀ (j : Nat) t v, Try.f11.params[j]? = some t → args[j]? = some v → Value.okWide Try.prog W .any base t v := hval0
  have hW' := hW
  obtain ⟨p, q, hA0, hV, rfl, hfz, hnd⟩ := hW
  have hA : DataW.TrodAll enc Try.prog W 0 (fun _ => true) true Try.f11.params.toList args.toList ds p := hA0
  rw [Try.params11] at hA hval
  obtain ⟨v0, d0, rfl, rfl, h0⟩ := trodAll_one hA
  obtain ⟨rfl, rfl⟩ := trodVars_none hV
  obtain ⟨a0, len0, cap0, rfl⟩ := okWide_slice Try.underlying22 (hval 0 22 v0 rfl rfl)
  clear hA0 hval0
  simp only [List.append_nil] at hW'
  have hlt : ∀ x ∈ p, x.block < W.heap.size := fun x hx => by simpa using hW'.lt x hx
  obtain ⟨hb0, hlc0, hcm0⟩ := opened h0
  refine (walk W a0 len0 cap0 hb0 hlc0 hcm0).mono fun e W' ⟨he, hb⟩ => ?_
  subst he
  refine ⟨_, rfl, [_], [], p, [], p, [], hW', trodAll_mk1 (shut_bool Try.underlying4 _), ?_, rfl, hb.frame _, fun h => by cases h⟩
  exact trodAll_mk1 (Below.trod Facts.laidOut (by kernel_rfl) (of_decide_eq_true (by kernel_rfl)) h0 hb hlt)

theorem named : Try.prog.funcNamed Rows.fnSizesPartRow.func = some 11 := by kernel_rfl
theorem closed : joinedFacts Try.prog 11 Try.f11 Rows.fnSizesPartSpec Rows.fnSizesPartRow = true :=
  Facts.closed_of rfl rfl rfl rfl (h28b := rfl) (by kernel_rfl) (by kernel_rfl) (by kernel_rfl) (by kernel_rfl) (by kernel_rfl) (by kernel_rfl) (by kernel_rfl) (by kernel_rfl) (by kernel_rfl) (by kernel_rfl) (by kernel_rfl) (by kernel_rfl) (by kernel_rfl) (by kernel_rfl) (by kernel_rfl) (by kernel_rfl) (by kernel_rfl) (by kernel_rfl) (by kernel_rfl) (by kernel_rfl) (by kernel_rfl) (by kernel_rfl) (by kernel_rfl) (by kernel_rfl)
theorem instanced : Try.f11.isInstance Try.prog Rows.fnSizesPartRow.origin Rows.fnSizesPartRow.targs := of_decide_eq_true (by kernel_rfl)
theorem wrapped : Try.f11.isWrapper Try.prog Rows.fnSizesPartRow.wrapper Rows.fnSizesPartRow.mainSum := by
  unfold Func.isWrapper
  rw [if_neg (of_decide_eq_false (by kernel_rfl))]
  exact ⟨rfl, rfl⟩

theorem holds : Rows.FnSizesPartSaid :=
  OpenClaim.holds_of_wide 11 Try.f11 rfl rfl rfl rfl rfl rfl rfl ⟨rfl, rfl, rfl, rfl, rfl⟩ rfl rfl rfl rfl rfl named Try.func11 closed instanced wrapped
    (fun os started H enc _ => lifted os started H enc)

end Go.Proofs.Ytcealfjkcbaelaa.lawSizesPartD

