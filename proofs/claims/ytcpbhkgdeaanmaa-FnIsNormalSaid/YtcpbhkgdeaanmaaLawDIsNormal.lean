import Derived.Test.YtcpbhkgdeaanmaaDr8
import Derived.Test.YtcpbhkgdeaanmaaNfM
import Derived.Test.YtcpbhkgdeaanmaaNfN2
import Derived.Test.YtcpbhkgdeaanmaaNfIs
import Derived.Test.YtcpbhkgdeaanmaaDrZ
import Derived.Test.YtcpbhkgdeaanmaaFacts
import Derived.Test.YtcpbhkgdeaanmaaRows
import Derived.Deep.RegionHeld3
import Derived.Deep.DeepCutAuto
import Derived.Deep.RegionWith
/-
  Normal forms are final: the law FnIsNormal returns true for whatever draws, and its argument reads as it did. No condition of ours.
-/
set_option linter.unusedVariables false
set_option linter.unusedSimpArgs false
namespace Go.Proofs.Ytcpbhkgdeaanmaa.lawIsNormalD
open Go.ChangeShapes Go.WideShapes Go.ChangeAt Go.RowKit P1 Draw6 LawC CntC DocK CatD

set_option maxRecDepth 100000 in
set_option maxHeartbeats 6400000 in
theorem walk_good (w : World) (a0 : Option Addr) (len0 cap0 : Nat) (hb0 : Bytes w a0 len0) (hlc0 : len0 ≤ cap0) (hcm0 : cap0 ≤ maxLen) (hl0 : len0 ≤ 1048576) :
    Calls Try.prog 3 #[.slice a0 len0 cap0] w fun e w' => e = .returned (.bool true) ∧ Ext w w' := by
  have HD0 := Lib.hid (Dr7.drawIsNormal w a0 len0 cap0 hb0 hlc0 hcm0)
  clear hb0
  unfold maxLen at hcm0
  go_enter Try.func3, Try.ntmps3
  go_wp2_with fail
  refine HD0.out.mono ?_
  rintro e1 w1 ⟨o, n, t, k, a, c, fs, rfl, hc, hsz, hsub, hfr, hb1⟩
  have D1 := Lib.hid (show DocK.Doc0 w1 n t k a c fs from ⟨hsub, fun c hc => (hfr.2 c hc).2, hc, by omega⟩)
  have E1 := Lib.hid (show Ext w w1 from hb1)
  clear hsub hfr hb1 hc
  have hyes := fun (d : D) (h : Nf.noRes o n t k = (true, d)) => And.intro (Nf.is_yes h) (Nf.no_all (show (Nf.noRes o n t k).1 = true by rw [h]))
  have hno := fun (d : D) (h : Nf.noRes o n t k = (false, d)) => Nf.is_no h
  obtain ⟨⟨ok, o2, n2, t2, k2⟩, hR⟩ : ∃ R, Nf.noRes o n t k = R := ⟨_, rfl⟩
  obtain ⟨B, hB⟩ : ∃ B, Nf.isB o n t k = B := ⟨_, rfl⟩
  have hsz3 : t2.size + k2.size ≤ 100000 := Nf.ch_tiny hR
  have hsz2 : t2.size + k2.size ≤ 1048576 := by omega
  have HIM := Lib.hid (show ∀ W : World, Ext w1 W → Calls Try.prog 14 #[.agg #[.int .i64 o, .int .i64 n, .string t, .slice a k.len c]] W (DocRes W (ok, o2, n2, t2, k2)) from fun W e => by
    have := Nf.implNormalDoc W o n t k a c fs (D1.out.ext e).sub (D1.out.ext e).ok D1.out.cap_le (by omega)
    rw [hR] at this
    exact this)
  have HIB := Lib.hid (show ∀ W : World, Ext w1 W → Calls Try.prog 13 #[.agg #[.int .i64 o, .int .i64 n, .string t, .slice a k.len c]] W fun e w' => e = .returned (.bool B) ∧ Ext W w' from fun W e => by
    have := Nf.implIsNormal W o n t k a c fs (D1.out.ext e).sub (D1.out.ext e).ok D1.out.cap_le (by omega)
    rw [hB] at this
    exact this)
  have HSB := Lib.hid (show ∀ W : World, Ext w1 W → Calls Try.prog 15 #[.agg #[.int .i64 o, .int .i64 n, .string t, .slice a k.len c]] W fun e w' => e = .returned (.bool B) ∧ Ext W w' from fun W e => by
    have := Nf.specIsNormal W o n t k a c fs (D1.out.ext e).sub (D1.out.ext e).ok D1.out.cap_le (by omega)
    rw [hB] at this
    exact this)
  have evv : (B != B) = false := by simp
  have evw : (B == B) = true := by simp
  have HB := Lib.hid (And.intro hR (And.intro hB (And.intro hyes hno)))
  clear hsz hR hB hyes hno
  go_wp2_with fail
  refine (HIB.out _ ((Ext.refl w1).alloc _)).mono ?_
  rintro e2 w2 ⟨rfl, hb⟩
  have hbb : Ext w1 w2 := ((Ext.refl w1).alloc _).trans hb
  have X2 := Lib.hid (box4 (box_new w1 _ _ _ _ _) (by simp) hb)
  have L2 := Lib.hid (show w1.heap.size < w2.heap.size from by have := hb.size; simp at this; omega)
  have E2 := Lib.hid hbb
  clear hb hbb
  obtain ⟨x0, x1, x2, x3⟩ := X2.out
  have l := L2.out
  go_wp2_with fail
  refine (HIM.out _ E2.out).mono ?_
  rintro e3 wx ⟨a2, c2, f2, rfl, hc2, hs2, hfr2, hb⟩
  obtain ⟨w3, hV⟩ : ∃ V, wx.alloc (.cells #[.int .i64 o2, .int .i64 n2, .string t2, .slice a2 k2.len c2] 25) = V := ⟨_, rfl⟩
  have hxV : Ext wx w3 := by rw [← hV]; exact (Ext.refl _).alloc _
  have hbb : Ext w2 w3 := Ext.trans (show Ext w2 wx from hb) hxV
  have X3 := Lib.hid (box4 X2.out L2.out hbb)
  have L3 := Lib.hid (Nat.lt_of_lt_of_le L2.out hbb.size)
  have Y3 := Lib.hid (show w3.cell? ⟨wx.heap.size, 0, none⟩ = some (.int .i64 o2) ∧ w3.cell? ⟨wx.heap.size, 1, none⟩ = some (.int .i64 n2) ∧ w3.cell? ⟨wx.heap.size, 2, none⟩ = some (.string t2) ∧ w3.cell? ⟨wx.heap.size, 3, none⟩ = some (.slice a2 k2.len c2) from by rw [← hV]; exact box_new wx 25 (.int .i64 o2) (.int .i64 n2) (.string t2) (.slice a2 k2.len c2))
  have M3 := Lib.hid (show wx.heap.size < w3.heap.size from by rw [← hV]; simp)
  have E3 := Lib.hid (E2.out.trans hbb)
  have N3 := Lib.hid (show DocK.Doc0 w3 n2 t2 k2 a2 c2 f2 from (DocK.Doc0.mk hs2 (fun c hc => (hfr2.2 c hc).2) hc2 hsz3).ext hxV)
  have D3 := Lib.hid (D1.out.ext E3.out)
  clear hb hbb hc2 hs2 hfr2 hxV x0 x1 x2 x3 l
  obtain ⟨x0, x1, x2, x3⟩ := X3.out
  have l := L3.out
  go_wp2_with fail
  try rw [hV]
  clear hV
  refine (HSB.out _ E3.out).mono ?_
  rintro e4 w4 ⟨rfl, hb⟩
  have X4 := Lib.hid (box4 X3.out L3.out hb)
  have L4 := Lib.hid (Nat.lt_of_lt_of_le L3.out hb.size)
  have Y4 := Lib.hid (box4 Y3.out M3.out hb)
  have M4 := Lib.hid (Nat.lt_of_lt_of_le M3.out hb.size)
  have E4 := Lib.hid (E3.out.trans hb)
  have S4 := Lib.hid (show Ext w3 w4 from hb)
  clear hb x0 x1 x2 x3 l
  cases ok with
  | false =>
    have hBf : B = false := by obtain ⟨hR, hB, _, hno⟩ := HB.out; rw [← hB]; exact hno _ hR
    subst hBf
    obtain ⟨x0, x1, x2, x3⟩ := X4.out
    have l := L4.out
    go_wp2_with fail
    refine (HSB.out _ E4.out).mono ?_
    rintro e5 w5 ⟨rfl, hb⟩
    have E5 := Lib.hid (E4.out.trans hb)
    clear hb x0 x1 x2 x3 l
    go_wp2_with fail
    go_ret
    exact ⟨by first | rfl | simp, E1.out.trans E5.out⟩
  | true =>
    obtain ⟨hR, hB, hyes, _⟩ := HB.out
    obtain ⟨hBs, hag, hop⟩ := hyes _ hR
    rw [hR] at hag hop
    simp only at hag hop hBs
    rw [hB] at hBs
    obtain ⟨O, hO⟩ : ∃ O, CntC.opsD 1 o2 k2 = O := ⟨_, rfl⟩
    obtain ⟨C2, hC2⟩ : ∃ C, 1 + k2.cnt = C := ⟨_, rfl⟩
    rw [hO, hC2] at hop
    have HAG := Lib.hid (show ∀ W : World, Ext w3 W → Calls Try.prog 14 #[.agg #[.int .i64 o2, .int .i64 n2, .string t2, .slice a2 k2.len c2]] W (DocRes W (true, o2, n2, t2, k2)) from fun W e => by
      have := Nf.implNormalDoc W o2 n2 t2 k2 a2 c2 f2 (N3.out.ext e).sub (N3.out.ext e).ok N3.out.cap_le hsz2
      rw [hag] at this
      exact this)
    have HSD := Lib.hid (show ∀ W : World, Ext w3 W → Calls Try.prog 16 #[.agg #[.int .i64 o2, .int .i64 n2, .string t2, .slice a2 k2.len c2], .agg #[.int .i64 o, .int .i64 n, .string t, .slice a k.len c]] W fun e w' => e = .returned (.bool B) ∧ Ext W w' from fun W e => by
      have := NfM.same (N3.out.ext e) (D3.out.ext e) o2 o
      rw [← hBs] at this
      exact this)
    have HON := Lib.hid (show ∀ W : World, Ext w3 W → Calls Try.prog 17 #[.agg #[.int .i64 o2, .int .i64 n2, .string t2, .slice a2 k2.len c2], .int .i64 1] W fun e w' => e = .returned (.int .i64 ((O : Nat) : Int)) ∧ Ext W w' from fun W e => by have h := (N3.out.ext e).implCountOps o2 1; rw [hO] at h; exact h)
    have HZN := Lib.hid (show ∀ W : World, Ext w3 W → Calls Try.prog 18 #[.agg #[.int .i64 o2, .int .i64 n2, .string t2, .slice a2 k2.len c2]] W fun e w' => e = .returned (.int .i64 ((C2 : Nat) : Int)) ∧ Ext W w' from fun W e => by have h := (N3.out.ext e).implDocSize o2; rw [hC2] at h; exact h)
    have HOP := Lib.hid hop
    clear hR hB hyes hBs hag hop hO hC2 hsz2
    obtain ⟨y0, y1, y2, y3⟩ := Y4.out
    have m := M4.out
    go_wp2_with fail
    refine (HAG.out _ S4.out).mono ?_
    rintro e5 wy ⟨a9, c9, f9, rfl, hc9, hs9, hfr9, hb⟩
    obtain ⟨w5, hV⟩ : ∃ V, wy.alloc (.cells #[.int .i64 o2, .int .i64 n2, .string t2, .slice a9 k2.len c9] 25) = V := ⟨_, rfl⟩
    have hxV : Ext wy w5 := by rw [← hV]; exact (Ext.refl _).alloc _
    have hbb : Ext w4 w5 := Ext.trans (show Ext w4 wy from hb) hxV
    have X5 := Lib.hid (box4 X4.out L4.out hbb)
    have L5 := Lib.hid (Nat.lt_of_lt_of_le L4.out hbb.size)
    have Y5 := Lib.hid (box4 Y4.out M4.out hbb)
    have M5 := Lib.hid (Nat.lt_of_lt_of_le M4.out hbb.size)
    have Z5 := Lib.hid (show w5.cell? ⟨wy.heap.size, 0, none⟩ = some (.int .i64 o2) ∧ w5.cell? ⟨wy.heap.size, 1, none⟩ = some (.int .i64 n2) ∧ w5.cell? ⟨wy.heap.size, 2, none⟩ = some (.string t2) ∧ w5.cell? ⟨wy.heap.size, 3, none⟩ = some (.slice a9 k2.len c9) from by rw [← hV]; exact box_new wy 25 (.int .i64 o2) (.int .i64 n2) (.string t2) (.slice a9 k2.len c9))
    have P5 := Lib.hid (show wy.heap.size < w5.heap.size from by rw [← hV]; simp)
    have S5 := Lib.hid (S4.out.trans hbb)
    have A9 := Lib.hid (show DocK.Doc0 w5 n2 t2 k2 a9 c9 f9 from (DocK.Doc0.mk hs9 (fun c hc => (hfr9.2 c hc).2) hc9 hsz3).ext hxV)
    have HS9 := Lib.hid (show ∀ W : World, Ext w5 W → Calls Try.prog 16 #[.agg #[.int .i64 o2, .int .i64 n2, .string t2, .slice a9 k2.len c9], .agg #[.int .i64 o2, .int .i64 n2, .string t2, .slice a2 k2.len c2]] W fun e w' => e = .returned (.bool true) ∧ Ext W w' from fun W e => by
      have := NfM.same (A9.out.ext e) (N3.out.ext (S5.out.trans e)) o2 o2
      rw [show sameD o2 n2 t2 k2 o2 n2 t2 k2 = true by rw [sameD_yes, F.same_self]] at this
      exact this)
    clear hb hbb hc9 hs9 hfr9 hxV y0 y1 y2 y3 m
    obtain ⟨x0, x1, x2, x3⟩ := X5.out
    obtain ⟨y0, y1, y2, y3⟩ := Y5.out
    have l := L5.out
    have m := M5.out
    go_wp2_with fail
    try rw [hV]
    clear hV
    refine (HSD.out _ S5.out).mono ?_
    rintro e6 w6 ⟨rfl, hb⟩
    have Y6 := Lib.hid (box4 Y5.out M5.out hb)
    have M6 := Lib.hid (Nat.lt_of_lt_of_le M5.out hb.size)
    have Z6 := Lib.hid (box4 Z5.out P5.out hb)
    have P6 := Lib.hid (Nat.lt_of_lt_of_le P5.out hb.size)
    have Q6 := Lib.hid (show Ext w5 w6 from hb)
    clear hb x0 x1 x2 x3 y0 y1 y2 y3 l m
    obtain ⟨y0, y1, y2, y3⟩ := Y6.out
    obtain ⟨z0, z1, z2, z3⟩ := Z6.out
    have m := M6.out
    have p := P6.out
    go_wp2_with fail
    refine (HS9.out _ Q6.out).mono ?_
    rintro e7 w7 ⟨rfl, hb⟩
    have Y7 := Lib.hid (box4 Y6.out M6.out hb)
    have M7 := Lib.hid (Nat.lt_of_lt_of_le M6.out hb.size)
    have Q7 := Lib.hid (Q6.out.trans hb)
    clear hb y0 y1 y2 y3 z0 z1 z2 z3 m p
    obtain ⟨y0, y1, y2, y3⟩ := Y7.out
    have m := M7.out
    go_wp2_with fail
    refine (HON.out _ (S5.out.trans Q7.out)).mono ?_
    rintro e8 w8 ⟨rfl, hb⟩
    have Y8 := Lib.hid (box4 Y7.out M7.out hb)
    have M8 := Lib.hid (Nat.lt_of_lt_of_le M7.out hb.size)
    have Q8 := Lib.hid (Q7.out.trans hb)
    clear hb y0 y1 y2 y3 m
    by_cases h0 : O = 0
    · subst h0
      have eo1 : (((0 : Nat) : Int) == 0) = true := by decide
      go_wp2_with fail
      go_ret
      exact ⟨by first | rfl | simp, E1.out.trans (E3.out.trans (S5.out.trans Q8.out))⟩
    · have eo1 : (((O : Nat) : Int) == 0) = false := by rw [beq_eq_false_iff_ne]; omega
      have ec1 : (((C2 : Nat) : Int) == 1) = true := by rw [beq_iff_eq]; rcases HOP.out with h | h <;> omega
      clear h0
      obtain ⟨y0, y1, y2, y3⟩ := Y8.out
      have m := M8.out
      go_wp2_with fail
      refine (HZN.out _ (S5.out.trans Q8.out)).mono ?_
      rintro e9 w9 ⟨rfl, hb⟩
      have Q9 := Lib.hid (Q8.out.trans hb)
      clear hb y0 y1 y2 y3 m
      go_wp2_with fail
      go_ret
      exact ⟨by first | rfl | simp, E1.out.trans (E3.out.trans (S5.out.trans Q9.out))⟩

set_option maxHeartbeats 400000 in
theorem walk_big (w : World) (a0 : Option Addr) (len0 cap0 : Nat) (hl0 : 1048576 < len0) :
    Calls Try.prog 3 #[.slice a0 len0 cap0] w fun e w' => e = .returned (.bool true) ∧ Ext w w' := by
  have h1 : (1048576 : Int) < (len0 : Int) := by omega
  go_enter Try.func3, Try.ntmps3
  go_wp2_with fail
  go_ret
  exact ⟨rfl, Ext.refl w⟩

theorem walk (w : World) (a0 : Option Addr) (len0 cap0 : Nat) (hb0 : Bytes w a0 len0) (hlc0 : len0 ≤ cap0) (hcm0 : cap0 ≤ maxLen) :
    Calls Try.prog 3 #[.slice a0 len0 cap0] w fun e w' => e = .returned (.bool true) ∧ Below w.heap.size w w' := by
  by_cases h : 1048576 < len0
  · exact walk_big w a0 len0 cap0 h
  · exact walk_good w a0 len0 cap0 hb0 hlc0 hcm0 (by omega)

set_option maxRecDepth 100000 in
theorem lifted (os : Os) (started : os.Started) (H : Type) (enc : TypeId × Value → H) :
    ReturnsInHanded {} Try.checked os 3 .any (Rows.fnIsNormalSpec.pre6 enc Try.prog Try.f3 Rows.fnIsNormalRow.domain false) (Rows.fnIsNormalSpec.post enc Try.prog Try.f3 false true false false) := by
  refine returnsInHanded_of_change (C := Try.checked) Facts.own started (by kernel_rfl) Try.func3
    (ChangeSpec.witness6 (enc := enc) (C := Try.checked) false ⟨#[], #[.slice none 0 0], []⟩ 8 (by kernel_rfl) (by kernel_rfl) (by kernel_rfl) (by kernel_rfl)) ?_
  intro W base args ds gs before hval0 hW hcnd0 _
  clear hcnd0
  have hval : ∀ (j : Nat) t v, Try.f3.params[j]? = some t → args[j]? = some v → Value.okWide Try.prog W .any base t v := hval0
  have hW' := hW
  obtain ⟨p, q, hA0, hV, rfl, hfz, hnd⟩ := hW
  have hA : DataW.TrodAll enc Try.prog W 0 (fun _ => true) true Try.f3.params.toList args.toList ds p := hA0
  rw [Try.params3] at hA hval
  obtain ⟨v0, d0, rfl, rfl, h0⟩ := trodAll_one hA
  obtain ⟨rfl, rfl⟩ := trodVars_none hV
  obtain ⟨a0, len0, cap0, rfl⟩ := okWide_slice Try.underlying22 (hval 0 22 v0 rfl rfl)
  clear hA0 hval0
  simp only [List.append_nil] at hW'
  have hlt : ∀ x ∈ p, x.block < W.heap.size := fun x hx => by simpa using hW'.lt x hx
  obtain ⟨hb0, hlc0, hcm0⟩ := opened h0
  refine (walk W a0 len0 cap0 hb0 hlc0 hcm0).mono fun e W' ⟨he, hb⟩ => ?_
  subst he
  refine ⟨_, rfl, [_], [], p, [], p, [], hW', trodAll_mk1 (shut_bool Try.underlying4 _), ?_, rfl, hb.frame _, fun h => by cases h⟩
  exact trodAll_mk1 (Below.trod Facts.laidOut (by kernel_rfl) (of_decide_eq_true (by kernel_rfl)) h0 hb hlt)

theorem named : Try.prog.funcNamed Rows.fnIsNormalRow.func = some 3 := by kernel_rfl
theorem closed : joinedFacts Try.prog 3 Try.f3 Rows.fnIsNormalSpec Rows.fnIsNormalRow = true :=
  Facts.closed_of rfl rfl rfl rfl (h28b := rfl) (by kernel_rfl) (by kernel_rfl) (by kernel_rfl) (by kernel_rfl) (by kernel_rfl) (by kernel_rfl) (by kernel_rfl) (by kernel_rfl) (by kernel_rfl) (by kernel_rfl) (by kernel_rfl) (by kernel_rfl) (by kernel_rfl) (by kernel_rfl) (by kernel_rfl) (by kernel_rfl) (by kernel_rfl) (by kernel_rfl) (by kernel_rfl) (by kernel_rfl) (by kernel_rfl) (by kernel_rfl) (by kernel_rfl) (by kernel_rfl)
theorem instanced : Try.f3.isInstance Try.prog Rows.fnIsNormalRow.origin Rows.fnIsNormalRow.targs := of_decide_eq_true (by kernel_rfl)
theorem wrapped : Try.f3.isWrapper Try.prog Rows.fnIsNormalRow.wrapper Rows.fnIsNormalRow.mainSum := by
  unfold Func.isWrapper
  rw [if_neg (of_decide_eq_false (by kernel_rfl))]
  exact ⟨rfl, rfl⟩

theorem holds : Rows.FnIsNormalSaid :=
  OpenClaim.holds_of_wide 3 Try.f3 rfl rfl rfl rfl rfl rfl rfl ⟨rfl, rfl, rfl, rfl, rfl⟩ rfl rfl rfl rfl rfl named Try.func3 closed instanced wrapped
    (fun os started H enc _ => lifted os started H enc)

end Go.Proofs.Ytcpbhkgdeaanmaa.lawIsNormalD

