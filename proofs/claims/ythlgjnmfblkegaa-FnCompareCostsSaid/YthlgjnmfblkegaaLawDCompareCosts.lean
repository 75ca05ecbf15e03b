import Derived.Test.YthlgjnmfblkegaaDrQ
import Derived.Test.YthlgjnmfblkegaaCsL
import Derived.Test.YthlgjnmfblkegaaLawB
import Derived.IntWalk
import Derived.Test.YthlgjnmfblkegaaFacts
import Derived.Test.YthlgjnmfblkegaaRows
/-
  Costs are ordered: the law FnCompareCosts returns true for whatever draws, and its arguments read as they did. No condition of ours.
-/
set_option linter.unusedVariables false
set_option linter.unusedSimpArgs false
namespace Go.Proofs.Ythlgjnmfblkegaa.lawDCompareCosts
open Go.ChangeShapes Go.WideShapes Go.ChangeAt Go.RowKit P1 Draw6 DrE LawB Cst

theorem cmp_anti (p q r s : Int) : cmpC p q r s = - cmpC r s p q := by unfold cmpC sg; (repeat' split) <;> omega
theorem cmp_zero (p q r s : Int) : cmpC p q r s = 0 ↔ (p = r ∧ q = s) := by unfold cmpC sg; (repeat' split) <;> omega
theorem cmp_le (p q r s : Int) : cmpC p q r s ≤ 0 ↔ (p < r ∨ (p = r ∧ q ≤ s)) := by unfold cmpC sg; (repeat' split) <;> omega
theorem cmp_trans (p q r s t u : Int) (h1 : cmpC p q r s ≤ 0) (h2 : cmpC r s t u ≤ 0) : cmpC p q t u ≤ 0 := by rw [cmp_le] at h1 h2 ⊢; omega

/-- the two cells of a cost in a variable -/
def Cb (W : World) (b : Nat) (u v : Int) : Prop := (W.cell? ⟨b, 0, none⟩ = some (.int .i64 u) ∧ W.cell? ⟨b, 1, none⟩ = some (.int .i64 v)) ∧ b < W.heap.size
theorem Cb.ext {W W' : World} {b : Nat} {u v : Int} (h : Cb W b u v) (k : Ext W W') : Cb W' b u v := ⟨⟨(k.cell h.2).trans h.1.1, (k.cell h.2).trans h.1.2⟩, Nat.lt_of_lt_of_le h.2 k.size⟩
theorem Cb.new (W : World) (u v : Int) (T : TypeId) : Cb (W.alloc (.cells #[.int .i64 u, .int .i64 v] T)) W.heap.size u v := ⟨⟨by rw [World.cell?_alloc_new]; rfl, by rw [World.cell?_alloc_new]; rfl⟩, by simp⟩

theorem keepC {w W W' : World} {A B C : Nat} {p q r s t u : Int} (h : Cb W A p q ∧ Cb W B r s ∧ Cb W C t u ∧ Below w.heap.size w W) (k : Ext W W') : Cb W' A p q ∧ Cb W' B r s ∧ Cb W' C t u ∧ Below w.heap.size w W' :=
  ⟨h.1.ext k, h.2.1.ext k, h.2.2.1.ext k, h.2.2.2.trans (k.mono h.2.2.2.size)⟩

set_option maxRecDepth 100000 in
set_option maxHeartbeats 12800000 in
theorem walk_good (w : World) (a0 : Option Addr) (len0 cap0 : Nat) (hb0 : Bytes w a0 len0) (hlc0 : len0 ≤ cap0) (hcm0 : cap0 ≤ maxLen) (hl0 : len0 ≤ 1048576) (b0 : Option Addr) (lenB capB : Nat) (hbB : Bytes w b0 lenB) (hlcB : lenB ≤ capB) (hcmB : capB ≤ maxLen) (hlB : lenB ≤ 1048576) :
    Calls Try.prog 5 #[.slice a0 len0 cap0, .slice b0 lenB capB] w fun e w' => e = .returned (.bool true) ∧ Below w.heap.size w w' := by
  have HD0 := Lib.hid (fun (W : World) (h : Below w.heap.size w W) => DrQ.drawCC W a0 len0 cap0 (bytes_below hb0 h) hlc0 hcm0)
  have HDB := Lib.hid (fun (W : World) (h : Below w.heap.size w W) => DrQ.drawCC W b0 lenB capB (bytes_below hbB h) hlcB hcmB)
  clear hb0 hbB
  unfold maxLen at hcm0 hcmB
  go_enter Try.func5, Try.ntmps5
  go_wp2_with fail
  refine (HD0.out _ (Below.refl _ _)).mono ?_
  rintro e1 w1 ⟨p, q, r, s, rfl, hp, hq, hr, hs, hb1⟩
  have H1 := Lib.hid (show Below w.heap.size w w1 from hb1)
  clear hb1
  go_wp2_with fail
  obtain ⟨A, hA⟩ : ∃ A, w1.heap.size = A := ⟨_, rfl⟩
  obtain ⟨B, hB⟩ : ∃ B, A + 1 = B := ⟨_, rfl⟩
  obtain ⟨V, hV⟩ : ∃ V, (w1.alloc (.cells #[.int .i64 p, .int .i64 q] 34)).alloc (.cells #[.int .i64 r, .int .i64 s] 34) = V := ⟨_, rfl⟩
  have hV2 : Cb V A p q ∧ Cb V B r s ∧ Below w.heap.size w V := by
    rw [← hV, ← hB, ← hA]
    refine ⟨(Cb.new w1 p q _).ext ((Ext.refl _).alloc _), ?_, (H1.out.alloc H1.out.size _).alloc (by have := H1.out.size; simp; omega) _⟩
    have := Cb.new (w1.alloc (.cells #[.int .i64 p, .int .i64 q] 34)) r s 34
    simpa using this
  have HV := Lib.hid hV2
  rw [hV, hA, hB]
  clear hV hV2 hA hB H1
  refine (HDB.out _ HV.out.2.2).mono ?_
  rintro e1 w2 ⟨t, u, t', u', rfl, ht, hu, ht', hu', hb2⟩
  have hV2 : Cb w2 A p q ∧ Cb w2 B r s ∧ Below w.heap.size w w2 := ⟨HV.out.1.ext hb2, HV.out.2.1.ext hb2, HV.out.2.2.trans (hb2.mono HV.out.2.2.size)⟩
  have HW := Lib.hid hV2
  clear HV hb2 hV2
  obtain ⟨C, hC⟩ : ∃ C, w2.heap.size = C := ⟨_, rfl⟩
  obtain ⟨N, hN⟩ : ∃ N, cmpC p q r s = N := ⟨_, rfl⟩
  obtain ⟨M, hM⟩ : ∃ M, cmpC r s p q = M := ⟨_, rfl⟩
  obtain ⟨X, hX⟩ : ∃ X, cmpC r s t u = X := ⟨_, rfl⟩
  obtain ⟨Y, hY⟩ : ∃ Y, cmpC p q t u = Y := ⟨_, rfl⟩
  have h1 := cmp_anti p q r s
  have h2 := cmp_zero p q r s
  have h3 := cmp_trans p q r s t u
  have h4 := cmpC_bd p q r s
  have hi1 := implCompareCosts p q r s
  have hi2 := specCompareCosts p q r s
  have hi3 := implCompareCosts r s p q
  have hi4 := implCompareCosts r s t u
  have hi5 := implCompareCosts p q t u
  have heq := cost_eq p q r s
  rw [hN] at h1 h2 h3 h4 hi1 hi2
  rw [hM] at h1 hi3
  rw [hX] at h3 hi4
  rw [hY] at h3 hi5
  have hwr : IntKind.i64.wrap (-M) = N := by rw [← h1]; exact IntWalk.i64_in _ ⟨by omega, by omega⟩
  have hee : (decide (p = r) && decide (q = s)) = decide (N = 0) := by
    by_cases hz : N = 0
    · obtain ⟨e1, e2⟩ := h2.1 hz; simp [hz, e1, e2]
    · have : ¬ (p = r ∧ q = s) := fun h => hz (h2.2 h)
      simp [hz]; omega
  rw [hee] at heq
  have HI1 := Lib.hid hi1
  have HI2 := Lib.hid hi2
  have HI3 := Lib.hid hi3
  have HI4 := Lib.hid hi4
  have HI5 := Lib.hid hi5
  have H3 := Lib.hid h3
  have hnn : (N != N) = false := by simp
  clear hi1 hi2 hi3 hi4 hi5 h1 h2 h3 h4 hee hN hM hX hY hp hq hr hs ht hu ht' hu'
  obtain ⟨⟨⟨x0, x1⟩, xa⟩, ⟨⟨x2, x3⟩, xb⟩, _⟩ := HW.out
  rw [hC] at xa xb
  have xa1 : A < C + 1 := by omega
  have xb1 : B < C + 1 := by omega
  go_wp2_with fail
  have hS : Cb (w2.alloc (.cells #[.int .i64 t, .int .i64 u] 34)) C t u := by rw [← hC]; exact Cb.new _ _ _ _
  have hE2 : Ext w2 (w2.alloc (.cells #[.int .i64 t, .int .i64 u] 34)) := (Ext.refl _).alloc _
  have K0 := Lib.hid (show Cb ((w2.alloc (.cells #[.int .i64 t, .int .i64 u] 34)).alloc (.cells #[.int .i64 t', .int .i64 u'] 34)) A p q ∧ Cb ((w2.alloc (.cells #[.int .i64 t, .int .i64 u] 34)).alloc (.cells #[.int .i64 t', .int .i64 u'] 34)) B r s ∧ Cb ((w2.alloc (.cells #[.int .i64 t, .int .i64 u] 34)).alloc (.cells #[.int .i64 t', .int .i64 u'] 34)) C t u ∧ Below w.heap.size w ((w2.alloc (.cells #[.int .i64 t, .int .i64 u] 34)).alloc (.cells #[.int .i64 t', .int .i64 u'] 34)) from
    ⟨HW.out.1.ext (hE2.alloc _), HW.out.2.1.ext (hE2.alloc _), hS.ext ((Ext.refl _).alloc _), HW.out.2.2.trans ((hE2.alloc _).mono HW.out.2.2.size)⟩)
  clear hS hE2 HW x0 x1 xa x2 x3 xb xa1 xb1
  try rw [hC]
  clear hC
  refine (HI1.out _).mono ?_
  rintro e1 w3 ⟨rfl, hb⟩
  have K3 := Lib.hid (keepC K0.out hb)
  obtain ⟨⟨⟨x0, x1⟩, xa⟩, ⟨⟨x2, x3⟩, xb⟩, ⟨⟨x4, x5⟩, xc⟩, _⟩ := K3.out
  clear hb
  go_wp2_with fail
  clear x0 x1 xa x2 x3 xb x4 x5 xc
  refine (HI2.out _).mono ?_
  rintro e1 w4 ⟨rfl, hb⟩
  have K4 := Lib.hid (keepC K3.out hb)
  obtain ⟨⟨⟨x0, x1⟩, xa⟩, ⟨⟨x2, x3⟩, xb⟩, ⟨⟨x4, x5⟩, xc⟩, _⟩ := K4.out
  clear hb
  go_wp2_with fail
  clear x0 x1 xa x2 x3 xb x4 x5 xc
  refine (HI3.out _).mono ?_
  rintro e1 w5 ⟨rfl, hb⟩
  have K5 := Lib.hid (keepC K4.out hb)
  obtain ⟨⟨⟨x0, x1⟩, xa⟩, ⟨⟨x2, x3⟩, xb⟩, ⟨⟨x4, x5⟩, xc⟩, _⟩ := K5.out
  clear hb
  rcases Int.lt_trichotomy N 0 with hn | hn | hn
  · have hn1 : (N == 0) = false := by simp; omega
    have hn2 : decide (N = 0) = false := decide_eq_false (by omega)
    have hn3 : decide (0 < N) = false := decide_eq_false (by omega)
    have hn4 : N ≠ 0 := by omega
    rw [hn2] at heq
    by_cases hX : 0 < X
    · have hXb : decide (0 < X) = true := decide_eq_true hX
      go_wp2_with fail
      clear x0 x1 xa x2 x3 xb x4 x5 xc
      refine (HI4.out _).mono ?_
      rintro e1 w6 ⟨rfl, hb⟩
      have K6 := Lib.hid (keepC K5.out hb)
      obtain ⟨⟨⟨x0, x1⟩, xa⟩, ⟨⟨x2, x3⟩, xb⟩, ⟨⟨x4, x5⟩, xc⟩, _⟩ := K6.out
      clear hb
      go_wp2_with fail
      go_ret
      exact ⟨rfl, K6.out.2.2.2⟩
    · have hXb : decide (0 < X) = false := decide_eq_false hX
      have hY : Y ≤ 0 := H3.out (by omega) (by omega)
      have hYb : decide (Y ≤ 0) = true := decide_eq_true hY
      go_wp2_with fail
      clear x0 x1 xa x2 x3 xb x4 x5 xc
      refine (HI4.out _).mono ?_
      rintro e1 w6 ⟨rfl, hb⟩
      have K6 := Lib.hid (keepC K5.out hb)
      obtain ⟨⟨⟨x0, x1⟩, xa⟩, ⟨⟨x2, x3⟩, xb⟩, ⟨⟨x4, x5⟩, xc⟩, _⟩ := K6.out
      clear hb
      go_wp2_with fail
      clear x0 x1 xa x2 x3 xb x4 x5 xc
      refine (HI5.out _).mono ?_
      rintro e1 w7 ⟨rfl, hb⟩
      have K7 := Lib.hid (keepC K6.out hb)
      obtain ⟨⟨⟨x0, x1⟩, xa⟩, ⟨⟨x2, x3⟩, xb⟩, ⟨⟨x4, x5⟩, xc⟩, _⟩ := K7.out
      clear hb
      go_wp2_with fail
      go_ret
      exact ⟨rfl, K7.out.2.2.2⟩
  · subst hn
    rw [show decide ((0 : Int) = 0) = true from rfl] at heq
    by_cases hX : 0 < X
    · have hXb : decide (0 < X) = true := decide_eq_true hX
      go_wp2_with fail
      clear x0 x1 xa x2 x3 xb x4 x5 xc
      refine (HI4.out _).mono ?_
      rintro e1 w6 ⟨rfl, hb⟩
      have K6 := Lib.hid (keepC K5.out hb)
      obtain ⟨⟨⟨x0, x1⟩, xa⟩, ⟨⟨x2, x3⟩, xb⟩, ⟨⟨x4, x5⟩, xc⟩, _⟩ := K6.out
      clear hb
      go_wp2_with fail
      go_ret
      exact ⟨rfl, K6.out.2.2.2⟩
    · have hXb : decide (0 < X) = false := decide_eq_false hX
      have hY : Y ≤ 0 := H3.out (by omega) (by omega)
      have hYb : decide (Y ≤ 0) = true := decide_eq_true hY
      go_wp2_with fail
      clear x0 x1 xa x2 x3 xb x4 x5 xc
      refine (HI4.out _).mono ?_
      rintro e1 w6 ⟨rfl, hb⟩
      have K6 := Lib.hid (keepC K5.out hb)
      obtain ⟨⟨⟨x0, x1⟩, xa⟩, ⟨⟨x2, x3⟩, xb⟩, ⟨⟨x4, x5⟩, xc⟩, _⟩ := K6.out
      clear hb
      go_wp2_with fail
      clear x0 x1 xa x2 x3 xb x4 x5 xc
      refine (HI5.out _).mono ?_
      rintro e1 w7 ⟨rfl, hb⟩
      have K7 := Lib.hid (keepC K6.out hb)
      obtain ⟨⟨⟨x0, x1⟩, xa⟩, ⟨⟨x2, x3⟩, xb⟩, ⟨⟨x4, x5⟩, xc⟩, _⟩ := K7.out
      clear hb
      go_wp2_with fail
      go_ret
      exact ⟨rfl, K7.out.2.2.2⟩
  · have hn1 : (N == 0) = false := by simp; omega
    have hn2 : decide (N = 0) = false := decide_eq_false (by omega)
    have hn3 : decide (0 < N) = true := decide_eq_true hn
    have hn4 : N ≠ 0 := by omega
    rw [hn2] at heq
    go_wp2_with fail
    go_ret
    exact ⟨rfl, K5.out.2.2.2⟩

set_option maxHeartbeats 800000 in
theorem walk_big (w : World) (a0 : Option Addr) (len0 cap0 : Nat) (hlc0 : len0 ≤ cap0) (hcm0 : cap0 ≤ maxLen) (b0 : Option Addr) (lenB capB : Nat) (hbig : 1048576 < len0) :
    Calls Try.prog 5 #[.slice a0 len0 cap0, .slice b0 lenB capB] w fun e w' => e = .returned (.bool true) ∧ Below w.heap.size w w' := by
  unfold maxLen at hcm0
  go_enter Try.func5, Try.ntmps5
  go_wp2_with fail
  go_ret
  exact ⟨rfl, Below.refl _ _⟩
set_option maxHeartbeats 800000 in
theorem walk_big2 (w : World) (a0 : Option Addr) (len0 cap0 : Nat) (hlc0 : len0 ≤ cap0) (hcm0 : cap0 ≤ maxLen) (b0 : Option Addr) (lenB capB : Nat) (hlcB : lenB ≤ capB) (hcmB : capB ≤ maxLen) (hl0 : len0 ≤ 1048576) (hbig : 1048576 < lenB) :
    Calls Try.prog 5 #[.slice a0 len0 cap0, .slice b0 lenB capB] w fun e w' => e = .returned (.bool true) ∧ Below w.heap.size w w' := by
  unfold maxLen at hcm0 hcmB
  go_enter Try.func5, Try.ntmps5
  go_wp2_with fail
  go_ret
  exact ⟨rfl, Below.refl _ _⟩

theorem walk (w : World) (a0 : Option Addr) (len0 cap0 : Nat) (hb0 : Bytes w a0 len0) (hlc0 : len0 ≤ cap0) (hcm0 : cap0 ≤ maxLen) (b0 : Option Addr) (lenB capB : Nat) (hbB : Bytes w b0 lenB) (hlcB : lenB ≤ capB) (hcmB : capB ≤ maxLen) :
    Calls Try.prog 5 #[.slice a0 len0 cap0, .slice b0 lenB capB] w fun e w' => e = .returned (.bool true) ∧ Below w.heap.size w w' := by
  by_cases h : 1048576 < len0
  · exact walk_big w a0 len0 cap0 hlc0 hcm0 b0 lenB capB h
  · by_cases h' : 1048576 < lenB
    · exact walk_big2 w a0 len0 cap0 hlc0 hcm0 b0 lenB capB hlcB hcmB (by omega) h'
    · exact walk_good w a0 len0 cap0 hb0 hlc0 hcm0 (by omega) b0 lenB capB hbB hlcB hcmB (by omega)

set_option maxRecDepth 100000 in
theorem lifted (os : Os) (started : os.Started) (H : Type) (enc : TypeId × Value → H) :
    ReturnsInHanded {} Try.checked os 5 .any (Rows.fnCompareCostsSpec.pre6 enc Try.prog Try.f5 Rows.fnCompareCostsRow.domain false) (Rows.fnCompareCostsSpec.post enc Try.prog Try.f5 false true false false) := by
  refine returnsInHanded_of_change (C := Try.checked) Facts.own started (by kernel_rfl) Try.func5
    (ChangeSpec.witness6 (enc := enc) (C := Try.checked) false ⟨#[], #[.slice none 0 0, .slice none 0 0], []⟩ 8 (by kernel_rfl) (by kernel_rfl) (by kernel_rfl) (by kernel_rfl)) ?_
  intro W base args ds gs before hval0 hW hcnd0 _
  clear hcnd0
  have hval : ∀ (j : Nat) t v, Try.f5.params[j]? = some t → args[j]? = some v → Value.okWide Try.prog W .any base t v := hval0
  have hW' := hW
  obtain ⟨p, q, hA0, hV, rfl, hfz, hnd⟩ := hW
  have hA : DataW.TrodAll enc Try.prog W 0 (fun _ => true) true Try.f5.params.toList args.toList ds p := hA0
  rw [Try.params5] at hA hval
  obtain ⟨v0, v1, d0, d1, p0, p1, rfl, rfl, rfl, h0, h1⟩ := trodAll_two hA
  obtain ⟨rfl, rfl⟩ := trodVars_none hV
  obtain ⟨a0, len0, cap0, rfl⟩ := okWide_slice Try.underlying22 (hval 0 22 v0 rfl rfl)
  obtain ⟨b0, lenB, capB, rfl⟩ := okWide_slice Try.underlying22 (hval 1 22 v1 rfl rfl)
  clear hA0 hval0
  simp only [List.append_nil] at hW'
  have hlt : ∀ x ∈ p0 ++ p1, x.block < W.heap.size := fun x hx => by simpa using hW'.lt x hx
  obtain ⟨hb0, hlc0, hcm0⟩ := opened h0
  obtain ⟨hbB, hlcB, hcmB⟩ := opened h1
  refine (walk W a0 len0 cap0 hb0 hlc0 hcm0 b0 lenB capB hbB hlcB hcmB).mono fun e W' ⟨he, hb⟩ => ?_
  subst he
  refine ⟨_, rfl, [d0, d1], [], p0 ++ p1, [], p0 ++ p1, [], hW', trodAll_mk1 (shut_bool Try.underlying4 _), ?_, rfl, hb.frame _, fun h => by cases h⟩
  exact trodAll_mk2 (Below.trod Facts.laidOut (by kernel_rfl) (of_decide_eq_true (by kernel_rfl)) h0 hb (fun x hx => hlt x (List.mem_append_left _ hx))) (Below.trod Facts.laidOut (by kernel_rfl) (of_decide_eq_true (by kernel_rfl)) h1 hb (fun x hx => hlt x (List.mem_append_right _ hx)))

theorem named : Try.prog.funcNamed Rows.fnCompareCostsRow.func = some 5 := by kernel_rfl
theorem closed : joinedFacts Try.prog 5 Try.f5 Rows.fnCompareCostsSpec Rows.fnCompareCostsRow = true :=
  Facts.closed_of rfl rfl rfl rfl (h28b := rfl) (by kernel_rfl) (by kernel_rfl) (by kernel_rfl) (by kernel_rfl) (by kernel_rfl) (by kernel_rfl) (by kernel_rfl) (by kernel_rfl) (by kernel_rfl) (by kernel_rfl) (by kernel_rfl) (by kernel_rfl) (by kernel_rfl) (by kernel_rfl) (by kernel_rfl) (by kernel_rfl) (by kernel_rfl) (by kernel_rfl) (by kernel_rfl) (by kernel_rfl) (by kernel_rfl) (by kernel_rfl) (by kernel_rfl) (by kernel_rfl)
theorem instanced : Try.f5.isInstance Try.prog Rows.fnCompareCostsRow.origin Rows.fnCompareCostsRow.targs := of_decide_eq_true (by kernel_rfl)
theorem wrapped : Try.f5.isWrapper Try.prog Rows.fnCompareCostsRow.wrapper Rows.fnCompareCostsRow.mainSum := by
  unfold Func.isWrapper
  rw [if_neg (of_decide_eq_false (by kernel_rfl))]
  exact ⟨rfl, rfl⟩

theorem holds : Rows.FnCompareCostsSaid :=
  OpenClaim.holds_of_wide 5 Try.f5 rfl rfl rfl rfl rfl rfl rfl ⟨rfl, rfl, rfl, rfl, rfl⟩ rfl rfl rfl rfl rfl named Try.func5 closed instanced wrapped
    (fun os started H enc _ => lifted os started H enc)

end Go.Proofs.Ythlgjnmfblkegaa.lawDCompareCosts

