import Derived.Test.YtpiaiandjnpdfaaChC
import Derived.Test.YtpiaiandjnpdfaaChL
/-
  What ChoiceOf of the program and of the model come to.
-/
set_option linter.unusedVariables false
set_option linter.unusedSimpArgs false
namespace Go.Proofs.Ytpiaiandjnpdfaa.ChO
open Go.RowKit P1 LayL LayV LayM LayN LayC Cnt CntC Wid ChP Tr ChT ChC

theorem valid_parts {o n : Int} {t : ByteArray} {k : F} (h : manyD o n t k = true) : okD 40 o n t k = true ∧ 1 + k.cnt ≤ 80 ∧ ctD o k ≤ 100000 := by
  simp only [manyD, validD, Bool.and_eq_true, decide_eq_true_eq] at h
  exact ⟨h.1.1, h.1.2, h.2⟩

section
variable (w : World) (o n : Int) (t : ByteArray) (k : F) (a : Option Addr) (cap : Nat) (fs : List Nat) (i : Int)

set_option maxRecDepth 100000 in
set_option maxHeartbeats 3200000 in
theorem implChoiceOf (hs : SubAt w a k fs) (hfs : ∀ c ∈ fs, c < w.heap.size ∧ ∀ o, w.frozen? ⟨c, o, none⟩ = false) (hc : k.len ≤ cap) (hsz : t.size + k.size ≤ 2000000) (hft : k.Fits) (ht : t.size ≤ maxLen) :
    Calls Try.prog 19 #[.agg #[.int .i64 o, .int .i64 n, .string t, .slice a k.len cap], .int .i64 i] w (LayRes w (chR o n t k i)) := by
  have B1 := Lib.hid (show ∀ ob, Ext w (w.alloc ob) from fun ob => (Ext.refl w).alloc _)
  have HA := Lib.hid (show ∀ (W : World) ob, Below w.heap.size w W → Below w.heap.size w (W.alloc ob) from fun W ob h => h.alloc h.size ob)
  cases hm : manyD o n t k with
  | false =>
    rw [chR_no (by rw [hm]; simp)]
    have hn := fun (w1 : World) (hw1 : Ext w w1) => choicesN w1 o n t k a cap fs (hs.below (fun c hc => (hfs c hc).1) hw1) (fun c hc => ⟨Nat.lt_of_lt_of_le (hfs c hc).1 hw1.size, fun x => (hw1.frozen (hfs c hc).1).trans ((hfs c hc).2 x)⟩) hc (by omega) hft ht hm
    have HN := Lib.hid hn
    clear hn hm hs hfs hft
    go_enter Try.func19, Try.ntmps19
    go_wp2_with fail
    refine (HN.out _ (B1.out _)).mono ?_
    rintro e2 w2 ⟨ox, nx, tx, ax, lx, cx, xx, yx, ax', lx', cx', rfl, hb2⟩
    have HB := Lib.hid ((B1.out _).trans hb2)
    clear hb2
    go_wp2_with fail
    go_ret2
    exact LayRes.none' (HA.out _ _ HB.out)
  | true =>
    obtain ⟨hv, hcnt, hct⟩ := valid_parts hm
    have hn := fun (w1 : World) (hw1 : Ext w w1) => choicesY w1 o n t k a cap fs (hs.below (fun c hc => (hfs c hc).1) hw1) (fun c hc => ⟨Nat.lt_of_lt_of_le (hfs c hc).1 hw1.size, fun x => (hw1.frozen (hfs c hc).1).trans ((hfs c hc).2 x)⟩) hc (by omega) hft ht hm
    have HN := Lib.hid hn
    by_cases hi0 : i < 0
    · rw [chR_no (by omega)]
      clear hn hm hs hfs hft hv
      go_enter Try.func19, Try.ntmps19
      go_wp2_with fail
      refine (HN.out _ (B1.out _)).mono ?_
      rintro e2 w2 ⟨a', c', rfl, ht2, hb2⟩
      have HB := Lib.hid ((B1.out _).trans hb2)
      clear hb2 ht2
      go_wp2_with fail
      go_ret2
      exact LayRes.none' (HA.out _ _ HB.out)
    · by_cases hi1 : i < (ctD o k : Int)
      · rw [chR_yes hm (by omega) hi1]
        obtain ⟨j, rfl⟩ : ∃ j : Nat, i = (j : Int) := ⟨i.toNat, by omega⟩
        have hj : j < ctD o k := by omega
        have hlay := fun (W : World) (b : Nat) (h : ChL.At W b 0 o n t k) => ChL.layS_all 40 (by omega) o n t k hv hcnt hsz hct j hj W b 0 h
        have HL := Lib.hid hlay
        have hdoc := fun (W : World) (hW : Ext w W) => (show DocIn (fun _ => True) W k a cap from ⟨hc, fs, hs.below (fun c hc => (hfs c hc).1) hW, fun c hc => ⟨trivial, Nat.lt_of_lt_of_le (hfs c hc).1 hW.size, fun x => (hW.frozen (hfs c hc).1).trans ((hfs c hc).2 x)⟩⟩)
        have HD := Lib.hid hdoc
        rw [show ((j : Nat) : Int).toNat = j from rfl]
        obtain ⟨X, hX⟩ : ∃ X, pkD o n t k j = X := ⟨_, rfl⟩
        rw [hX] at HL ⊢
        obtain ⟨N, hN⟩ : ∃ N, ctD o k = N := ⟨_, rfl⟩
        have hjN : (j : Int) < (N : Int) := by omega
        have HNN := Lib.hid hN
        clear hn hm hs hfs hft hv hX hlay hdoc hi0 hi1 hj hct hN
        go_enter Try.func19, Try.ntmps19
        go_wp2_with fail
        refine (HN.out _ (B1.out _)).mono ?_
        rintro e2 w2 ⟨a', c', rfl, ht2, hb2⟩
        rw [HNN.out]
        have hBw : Ext w w2 := (B1.out _).trans hb2
        obtain ⟨hd, hhd⟩ : ∃ hd, (!noD o k) = hd := ⟨_, rfl⟩
        rw [hhd]
        go_wp2_with fail
        obtain ⟨V, hV⟩ : ∃ V, w2.alloc (.cells #[.int .i64 o, .int .i64 n, .string t, .slice a k.len cap, .int .i64 (N : Int), .bool hd, .slice a' k.len c'] 70) = V := ⟨_, rfl⟩
        have hBV : Ext w V := by rw [← hV]; exact hBw.alloc _
        have q0 : V.cell? ⟨w2.heap.size, 0, none⟩ = some (.int .i64 o) := by rw [← hV, World.cell?_alloc_new]; rfl
        have q1 : V.cell? ⟨w2.heap.size, 1, none⟩ = some (.int .i64 n) := by rw [← hV, World.cell?_alloc_new]; rfl
        have q2 : V.cell? ⟨w2.heap.size, 2, none⟩ = some (.string t) := by rw [← hV, World.cell?_alloc_new]; rfl
        have q3 : V.cell? ⟨w2.heap.size, 3, none⟩ = some (.slice a k.len cap) := by rw [← hV, World.cell?_alloc_new]; rfl
        have q4 : V.cell? ⟨w2.heap.size, 4, none⟩ = some (.int .i64 (N : Int)) := by rw [← hV, World.cell?_alloc_new]; rfl
        have q5 : V.cell? ⟨w2.heap.size, 5, none⟩ = some (.bool hd) := by rw [← hV, World.cell?_alloc_new]; rfl
        have q6 : V.cell? ⟨w2.heap.size, 6, none⟩ = some (.slice a' k.len c') := by rw [← hV, World.cell?_alloc_new]; rfl
        have lq : w2.heap.size < V.heap.size := by rw [← hV]; simp
        have htV : TreeSub (fun _ => True) V a' k := by rw [← hV]; exact ht2.stay (Stay.below ((Below.refl _ _).alloc (Nat.le_refl _) _))
        have hat : ChL.At V w2.heap.size 0 o n t k := ⟨lq, a, cap, a', c', ⟨q0, q1, q2, q3, by rw [HNN.out]; exact q4, by rw [hhd]; exact q5, q6⟩, HD.out V hBV, htV⟩
        have HAT := Lib.hid (And.intro hat hBV)
        rw [hV]
        clear hV hBV htV hat hb2 ht2 hBw hhd
        go_wp2_with fail
        refine (HL.out _ _ HAT.out.1).mono ?_
        rintro e3 w3 ⟨a3, c3, f3, rfl, hc3, hs3, hf3, hb3⟩
        have H3 := Lib.hid (And.intro hc3 (And.intro hs3 (And.intro (hf3.mono HAT.out.2.size) (HAT.out.2.trans hb3))))
        clear hc3 hs3 hf3 hb3 q0 q1 q2 q3 q4 q5 q6 lq
        go_wp2_with fail
        go_ret2
        exact ⟨a3, c3, f3, rfl, H3.out.1, H3.out.2.1, H3.out.2.2.1, H3.out.2.2.2⟩
      · rw [chR_no (by omega)]
        obtain ⟨N, hN⟩ : ∃ N, ctD o k = N := ⟨_, rfl⟩
        have hjN : (N : Int) ≤ i := by omega
        have hi2 : 0 ≤ i := by omega
        have HNN := Lib.hid hN
        clear hn hm hs hfs hft hv hN hi1 hct
        go_enter Try.func19, Try.ntmps19
        go_wp2_with fail
        refine (HN.out _ (B1.out _)).mono ?_
        rintro e2 w2 ⟨a', c', rfl, ht2, hb2⟩
        rw [HNN.out]
        have HB := Lib.hid ((B1.out _).trans hb2)
        clear hb2 ht2
        go_wp2_with fail
        go_ret2
        exact LayRes.none' (HA.out _ _ HB.out)

end

theorem chR_good (o n : Int) (t : ByteArray) (k : F) (i : Int) : (chR o n t k i).1 = [] ∨ lv (chR o n t k i).1 = true := by
  unfold chR
  split
  · rename_i h
    have hv : validD o n t k = true := by have := h.1; simp only [manyD, Bool.and_eq_true] at this; exact this.1
    exact .inr (pick_lv hv _)
  · exact .inl rfl
theorem chR_len (o n : Int) (t : ByteArray) (k : F) (i : Int) : (chR o n t k i).1.length ≤ 1048576 := by
  rcases chR_good o n t k i with h | h
  · rw [h]; simp
  · have := lv_len h; omega

end Go.Proofs.Ytpiaiandjnpdfaa.ChO

