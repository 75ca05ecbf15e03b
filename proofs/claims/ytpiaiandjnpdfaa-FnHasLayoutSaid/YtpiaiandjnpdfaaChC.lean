import Derived.Test.YtpiaiandjnpdfaaChU
import Derived.Test.YtpiaiandjnpdfaaChS
import Derived.Test.YtpiaiandjnpdfaaSpV
/-
  What choicesOf and CountChoices of the program come to.
-/
set_option linter.unusedVariables false
set_option linter.unusedSimpArgs false
namespace Go.Proofs.Ytpiaiandjnpdfaa.ChC
open Go.RowKit P1 Cnt CntC Wid ChP Tr ChT

/-- the tree of a document with not too many choices -/
def ChY (w : World) (o n : Int) (t : ByteArray) (k : F) (a : Option Addr) (cap : Nat) (e : Ending) (w' : World) : Prop := ∃ (a' : Option Addr) (cap' : Nat), e = .returned (.tuple #[.agg #[.int .i64 o, .int .i64 n, .string t, .slice a k.len cap, .int .i64 (ctD o k : Int), .bool (!noD o k), .slice a' k.len cap'], .bool true]) ∧ TreeSub (fun _ => True) w' a' k ∧ Below w.heap.size w w'

/-- the result's variable, laid -/
theorem res_new (w : World) (T1 T2 : TypeId) (C : Array Value) : Root ((w.alloc (.cells C T1)).alloc (.cells #[.int .i64 0, .int .i64 0, .string ⟨#[]⟩, .slice none 0 0, .int .i64 0, .bool false, .slice none 0 0] T2)) (w.heap.size + 1) 0 0 ⟨#[]⟩ none 0 0 0 false none 0 0 ∧ Loose ((w.alloc (.cells C T1)).alloc (.cells #[.int .i64 0, .int .i64 0, .string ⟨#[]⟩, .slice none 0 0, .int .i64 0, .bool false, .slice none 0 0] T2)) (w.heap.size + 1) ∧ w.heap.size + 1 < ((w.alloc (.cells C T1)).alloc (.cells #[.int .i64 0, .int .i64 0, .string ⟨#[]⟩, .slice none 0 0, .int .i64 0, .bool false, .slice none 0 0] T2)).heap.size := by
  have e1 : (w.alloc (.cells C T1)).heap.size = w.heap.size + 1 := by simp
  refine ⟨?_, ?_, by simp⟩
  · rw [← e1]; exact Root.new _ _ _ _ _ _ _ _ _ _ _ _ _
  · rw [← e1]; exact Loose.new _ _ _
theorem res_later {W W' : World} {b : Nat} (h : Root W b 0 0 ⟨#[]⟩ none 0 0 0 false none 0 0 ∧ Loose W b ∧ b < W.heap.size) (k : Ext W W') : Root W' b 0 0 ⟨#[]⟩ none 0 0 0 false none 0 0 ∧ Loose W' b ∧ b < W'.heap.size :=
  ⟨h.1.cong (fun i => k.cell h.2.2), h.2.1.cong (fun i => k.frozen h.2.2), Nat.lt_of_lt_of_le h.2.2 k.size⟩

section
variable (w : World) (o n : Int) (t : ByteArray) (k : F) (a : Option Addr) (cap : Nat) (fs : List Nat)

set_option maxRecDepth 100000 in
set_option maxHeartbeats 3200000 in
theorem choicesN (hs : SubAt w a k fs) (hfs : ∀ c ∈ fs, c < w.heap.size ∧ ∀ o, w.frozen? ⟨c, o, none⟩ = false) (hc : k.len ≤ cap) (hsz : t.size + k.size ≤ 2097152) (hft : k.Fits) (ht : t.size ≤ maxLen) (hm : manyD o n t k = false) :
    Calls Try.prog 53 #[.agg #[.int .i64 o, .int .i64 n, .string t, .slice a k.len cap]] w (PartN w) := by
  have hl : k.len ≤ maxLen := by have := F.len_le_size k; unfold maxLen; omega
  have B1 := Lib.hid (show ∀ ob ob', Ext w ((w.alloc ob).alloc ob') from fun ob ob' => ((Ext.refl w).alloc _).alloc _)
  have hi := fun (w1 : World) (hw1 : Ext w w1) => PartV.docValid w1 o n t k a cap fs (hs.below (fun c hc => (hfs c hc).1) hw1) (fun c hc => Nat.lt_of_lt_of_le (hfs c hc).1 hw1.size) hc hl hft ht
  cases hk : validD o n t k with
  | false =>
    rw [hk] at hi
    have HI := Lib.hid hi
    clear hi hk hs hfs hft hm
    go_enter Try.func53, Try.ntmps53
    go_wp2_with fail
    refine (HI.out _ (B1.out _ _)).mono ?_
    rintro e1 w1 ⟨rfl, hb1⟩
    obtain ⟨⟨s0, s1, s2, s3, s4, s5, s6⟩, ⟨m0, m1, m2, m3, m4, m5, m6⟩, lb⟩ := res_later (res_new w _ _ _) hb1
    have HB := Lib.hid ((B1.out _ _).trans hb1)
    clear hb1
    go_wp2_with fail
    refine bodyPost_ret (v := .tuple #[.agg #[.int .i64 0, .int .i64 0, .string ⟨#[]⟩, .slice none 0 0, .int .i64 0, .bool false, .slice none 0 0], .bool false]) (by simp [results, Try.results53, go_sem, s0, s1, s2, s3, s4, s5, s6]) rfl ?_
    refine ⟨_, _, _, _, _, _, _, _, _, _, _, rfl, ?_⟩
    have hx1 : w.heap.size ≤ w.heap.size + 1 := by omega
    repeat (first | (with_reducible refine Below.drew ?_) | (with_reducible refine Below.setCell ?_ hx1 _))
    exact HB.out
  | true =>
    rw [hk] at hi
    have hct : ¬ ctD o k ≤ 100000 := by
      intro h
      rw [manyD, hk] at hm
      simp [h] at hm
    have hv : okD 40 o n t k = true := by simp only [validD, Bool.and_eq_true] at hk; exact hk.1
    have hp := fun (w1 : World) (hw1 : Ext w w1) => (partS_all 40 w.heap.size o n t k hv w1 a cap fs (hs.below (fun c hc => (hfs c hc).1) hw1) (fun c hc => ⟨(hfs c hc).1, fun x => (hw1.frozen (hfs c hc).1).trans ((hfs c hc).2 x)⟩) hw1.size hc).mono (fun e w' h => h.2 hct)
    have HI := Lib.hid hi
    have HP := Lib.hid hp
    clear hi hk hs hfs hft hm hct hv hp
    go_enter Try.func53, Try.ntmps53
    go_wp2_with fail
    refine (HI.out _ (B1.out _ _)).mono ?_
    rintro e1 w1 ⟨rfl, hb1⟩
    have hr1 := res_later (res_new w _ _ _) hb1
    have hbx : w1.cell? ⟨w.heap.size, 0, none⟩ = some (.int .i64 o) ∧ w1.cell? ⟨w.heap.size, 1, none⟩ = some (.int .i64 n) ∧ w1.cell? ⟨w.heap.size, 2, none⟩ = some (.string t) ∧ w1.cell? ⟨w.heap.size, 3, none⟩ = some (.slice a k.len cap) := by
      refine ⟨?_, ?_, ?_, ?_⟩
      all_goals (rw [Below.cell (p := ⟨_, _, _⟩) hb1 (by simp; omega)]; simp)
    obtain ⟨x0, x1, x2, x3⟩ := hbx
    have HB := Lib.hid (And.intro ((B1.out _ _).trans hb1) hr1)
    clear hb1 hr1
    go_wp2_with fail
    refine (HP.out _ HB.out.1).mono ?_
    rintro e2 w2 ⟨ox, nx, tx, ax, lx, cx, xx, yx, ax', lx', cx', rfl, hb2⟩
    obtain ⟨⟨s0, s1, s2, s3, s4, s5, s6⟩, ⟨m0, m1, m2, m3, m4, m5, m6⟩, lb⟩ := res_later HB.out.2 hb2
    have HB2 := Lib.hid (HB.out.1.trans hb2)
    clear hb2 x0 x1 x2 x3
    go_wp2_with fail
    refine bodyPost_ret (v := .tuple #[.agg #[.int .i64 ox, .int .i64 nx, .string tx, .slice ax lx cx, .int .i64 xx, .bool yx, .slice ax' lx' cx'], .bool false]) (by simp [results, Try.results53, go_sem, s0, s1, s2, s3, s4, s5, s6]) rfl ?_
    refine ⟨_, _, _, _, _, _, _, _, _, _, _, rfl, ?_⟩
    have hx1 : w.heap.size ≤ w.heap.size + 1 := by omega
    repeat (first | (with_reducible refine Below.drew ?_) | (with_reducible refine Below.setCell ?_ hx1 _))
    exact HB2.out

set_option maxRecDepth 100000 in
set_option maxHeartbeats 3200000 in
theorem choicesY (hs : SubAt w a k fs) (hfs : ∀ c ∈ fs, c < w.heap.size ∧ ∀ o, w.frozen? ⟨c, o, none⟩ = false) (hc : k.len ≤ cap) (hsz : t.size + k.size ≤ 2097152) (hft : k.Fits) (ht : t.size ≤ maxLen) (hm : manyD o n t k = true) :
    Calls Try.prog 53 #[.agg #[.int .i64 o, .int .i64 n, .string t, .slice a k.len cap]] w (ChY w o n t k a cap) := by
  have hl : k.len ≤ maxLen := by have := F.len_le_size k; unfold maxLen; omega
  have B1 := Lib.hid (show ∀ ob ob', Ext w ((w.alloc ob).alloc ob') from fun ob ob' => ((Ext.refl w).alloc _).alloc _)
  simp only [manyD, Bool.and_eq_true, decide_eq_true_eq] at hm
  obtain ⟨hk, hct⟩ := hm
  have hi := fun (w1 : World) (hw1 : Ext w w1) => PartV.docValid w1 o n t k a cap fs (hs.below (fun c hc => (hfs c hc).1) hw1) (fun c hc => Nat.lt_of_lt_of_le (hfs c hc).1 hw1.size) hc hl hft ht
  rw [hk] at hi
  have hv : okD 40 o n t k = true := by simp only [validD, Bool.and_eq_true] at hk; exact hk.1
  have hp := fun (w1 : World) (hw1 : Ext w w1) => (partS_all 40 w.heap.size o n t k hv w1 a cap fs (hs.below (fun c hc => (hfs c hc).1) hw1) (fun c hc => ⟨(hfs c hc).1, fun x => (hw1.frozen (hfs c hc).1).trans ((hfs c hc).2 x)⟩) hw1.size hc).mono (fun e w' h => h.1 hct)
  have HI := Lib.hid hi
  have HP := Lib.hid hp
  clear hi hk hs hfs hft hct hv hp
  go_enter Try.func53, Try.ntmps53
  go_wp2_with fail
  refine (HI.out _ (B1.out _ _)).mono ?_
  rintro e1 w1 ⟨rfl, hb1⟩
  have hr1 := res_later (res_new w _ _ _) hb1
  have hbx : w1.cell? ⟨w.heap.size, 0, none⟩ = some (.int .i64 o) ∧ w1.cell? ⟨w.heap.size, 1, none⟩ = some (.int .i64 n) ∧ w1.cell? ⟨w.heap.size, 2, none⟩ = some (.string t) ∧ w1.cell? ⟨w.heap.size, 3, none⟩ = some (.slice a k.len cap) := by
    refine ⟨?_, ?_, ?_, ?_⟩
    all_goals (rw [Below.cell (p := ⟨_, _, _⟩) hb1 (by simp; omega)]; simp)
  obtain ⟨x0, x1, x2, x3⟩ := hbx
  have HB := Lib.hid (And.intro ((B1.out _ _).trans hb1) hr1)
  clear hb1 hr1
  go_wp2_with fail
  refine (HP.out _ HB.out.1).mono ?_
  rintro e2 w2 ⟨a', c', rfl, ht2, hb2⟩
  obtain ⟨⟨s0, s1, s2, s3, s4, s5, s6⟩, ⟨m0, m1, m2, m3, m4, m5, m6⟩, lb⟩ := res_later HB.out.2 hb2
  have hx1 : ∀ c, (c < w.heap.size ∨ w1.heap.size ≤ c) → c ≠ w.heap.size + 1 := fun c hc => by have := HB.out.2.2.2; omega
  have HB2 := Lib.hid (And.intro (HB.out.1.trans hb2) (And.intro ht2 hx1))
  clear hb2 x0 x1 x2 x3 ht2 hx1
  go_wp2_with fail
  refine bodyPost_ret (v := .tuple #[.agg #[.int .i64 o, .int .i64 n, .string t, .slice a k.len cap, .int .i64 (ctD o k : Int), .bool (!noD o k), .slice a' k.len c'], .bool true]) (by simp [results, Try.results53, go_sem, s0, s1, s2, s3, s4, s5, s6]) rfl ?_
  have hx1 : w.heap.size ≤ w.heap.size + 1 := by omega
  have hx2 := HB2.out.2.2
  refine ⟨a', c', rfl, (HB2.out.2.1.stay (D' := fun c => c < w.heap.size ∨ w1.heap.size ≤ c) ?_).stay (Stay.imp _ (fun _ _ _ => trivial)), ?_⟩
  · repeat (first | (with_reducible refine Stay.drew ?_) | (with_reducible refine Stay.setCell ?_ hx2))
    exact Stay.refl _ _
  · repeat (first | (with_reducible refine Below.drew ?_) | (with_reducible refine Below.setCell ?_ hx1 _))
    exact HB2.out.1

set_option maxRecDepth 100000 in
set_option maxHeartbeats 1600000 in
theorem implCountChoices (hs : SubAt w a k fs) (hfs : ∀ c ∈ fs, c < w.heap.size ∧ ∀ o, w.frozen? ⟨c, o, none⟩ = false) (hc : k.len ≤ cap) (hsz : t.size + k.size ≤ 2097152) (hft : k.Fits) (ht : t.size ≤ maxLen) :
    Calls Try.prog 18 #[.agg #[.int .i64 o, .int .i64 n, .string t, .slice a k.len cap]] w fun e w' => e = .returned (.tuple #[.int .i64 (ChS.ccN o n t k), .bool (manyD o n t k)]) ∧ Below w.heap.size w w' := by
  have B1 := Lib.hid (show ∀ ob, Ext w (w.alloc ob) from fun ob => (Ext.refl w).alloc _)
  cases hm : manyD o n t k with
  | false =>
    have hn := fun (w1 : World) (hw1 : Ext w w1) => choicesN w1 o n t k a cap fs (hs.below (fun c hc => (hfs c hc).1) hw1) (fun c hc => ⟨Nat.lt_of_lt_of_le (hfs c hc).1 hw1.size, fun x => (hw1.frozen (hfs c hc).1).trans ((hfs c hc).2 x)⟩) hc hsz hft ht hm
    have HT := Lib.hid (show ChS.ccN o n t k = 0 by simp [ChS.ccN, hm])
    have HN := Lib.hid hn
    clear hn hm hs hfs hft
    go_enter Try.func18, Try.ntmps18
    go_wp2_with fail
    refine (HN.out _ (B1.out _)).mono ?_
    rintro e2 w2 ⟨ox, nx, tx, ax, lx, cx, xx, yx, ax', lx', cx', rfl, hb2⟩
    have HB := Lib.hid ((B1.out _).trans hb2)
    clear hb2
    go_wp2_with fail
    go_ret2
    exact ⟨by rw [HT.out]; rfl, HB.out.alloc _⟩
  | true =>
    have hn := fun (w1 : World) (hw1 : Ext w w1) => choicesY w1 o n t k a cap fs (hs.below (fun c hc => (hfs c hc).1) hw1) (fun c hc => ⟨Nat.lt_of_lt_of_le (hfs c hc).1 hw1.size, fun x => (hw1.frozen (hfs c hc).1).trans ((hfs c hc).2 x)⟩) hc hsz hft ht hm
    have HT := Lib.hid (show ChS.ccN o n t k = (ctD o k : Int) by simp [ChS.ccN, hm])
    have HN := Lib.hid hn
    clear hn hm hs hfs hft
    go_enter Try.func18, Try.ntmps18
    go_wp2_with fail
    refine (HN.out _ (B1.out _)).mono ?_
    rintro e2 w2 ⟨a', c', rfl, ht2, hb2⟩
    have HB := Lib.hid ((B1.out _).trans hb2)
    clear hb2 ht2
    go_wp2_with fail
    go_ret2
    exact ⟨by rw [HT.out]; rfl, HB.out.alloc _⟩
end

end Go.Proofs.Ytpiaiandjnpdfaa.ChC

