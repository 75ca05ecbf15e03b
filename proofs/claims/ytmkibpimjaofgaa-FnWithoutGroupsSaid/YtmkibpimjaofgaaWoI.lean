import Derived.Test.YtmkibpimjaofgaaNfB
import Derived.Test.YtmkibpimjaofgaaWo0
/-
  WithoutGroups of the program: the rule, the pass, the function.
-/
set_option linter.unusedVariables false
set_option linter.unusedSimpArgs false
namespace Go.Proofs.Ytmkibpimjaofgaa.Nf
open Go.RowKit P1 Copy CatD

set_option maxRecDepth 100000 in
set_option maxHeartbeats 1600000 in
theorem wo_g (lo : Nat) (W : World) (d1 : D) (n : Int) (t : ByteArray) (a : Option Addr) (cap : Nat) (fs : List Nat)  (hs : SubAt W a (consD d1 .nil) fs) (hF : Fresh lo W fs) (hc : ((consD d1 .nil)).len ≤ cap) :
    Calls Try.prog 116 #[.agg #[.int .i64 8, .int .i64 n, .string t, .slice a ((consD d1 .nil)).len cap]] W (RuleOut lo W (d1)) := by
  obtain ⟨o1, n1, t1, k1⟩ := d1
  simp only [consD] at hs hc ⊢
  have hl2 : (F.cons o1 n1 t1 k1 .nil).len = 1 := rfl
  rw [hl2] at hc ⊢
  have HS0 := Lib.hid (And.intro hs hF)
  obtain ⟨b, off, f', rfl, hb, hrow, hF'⟩ := sub_row hs hF
  obtain ⟨a1, c1, f1, f2, x0, x1, x2, x3, x4, hs1, hF1, hr2, hF2⟩ := row_first hrow hF'
  obtain ⟨L1, hL1⟩ : ∃ L, k1.len = L := ⟨_, rfl⟩
  rw [hL1] at x3
  have HQ := Lib.hid (And.intro hs1 (And.intro hF1 (And.intro x4 hL1)))
  clear hs hF hrow hF' hs1 hF1 hr2 hF2 x4 hL1
  go_enter Try.func116, Try.ntmps116
  go_wp2_with fail
  refine bodyPost_ret (v := .agg #[.int .i64 o1, .int .i64 n1, .string t1, .slice a1 L1 c1]) (by simp [results, Try.results116, go_sem]) rfl ?_
  obtain ⟨hs1, hF1, x4, hL1⟩ := HQ.out
  rw [← hL1]
  exact rule_end (d := (o1, n1, t1, k1)) (by repeat (first | exact Below.refl _ _ | refine Below.alloc ?_ (by simp) _ | refine Below.setCell ?_ (by simp) _)) hs1 hF1 x4

set_option maxRecDepth 100000 in
set_option maxHeartbeats 1600000 in
theorem wo_h (lo : Nat) (W : World) (o : Int) (k : F) (n : Int) (t : ByteArray) (a : Option Addr) (cap : Nat) (fs : List Nat) (h8 : o ≠ 8) (hs : SubAt W a k fs) (hF : Fresh lo W fs) (hc : (k).len ≤ cap) :
    Calls Try.prog 116 #[.agg #[.int .i64 o, .int .i64 n, .string t, .slice a (k).len cap]] W (RuleOut lo W (o, n, t, k)) := by
  obtain ⟨L, hL⟩ : ∃ L, k.len = L := ⟨_, rfl⟩
  have HQ := Lib.hid (And.intro hs (And.intro hF (And.intro hc hL)))
  rw [hL]
  clear hs hF hc hL
  have q8 : (o == 8) = false := by rw [beq_eq_false_iff_ne]; exact h8
  go_enter Try.func116, Try.ntmps116
  go_wp2_with fail
  refine bodyPost_ret (v := .agg #[.int .i64 o, .int .i64 n, .string t, .slice a L cap]) (by simp [results, Try.results116, go_sem]) rfl ?_
  obtain ⟨hs, hF, hc, hL⟩ := HQ.out
  rw [← hL]
  exact rule_end (d := (o, n, t, k)) (by repeat (first | exact Below.refl _ _ | refine Below.alloc ?_ (by simp) _ | refine Below.setCell ?_ (by simp) _)) hs hF hc

theorem wo_fn : RuleFn 116 #[] woR := by
  refine ⟨enters_of Try.func116 (by kernel_rfl) rfl, wo_keep, fun lo W o n t k a cap fs hn hcnt hs hF hc hlo => ?_⟩
  show Calls Try.prog 116 #[.agg #[.int .i64 o, .int .i64 n, .string t, .slice a k.len cap]] W _
  by_cases h8 : o = 8
  · obtain ⟨d1, rfl⟩ := kids_one hn (Or.inr h8)
    subst h8
    rw [show woR 8 n t (consD d1 .nil) = d1 by unfold woR; rw [if_pos rfl]; rfl]
    exact wo_g lo W d1 n t a cap fs hs hF hc
  · rw [show woR o n t k = (o, n, t, k) by unfold woR; rw [if_neg h8]]
    exact wo_h lo W o k n t a cap fs h8 hs hF hc
theorem wo_nice {o n : Int} {t : ByteArray} {k : F} (h : niceD (o, n, t, k) = true) : niceD (chD woR o n t k) = true ∧ (chD woR o n t k).2.2.2.cnt ≤ k.cnt := by
  obtain ⟨h1, h2, _⟩ := wo_doc h
  exact ⟨h1, by have e : (chD woR o n t k).2.2.2.cnt = (woD (o, n, t, k)).2.2.2.cnt := rfl; have : ((o, n, t, k) : D).2.2.2.cnt = k.cnt := rfl; omega⟩

set_option maxRecDepth 100000 in
set_option maxHeartbeats 1600000 in
theorem wo_pass (o n : Int) (t : ByteArray) (k : F) (hn : niceD (o, n, t, k) = true) (hcnt : k.cnt ≤ 10000) : PassAt 67 (o, n, t, k) (chD woR o n t k) := by
  refine ⟨enters_of Try.func67 (by kernel_rfl) rfl, fun W a cap fs hs hfs hc => ?_⟩
  show Calls Try.prog 67 #[.agg #[.int .i64 o, .int .i64 n, .string t, .slice a k.len cap]] W _
  have hd := fun (W1 : World) (h1 : Ext W W1) => changeNodes wo_fn W1 o n t k hn hcnt a cap fs (h1.sub hs (fun c hc => (hfs c hc).1)) (fun c hc => Nat.lt_of_lt_of_le (hfs c hc).1 h1.size) hc
  obtain ⟨⟨o2, n2, t2, k2⟩, hφ⟩ : ∃ d : D, chD woR o n t k = d := ⟨_, rfl⟩
  rw [hφ] at hd ⊢
  have HD := Lib.hid hd
  have HE := Lib.hid (show ∀ x y, Ext W ((W.alloc x).alloc y) from fun x y => ((Ext.refl W).alloc x).alloc y)
  have HZ := Lib.hid (fun x => zbox_second W x 29)
  obtain ⟨L, hL⟩ : ∃ L, k.len = L := ⟨_, rfl⟩
  rw [hL] at HD ⊢
  clear hd hs hfs hc hn hcnt hφ hL
  go_enter Try.func67, Try.ntmps67
  go_wp2_with fail
  refine (HD.out _ (HE.out _ _)).mono ?_
  rintro e1 w1 ⟨a2, cap2, f2, rfl, hc2, hs2, hfr2, hb2⟩
  simp only at hc2 hs2 ⊢
  obtain ⟨⟨z0, z1, z2, z3⟩, ⟨z4, z5, z6, z7⟩, z8⟩ := (HZ.out _).ext hb2
  have H2 := Lib.hid (And.intro hc2 (And.intro hs2 (And.intro hfr2 hb2)))
  clear hc2 hs2 hfr2 hb2
  go_wp2_with fail
  refine bodyPost_ret (v := .agg #[.int .i64 o2, .int .i64 n2, .string t2, .slice a2 k2.len cap2]) (by simp [results, Try.results67, go_sem, z0, z1, z2, z3, z4, z5, z6, z7, z8]) rfl ?_
  obtain ⟨hc2, hs2, hfr2, hb2⟩ := H2.out
  refine end_new2 (lo := W.heap.size + 1) (hi := W.heap.size + 2) hs2 (hfr2.mono (lo' := W.heap.size + 2) (by simp)) hc2 (Nat.le_refl _) (by omega) (by omega) (Below.trans (HE.out _ _) (hb2.mono (by simp; omega))) ?_
  repeat (first | exact Touch.refl _ _ _ | refine Touch.setCell ?_ (by simp) (by simp) _)

def woRes (o n : Int) (t : ByteArray) (k : F) : Bool × D := chR (o, n, t, k) (chD woR o n t k)

set_option maxRecDepth 100000 in
set_option maxHeartbeats 1600000 in
theorem implWithoutGroups (w : World) (o n : Int) (t : ByteArray) (k : F) (a : Option Addr) (cap : Nat) (fs : List Nat) (hs : SubAt w a k fs) (hfs : ∀ c ∈ fs, c < w.heap.size ∧ ∀ o, w.frozen? ⟨c, o, none⟩ = false) (hc : k.len ≤ cap) (hle : t.size + k.size ≤ 1048576) :
    Calls Try.prog 22 #[.agg #[.int .i64 o, .int .i64 n, .string t, .slice a k.len cap]] w (DocRes w (woRes o n t k)) := by
  have hpass : validD o n t k = true → PassAt 67 (o, n, t, k) (chD woR o n t k) := fun hv => wo_pass o n t k (valid_nice hv).1 (by have := (valid_nice hv).2.2; omega)
  have hfit : validD o n t k = true → (chD woR o n t k).2.2.2.size ≤ 1048576 ∧ (chD woR o n t k).2.2.1.size ≤ 1048576 := fun hv => nice_fit (wo_nice (valid_nice hv).1).1 (by have := (wo_nice (valid_nice hv).1).2; have := (valid_nice hv).2.2; omega)
  have hd := fun (W : World) (e : Ext w W) (bp : Nat) (hb : bp < W.heap.size) (hcell : W.cell? ⟨bp, 0, none⟩ = some (.func (.func 67) #[] #[])) => changed W o n t k a cap fs (e.sub hs (fun c hc => (hfs c hc).1)) (fun c hc => Nat.lt_of_lt_of_le (hfs c hc).1 e.size) hc hle [(67, chD woR o n t k)] bp 1 hb (fun j hj => by have e : j = 0 := (by simpa using hj); subst e; exact hcell) (Nat.le_refl _) (by simp) (fun hv => ⟨hpass hv, trivial⟩) hfit
  obtain ⟨⟨ok, o2, n2, t2, k2⟩, hR⟩ : ∃ R, woRes o n t k = R := ⟨_, rfl⟩
  rw [hR]
  rw [show chR (o, n, t, k) (lastD [(67, chD woR o n t k)] (o, n, t, k)) = (ok, o2, n2, t2, k2) from hR] at hd
  have HD := Lib.hid hd
  have HE := Lib.hid (show ∀ x y z, Ext w (((w.alloc x).alloc y).alloc z) from fun x y z => (((Ext.refl w).alloc x).alloc y).alloc z)
  have HZ := Lib.hid (fun x => zbox_second w x 29)
  obtain ⟨L, hL⟩ : ∃ L, k.len = L := ⟨_, rfl⟩
  rw [hL] at HD ⊢
  clear hd hs hfs hc hR hL hle hpass hfit
  go_enter Try.func22, Try.ntmps22
  go_wp2_with fail
  refine (HD.out _ (HE.out _ _ _) (w.heap.size + 1 + 1) (by simp) (by
    have e : ((w.alloc (.cells #[.int .i64 o, .int .i64 n, .string t, .slice a L cap] 29)).alloc (.cells #[.int .i64 0, .int .i64 0, .string ⟨#[]⟩, .slice none 0 0] 29)).heap.size = w.heap.size + 1 + 1 := by simp
    rw [← e]; exact cell_new _ _ _ 0 _ rfl)).mono ?_
  rintro e1 w1 ⟨a3, cap3, f3, rfl, hc3, hs3, hfr3, hb3⟩
  obtain ⟨⟨z0, z1, z2, z3⟩, ⟨z4, z5, z6, z7⟩, z8⟩ := ((HZ.out _).ext ((Ext.refl _).alloc _)).ext hb3
  have H2 := Lib.hid (And.intro hc3 (And.intro hs3 (And.intro hfr3 hb3)))
  clear hc3 hs3 hfr3 hb3
  go_wp2_with fail
  refine bodyPost_ret (v := .tuple #[.agg #[.int .i64 o2, .int .i64 n2, .string t2, .slice a3 k2.len cap3], .bool ok]) (by simp [results, Try.results22, go_sem, z0, z1, z2, z3, z4, z5, z6, z7, z8]) rfl ?_
  obtain ⟨hc3, hs3, hfr3, hb3⟩ := H2.out
  refine end_pair (d := (o2, n2, t2, k2)) (lo := w.heap.size + 1) (hi := w.heap.size + 2) hs3 (hfr3.mono (lo' := w.heap.size + 2) (by simp)) hc3 (Nat.le_refl _) (by omega) (by omega) (Below.trans (HE.out _ _ _) (hb3.mono (by simp; omega))) ?_
  repeat (first | exact Touch.refl _ _ _ | refine Touch.setCell ?_ (by simp) (by simp) _)

theorem wo_yes {o n : Int} {t : ByteArray} {k : F} (h : validD o n t k = true) : woRes o n t k = (true, chD woR o n t k) := by
  unfold woRes chR
  simp only [h, wo_valid h, if_true]
theorem wo_no {o n : Int} {t : ByteArray} {k : F} (h : validD o n t k = false) : woRes o n t k = (false, zeroD) := by
  unfold woRes chR
  simp only [h]
  rfl

end Go.Proofs.Ytmkibpimjaofgaa.Nf

