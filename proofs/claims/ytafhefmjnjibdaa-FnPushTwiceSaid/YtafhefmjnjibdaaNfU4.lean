import Derived.Test.YtafhefmjnjibdaaNfU3
/-
  PushNest of the program: the pass, the function.
-/
set_option linter.unusedVariables false
set_option linter.unusedSimpArgs false
namespace Go.Proofs.Ytafhefmjnjibdaa.Nf
open Go.RowKit P1 Copy CatD

set_option maxRecDepth 100000 in
set_option maxHeartbeats 1600000 in
theorem pu_pass (o n : Int) (t : ByteArray) (k : F) (hn : niceD (o, n, t, k) = true) (hcnt : k.cnt ≤ 10000) (hdp : k.deep ≤ 100) : PassAt 57 (o, n, t, k) (pushD 0 o n t k) := by
  refine ⟨enters_of Try.func57 (by kernel_rfl) rfl, fun W a cap fs hs hfs hc => ?_⟩
  show Calls Try.prog 57 #[.agg #[.int .i64 o, .int .i64 n, .string t, .slice a k.len cap]] W _
  have hd := fun (W1 : World) (h1 : Ext W W1) => pushInto W1 o n t k 0 hn (by omega) (by omega) a cap fs (h1.sub hs (fun c hc => (hfs c hc).1)) (fun c hc => Nat.lt_of_lt_of_le (hfs c hc).1 h1.size) hc
  rw [show ((0 : Nat) : Int) = 0 from rfl] at hd
  obtain ⟨⟨o2, n2, t2, k2⟩, hφ⟩ : ∃ d : D, pushD 0 o n t k = d := ⟨_, rfl⟩
  rw [hφ] at hd ⊢
  have HD := Lib.hid hd
  have HE := Lib.hid (show ∀ x y, Ext W ((W.alloc x).alloc y) from fun x y => ((Ext.refl W).alloc x).alloc y)
  have HZ := Lib.hid (fun x => zbox_second W x 25)
  obtain ⟨L, hL⟩ : ∃ L, k.len = L := ⟨_, rfl⟩
  rw [hL] at HD ⊢
  clear hd hs hfs hc hn hcnt hφ hL
  go_enter Try.func57, Try.ntmps57
  go_wp2_with fail
  refine (HD.out _ (HE.out _ _)).mono ?_
  rintro e1 w1 ⟨a2, cap2, f2, rfl, hc2, hs2, hfr2, hb2⟩
  simp only at hc2 hs2 ⊢
  obtain ⟨⟨z0, z1, z2, z3⟩, ⟨z4, z5, z6, z7⟩, z8⟩ := (HZ.out _).ext hb2
  have H2 := Lib.hid (And.intro hc2 (And.intro hs2 (And.intro hfr2 hb2)))
  clear hc2 hs2 hfr2 hb2
  go_wp2_with fail
  refine bodyPost_ret (v := .agg #[.int .i64 o2, .int .i64 n2, .string t2, .slice a2 k2.len cap2]) (by simp [results, Try.results57, go_sem, z0, z1, z2, z3, z4, z5, z6, z7, z8]) rfl ?_
  obtain ⟨hc2, hs2, hfr2, hb2⟩ := H2.out
  refine end_new2 (lo := W.heap.size + 1) (hi := W.heap.size + 2) hs2 (hfr2.mono (lo' := W.heap.size + 2) (by simp)) hc2 (Nat.le_refl _) (by omega) (by omega) (Below.trans (HE.out _ _) (hb2.mono (by simp; omega))) ?_
  repeat (first | exact Touch.refl _ _ _ | refine Touch.setCell ?_ (by simp) (by simp) _)

def puRes (o n : Int) (t : ByteArray) (k : F) : Bool × D := chR (o, n, t, k) (pushD 0 o n t k)

set_option maxRecDepth 100000 in
set_option maxHeartbeats 1600000 in
theorem implPushNest (w : World) (o n : Int) (t : ByteArray) (k : F) (a : Option Addr) (cap : Nat) (fs : List Nat) (hs : SubAt w a k fs) (hfs : ∀ c ∈ fs, c < w.heap.size ∧ ∀ o, w.frozen? ⟨c, o, none⟩ = false) (hc : k.len ≤ cap) (hle : t.size + k.size ≤ 1048576) :
    Calls Try.prog 26 #[.agg #[.int .i64 o, .int .i64 n, .string t, .slice a k.len cap]] w (DocRes w (puRes o n t k)) := by
  have hpass : validD o n t k = true → PassAt 57 (o, n, t, k) (pushD 0 o n t k) := fun hv => pu_pass o n t k (valid_nice hv).1 (by have := (valid_nice hv).2.2; omega) (by have := (valid_nice hv).2.1; omega)
  have hfit : validD o n t k = true → (pushD 0 o n t k).2.2.2.size ≤ 1048576 ∧ (pushD 0 o n t k).2.2.1.size ≤ 1048576 := fun hv => nice_fit (push_fit (valid_nice hv).1 (valid_nice hv).2.1 (valid_nice hv).2.2).1 (push_fit (valid_nice hv).1 (valid_nice hv).2.1 (valid_nice hv).2.2).2
  have hd := fun (W : World) (e : Ext w W) (bp : Nat) (hb : bp < W.heap.size) (hcell : W.cell? ⟨bp, 0, none⟩ = some (.func (.func 57) #[] #[])) => changed W o n t k a cap fs (e.sub hs (fun c hc => (hfs c hc).1)) (fun c hc => Nat.lt_of_lt_of_le (hfs c hc).1 e.size) hc hle [(57, pushD 0 o n t k)] bp 1 hb (fun j hj => by have e : j = 0 := (by simpa using hj); subst e; exact hcell) (Nat.le_refl _) (by simp) (fun hv => ⟨hpass hv, trivial⟩) hfit
  obtain ⟨⟨ok, o2, n2, t2, k2⟩, hR⟩ : ∃ R, puRes o n t k = R := ⟨_, rfl⟩
  rw [hR]
  rw [show chR (o, n, t, k) (lastD [(57, pushD 0 o n t k)] (o, n, t, k)) = (ok, o2, n2, t2, k2) from hR] at hd
  have HD := Lib.hid hd
  have HE := Lib.hid (show ∀ x y z, Ext w (((w.alloc x).alloc y).alloc z) from fun x y z => (((Ext.refl w).alloc x).alloc y).alloc z)
  have HZ := Lib.hid (fun x => zbox_second w x 25)
  obtain ⟨L, hL⟩ : ∃ L, k.len = L := ⟨_, rfl⟩
  rw [hL] at HD ⊢
  clear hd hs hfs hc hR hL hle hpass hfit
  go_enter Try.func26, Try.ntmps26
  go_wp2_with fail
  refine (HD.out _ (HE.out _ _ _) (w.heap.size + 1 + 1) (by simp) (by
    have e : ((w.alloc (.cells #[.int .i64 o, .int .i64 n, .string t, .slice a L cap] 25)).alloc (.cells #[.int .i64 0, .int .i64 0, .string ⟨#[]⟩, .slice none 0 0] 25)).heap.size = w.heap.size + 1 + 1 := by simp
    rw [← e]; exact cell_new _ _ _ 0 _ rfl)).mono ?_
  rintro e1 w1 ⟨a3, cap3, f3, rfl, hc3, hs3, hfr3, hb3⟩
  obtain ⟨⟨z0, z1, z2, z3⟩, ⟨z4, z5, z6, z7⟩, z8⟩ := ((HZ.out _).ext ((Ext.refl _).alloc _)).ext hb3
  have H2 := Lib.hid (And.intro hc3 (And.intro hs3 (And.intro hfr3 hb3)))
  clear hc3 hs3 hfr3 hb3
  go_wp2_with fail
  refine bodyPost_ret (v := .tuple #[.agg #[.int .i64 o2, .int .i64 n2, .string t2, .slice a3 k2.len cap3], .bool ok]) (by simp [results, Try.results26, go_sem, z0, z1, z2, z3, z4, z5, z6, z7, z8]) rfl ?_
  obtain ⟨hc3, hs3, hfr3, hb3⟩ := H2.out
  refine end_pair (d := (o2, n2, t2, k2)) (lo := w.heap.size + 1) (hi := w.heap.size + 2) hs3 (hfr3.mono (lo' := w.heap.size + 2) (by simp)) hc3 (Nat.le_refl _) (by omega) (by omega) (Below.trans (HE.out _ _ _) (hb3.mono (by simp; omega))) ?_
  repeat (first | exact Touch.refl _ _ _ | refine Touch.setCell ?_ (by simp) (by simp) _)

end Go.Proofs.Ytafhefmjnjibdaa.Nf

