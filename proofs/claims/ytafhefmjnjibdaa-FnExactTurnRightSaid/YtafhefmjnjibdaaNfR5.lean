import Derived.Test.YtafhefmjnjibdaaNfB
import Derived.Test.YtafhefmjnjibdaaNfR4
/-
  TurnRight of the program.
-/
set_option linter.unusedVariables false
set_option linter.unusedSimpArgs false
namespace Go.Proofs.Ytafhefmjnjibdaa.Nf
open Go.RowKit P1 Copy CatD

/-- joining a row keeps it nice, and adds a node for each join -/
theorem cat_keep : ∀ f : F, nice f = true → f ≠ .nil → niceD (catAll f) = true ∧ (catAll f).2.2.2.cnt + 2 = f.cnt + f.len := by
  intro f
  induction f with
  | nil => intro _ h; exact absurd rfl h
  | cons o n t k r _ ih =>
    intro h _
    have hD : niceD (o, n, t, k) = true := by simp only [nice, Bool.and_eq_true] at h; exact Bool.and_eq_true_iff.2 h.1
    have hr : nice r = true := by simp only [nice, Bool.and_eq_true] at h; exact h.2
    by_cases he : r.len = 0
    · have := F.len_eq_zero he
      subst this
      rw [show catAll (.cons o n t k .nil) = (o, n, t, k) from rfl]
      exact ⟨hD, by simp only [F.cnt, F.len]; omega⟩
    · obtain ⟨h1, h2⟩ := ih hr (by intro e; rw [e] at he; exact he rfl)
      have e : catAll (.cons o n t k r) = (7, 0, ⟨#[]⟩, .cons o n t k (consD (catAll r) .nil)) := by show (if r.len = 0 then _ else _) = _; rw [if_neg he]
      rw [e]
      have hk : nice (.cons o n t k (consD (catAll r) .nil)) = true := by
        show (niceD (o, n, t, k) && (niceD (catAll r) && nice .nil)) = true
        rw [hD, h1]; rfl
      refine ⟨?_, ?_⟩
      · show (nodeB 7 0 ⟨#[]⟩ 2 && nice (.cons o n t k (consD (catAll r) .nil))) = true
        rw [hk, Bool.and_true]; decide
      · show 1 + k.cnt + (1 + (catAll r).2.2.2.cnt + 0) + 2 = 1 + k.cnt + r.cnt + (r.len + 1)
        omega
theorem ps_pos (g : F → F) {o n : Int} {t : ByteArray} {k : F} (h : niceD (o, n, t, k) = true) : psD g o n t k ≠ .nil := by
  intro e
  have h1 := pt_pos h
  have h2 : (psD g o n t k).len = (ptD o n t k).len := by rw [ps_parts, len_mapL]
  rw [e] at h2
  simp only [F.len] at h2
  omega
/-- turning to the right keeps the documents nice, and the number of their nodes -/
theorem ri_keep : ∀ f : F, nice f = true → nice (pr (fun f => f) f).1 = true ∧ nice (pr (fun f => f) f).2 = true ∧ (pr (fun f => f) f).1.cnt + (pr (fun f => f) f).1.len = f.cnt + f.len ∧ (pr (fun f => f) f).2.cnt = f.cnt := by
  intro f
  induction f with
  | nil => intro _; exact ⟨rfl, rfl, rfl, rfl⟩
  | cons o n t k r ihk ihr =>
    intro h
    have hD : niceD (o, n, t, k) = true := by simp only [nice, Bool.and_eq_true] at h; exact Bool.and_eq_true_iff.2 h.1
    have hr : nice r = true := by simp only [nice, Bool.and_eq_true] at h; exact h.2
    obtain ⟨a1, a2, a3, a4⟩ := ihk (nice_kids hD).2
    obtain ⟨b1, b2, b3, b4⟩ := ihr hr
    have hps : nice (psD (fun f => f) o n t k) = true ∧ (psD (fun f => f) o n t k).cnt + (psD (fun f => f) o n t k).len = k.cnt + 2 := by
      unfold psD
      split
      · rename_i h7
        obtain ⟨x, y, hxy⟩ := kids_two hD h7
        have e2 : k.len = 2 := by rw [hxy]; rfl
        exact ⟨a1, by omega⟩
      · refine ⟨?_, by simp only [F.cnt, F.len]; omega⟩
        have hl : (pr (fun f => f) k).2.len = k.len := by rw [pr_map, len_mapL]
        show (nodeB o n t (pr (fun f => f) k).2.len && nice (pr (fun f => f) k).2 && nice .nil) = true
        rw [hl, a2]
        have h1 : nodeB o n t k.len = true := by unfold niceD at hD; exact (Bool.and_eq_true_iff.1 hD).1
        rw [h1]; rfl
    obtain ⟨c1, c2⟩ := cat_keep _ hps.1 (ps_pos _ hD)
    rw [pr_cons]
    refine ⟨by rw [nice_app, hps.1, b1]; rfl, ?_, ?_, ?_⟩
    · show (niceD (rowD (fun f => f) o n t k) && nice (pr (fun f => f) r).2) = true
      rw [b2, Bool.and_true]; exact c1
    · show ((psD (fun f => f) o n t k).app (pr (fun f => f) r).1).cnt + ((psD (fun f => f) o n t k).app (pr (fun f => f) r).1).len = 1 + k.cnt + r.cnt + (r.len + 1)
      rw [F.cnt_app, F.len_app]; omega
    · show 1 + (catAll (psD (fun f => f) o n t k)).2.2.2.cnt + (pr (fun f => f) r).2.cnt = 1 + k.cnt + r.cnt
      omega
theorem ri_parts {o n : Int} {t : ByteArray} {k : F} (h : niceD (o, n, t, k) = true) : nice (psD (fun f => f) o n t k) = true ∧ (psD (fun f => f) o n t k).cnt + (psD (fun f => f) o n t k).len = k.cnt + 2 := by
  obtain ⟨h1, _, h3, _⟩ := ri_keep (.cons o n t k .nil) (by rw [show nice (.cons o n t k .nil) = (niceD (o, n, t, k) && nice .nil) from rfl, h]; rfl)
  rw [pr_cons, show (pr (fun f => f) .nil).1 = .nil from rfl, F.app_nil] at h1 h3
  simp only [F.cnt, F.len] at h3
  exact ⟨h1, by omega⟩
theorem ri_nice {o n : Int} {t : ByteArray} {k : F} (h : niceD (o, n, t, k) = true) : niceD (rowD (fun f => f) o n t k) = true ∧ (rowD (fun f => f) o n t k).2.2.2.cnt ≤ k.cnt := by
  obtain ⟨h1, h2⟩ := ri_parts h
  obtain ⟨h3, h4⟩ := cat_keep _ h1 (ps_pos _ h)
  exact ⟨h3, by show (catAll (psD (fun f => f) o n t k)).2.2.2.cnt ≤ _; omega⟩

set_option maxRecDepth 100000 in
theorem ri_fn : ListFn 108 #[] (fun f => f) := by
  refine ⟨enters_of Try.func108 (by kernel_rfl) rfl, fun lo W o n t k a cap fs _ _ hs hf hc hl => ?_, fun o n t k h hc => by have := (ri_parts h).2; show (psD (fun f => f) o n t k).len ≤ _; omega⟩
  show Calls Try.prog 108 #[.slice a (psD (fun f => f) o n t k).len cap] W (RowOut lo W (psD (fun f => f) o n t k))
  obtain ⟨f, hF⟩ : ∃ f, psD (fun f => f) o n t k = f := ⟨_, rfl⟩
  rw [hF] at hs hc ⊢
  obtain ⟨L, hL⟩ : ∃ L, f.len = L := ⟨_, rfl⟩
  rw [hL]
  go_enter Try.func108, Try.ntmps108
  go_wp2_with fail
  go_ret
  exact ⟨a, cap, fs, by rw [hL]; rfl, hc, hs, hf, Ext.refl _⟩

set_option maxRecDepth 100000 in
set_option maxHeartbeats 1600000 in
theorem ri_pass (o n : Int) (t : ByteArray) (k : F) (hn : niceD (o, n, t, k) = true) (hcnt : k.cnt ≤ 10000) : PassAt 72 (o, n, t, k) (rowD (fun f => f) o n t k) := by
  refine ⟨enters_of Try.func72 (by kernel_rfl) rfl, fun W a cap fs hs hfs hc => ?_⟩
  show Calls Try.prog 72 #[.agg #[.int .i64 o, .int .i64 n, .string t, .slice a k.len cap]] W _
  have hd := fun (W1 : World) (h1 : Ext W W1) => changeRows ri_fn W1 o n t k hn hcnt a cap fs (h1.sub hs (fun c hc => (hfs c hc).1)) (fun c hc => Nat.lt_of_lt_of_le (hfs c hc).1 h1.size) hc
  obtain ⟨⟨o2, n2, t2, k2⟩, hφ⟩ : ∃ d : D, rowD (fun f => f) o n t k = d := ⟨_, rfl⟩
  rw [hφ] at hd ⊢
  have HD := Lib.hid hd
  have HE := Lib.hid (show ∀ x y, Ext W ((W.alloc x).alloc y) from fun x y => ((Ext.refl W).alloc x).alloc y)
  have HZ := Lib.hid (fun x => zbox_second W x 25)
  obtain ⟨L, hL⟩ : ∃ L, k.len = L := ⟨_, rfl⟩
  rw [hL] at HD ⊢
  clear hd hs hfs hc hn hcnt hφ hL
  go_enter Try.func72, Try.ntmps72
  go_wp2_with fail
  refine (HD.out _ (HE.out _ _)).mono ?_
  rintro e1 w1 ⟨a2, cap2, f2, rfl, hc2, hs2, hfr2, hb2⟩
  simp only at hc2 hs2 ⊢
  obtain ⟨⟨z0, z1, z2, z3⟩, ⟨z4, z5, z6, z7⟩, z8⟩ := (HZ.out _).ext hb2
  have H2 := Lib.hid (And.intro hc2 (And.intro hs2 (And.intro hfr2 hb2)))
  clear hc2 hs2 hfr2 hb2
  go_wp2_with fail
  refine bodyPost_ret (v := .agg #[.int .i64 o2, .int .i64 n2, .string t2, .slice a2 k2.len cap2]) (by simp [results, Try.results72, go_sem, z0, z1, z2, z3, z4, z5, z6, z7, z8]) rfl ?_
  obtain ⟨hc2, hs2, hfr2, hb2⟩ := H2.out
  refine end_new2 (lo := W.heap.size + 1) (hi := W.heap.size + 2) hs2 (hfr2.mono (lo' := W.heap.size + 2) (by simp)) hc2 (Nat.le_refl _) (by omega) (by omega) (Below.trans (HE.out _ _) (hb2.mono (by simp; omega))) ?_
  repeat (first | exact Touch.refl _ _ _ | refine Touch.setCell ?_ (by simp) (by simp) _)

def riRes (o n : Int) (t : ByteArray) (k : F) : Bool × D := chR (o, n, t, k) (rowD (fun f => f) o n t k)

set_option maxRecDepth 100000 in
set_option maxHeartbeats 1600000 in
theorem implTurnRight (w : World) (o n : Int) (t : ByteArray) (k : F) (a : Option Addr) (cap : Nat) (fs : List Nat) (hs : SubAt w a k fs) (hfs : ∀ c ∈ fs, c < w.heap.size ∧ ∀ o, w.frozen? ⟨c, o, none⟩ = false) (hc : k.len ≤ cap) (hle : t.size + k.size ≤ 1048576) :
    Calls Try.prog 31 #[.agg #[.int .i64 o, .int .i64 n, .string t, .slice a k.len cap]] w (DocRes w (riRes o n t k)) := by
  have hpass : validD o n t k = true → PassAt 72 (o, n, t, k) (rowD (fun f => f) o n t k) := fun hv => ri_pass o n t k (valid_nice hv).1 (by have := (valid_nice hv).2.2; omega)
  have hfit : validD o n t k = true → (rowD (fun f => f) o n t k).2.2.2.size ≤ 1048576 ∧ (rowD (fun f => f) o n t k).2.2.1.size ≤ 1048576 := fun hv => nice_fit (ri_nice (valid_nice hv).1).1 (by have := (ri_nice (valid_nice hv).1).2; have := (valid_nice hv).2.2; omega)
  have hd := fun (W : World) (e : Ext w W) (bp : Nat) (hb : bp < W.heap.size) (hcell : W.cell? ⟨bp, 0, none⟩ = some (.func (.func 72) #[] #[])) => changed W o n t k a cap fs (e.sub hs (fun c hc => (hfs c hc).1)) (fun c hc => Nat.lt_of_lt_of_le (hfs c hc).1 e.size) hc hle [(72, rowD (fun f => f) o n t k)] bp 1 hb (fun j hj => by have e : j = 0 := (by simpa using hj); subst e; exact hcell) (Nat.le_refl _) (by simp) (fun hv => ⟨hpass hv, trivial⟩) hfit
  obtain ⟨⟨ok, o2, n2, t2, k2⟩, hR⟩ : ∃ R, riRes o n t k = R := ⟨_, rfl⟩
  rw [hR]
  rw [show chR (o, n, t, k) (lastD [(72, rowD (fun f => f) o n t k)] (o, n, t, k)) = (ok, o2, n2, t2, k2) from hR] at hd
  have HD := Lib.hid hd
  have HE := Lib.hid (show ∀ x y z, Ext w (((w.alloc x).alloc y).alloc z) from fun x y z => (((Ext.refl w).alloc x).alloc y).alloc z)
  have HZ := Lib.hid (fun x => zbox_second w x 25)
  obtain ⟨L, hL⟩ : ∃ L, k.len = L := ⟨_, rfl⟩
  rw [hL] at HD ⊢
  clear hd hs hfs hc hR hL hle hpass hfit
  go_enter Try.func31, Try.ntmps31
  go_wp2_with fail
  refine (HD.out _ (HE.out _ _ _) (w.heap.size + 1 + 1) (by simp) (by
    have e : ((w.alloc (.cells #[.int .i64 o, .int .i64 n, .string t, .slice a L cap] 25)).alloc (.cells #[.int .i64 0, .int .i64 0, .string ⟨#[]⟩, .slice none 0 0] 25)).heap.size = w.heap.size + 1 + 1 := by simp
    rw [← e]; exact cell_new _ _ _ 0 _ rfl)).mono ?_
  rintro e1 w1 ⟨a3, cap3, f3, rfl, hc3, hs3, hfr3, hb3⟩
  obtain ⟨⟨z0, z1, z2, z3⟩, ⟨z4, z5, z6, z7⟩, z8⟩ := ((HZ.out _).ext ((Ext.refl _).alloc _)).ext hb3
  have H2 := Lib.hid (And.intro hc3 (And.intro hs3 (And.intro hfr3 hb3)))
  clear hc3 hs3 hfr3 hb3
  go_wp2_with fail
  refine bodyPost_ret (v := .tuple #[.agg #[.int .i64 o2, .int .i64 n2, .string t2, .slice a3 k2.len cap3], .bool ok]) (by simp [results, Try.results31, go_sem, z0, z1, z2, z3, z4, z5, z6, z7, z8]) rfl ?_
  obtain ⟨hc3, hs3, hfr3, hb3⟩ := H2.out
  refine end_pair (d := (o2, n2, t2, k2)) (lo := w.heap.size + 1) (hi := w.heap.size + 2) hs3 (hfr3.mono (lo' := w.heap.size + 2) (by simp)) hc3 (Nat.le_refl _) (by omega) (by omega) (Below.trans (HE.out _ _ _) (hb3.mono (by simp; omega))) ?_
  repeat (first | exact Touch.refl _ _ _ | refine Touch.setCell ?_ (by simp) (by simp) _)

end Go.Proofs.Ytafhefmjnjibdaa.Nf

