import Derived.Test.YtafhefmjnjibdaaNfU1
import Derived.Test.YtafhefmjnjibdaaNfQ
/-
  PushNest of the program: isNewline, pushInto.
-/
set_option linter.unusedVariables false
set_option linter.unusedSimpArgs false
namespace Go.Proofs.Ytafhefmjnjibdaa.Nf
open Go.RowKit P1 Copy CatD

theorem isNew_yes (W : World) (x : Int) (h : x = 3 ∨ x = 4 ∨ x = 5) : Calls Try.prog 121 #[.int .i64 x] W fun e w' => e = .returned (.bool true) ∧ w' = W := by
  rcases h with rfl | rfl | rfl
  all_goals
    go_enter Try.func121, Try.ntmps121
    go_wp2_with fail
    go_ret
    exact ⟨rfl, rfl⟩
theorem isNew_no (W : World) (x : Int) (h3 : x ≠ 3) (h4 : x ≠ 4) (h5 : x ≠ 5) : Calls Try.prog 121 #[.int .i64 x] W fun e w' => e = .returned (.bool false) ∧ w' = W := by
  have q3 : (x == 3) = false := by rw [beq_eq_false_iff_ne]; exact h3
  have q4 : (x == 4) = false := by rw [beq_eq_false_iff_ne]; exact h4
  have q5 : (x == 5) = false := by rw [beq_eq_false_iff_ne]; exact h5
  go_enter Try.func121, Try.ntmps121
  go_wp2_with fail
  go_ret
  exact ⟨rfl, rfl⟩

/-- the contract of pushInto at the documents of a list -/
def PuS (f : F) : Prop := ∀ (w : World) (o n : Int) (t : ByteArray) (k : F) (p r : F) (a : Option Addr) (cap : Nat) (fs : List Nat) (i : Nat), f = p.app (.cons o n t k r) → nice f = true → f.cnt ≤ 10000 → i + 9 * f.deep ≤ 100000 → SubAt w a k fs → (∀ c ∈ fs, c < w.heap.size) → k.len ≤ cap →
  Calls Try.prog 93 #[.agg #[.int .i64 o, .int .i64 n, .string t, .slice a k.len cap], .int .i64 i] w (NewD w (pushD i o n t k))

set_option maxRecDepth 100000 in
set_option maxHeartbeats 1600000 in
theorem push_kid {k : F} (ih : PuS k) (hn : nice k = true) (hcnt : k.cnt ≤ 10000) {i : Nat} (hi : i + 9 * k.deep ≤ 100000) {w : World} {b : Nat} (hb : b < w.heap.size) (hc : w.cell? ⟨b, 0, none⟩ = some (.int .i64 i)) :
    KidFn 132 #[.pointer (some ⟨b, 0, none⟩)] (pushD i) k w := by
  refine ⟨enters_of Try.func132 (by kernel_rfl) rfl, fun W p o n t q r a cap fs hk he hs hfs hc' => ?_⟩
  show Calls Try.prog 132 #[.agg #[.int .i64 o, .int .i64 n, .string t, .slice a q.len cap], .pointer (some ⟨b, 0, none⟩)] W _
  have c0 := (he.cell (o := 0) hb).trans hc
  have hbW : b < W.heap.size := Nat.lt_of_lt_of_le hb he.size
  have hd := fun (W1 : World) (h1 : Ext W W1) => ih W1 o n t q p r a cap fs i hk hn hcnt hi (h1.sub hs hfs) (fun c hc => Nat.lt_of_lt_of_le (hfs c hc) h1.size) hc'
  obtain ⟨⟨o2, n2, t2, k2⟩, hφ⟩ : ∃ d : D, pushD i o n t q = d := ⟨_, rfl⟩
  rw [hφ] at hd ⊢
  have HD := Lib.hid hd
  have HE := Lib.hid (show ∀ x y, Ext W ((W.alloc x).alloc y) from fun x y => ((Ext.refl W).alloc x).alloc y)
  have HZ := Lib.hid (fun x => zbox_second W x 25)
  obtain ⟨L, hL⟩ : ∃ L, q.len = L := ⟨_, rfl⟩
  rw [hL] at HD ⊢
  clear hd he hs hfs hc' hk ih hn hcnt hb hc hφ hL hi
  go_enter Try.func132, Try.ntmps132
  go_wp2_with fail
  refine (HD.out _ (HE.out _ _)).mono ?_
  rintro e1 w1 ⟨a2, cap2, f2, rfl, hc2, hs2, hfr2, hb2⟩
  simp only at hc2 hs2 ⊢
  obtain ⟨⟨z0, z1, z2, z3⟩, ⟨z4, z5, z6, z7⟩, z8⟩ := (HZ.out _).ext hb2
  have H2 := Lib.hid (And.intro hc2 (And.intro hs2 (And.intro hfr2 hb2)))
  clear hc2 hs2 hfr2 hb2
  go_wp2_with fail
  refine bodyPost_ret (v := .agg #[.int .i64 o2, .int .i64 n2, .string t2, .slice a2 k2.len cap2]) (by simp [results, Try.results132, go_sem, z0, z1, z2, z3, z4, z5, z6, z7, z8]) rfl ?_
  obtain ⟨hc2, hs2, hfr2, hb2⟩ := H2.out
  refine end_new2 (lo := W.heap.size + 1) (hi := W.heap.size + 2) hs2 (hfr2.mono (lo' := W.heap.size + 2) (by simp)) hc2 (Nat.le_refl _) (by omega) (by omega) (Below.trans (HE.out _ _) (hb2.mono (by simp; omega))) ?_
  repeat (first | exact Touch.refl _ _ _ | refine Touch.setCell ?_ (by simp) (by simp) _)

/-- the variables of a call: the document's, a number's, the result's -/
theorem three_new (w : World) (u0 u1 u2 u3 u4 : Value) (T T' : TypeId) : Five w.heap.size u0 u1 u2 u3 u4 (((w.alloc (.cells #[u0, u1, u2, u3] T)).alloc (.cells #[u4] T')).alloc (.cells #[.int .i64 0, .int .i64 0, .string ⟨#[]⟩, .slice none 0 0] T)) := five_new w u0 u1 u2 u3 u4 T T' _

set_option maxRecDepth 100000 in
set_option maxHeartbeats 3200000 in
/-- another node: its Kids are changed -/
theorem push_other (w : World) (o n : Int) (t : ByteArray) (k : F) (i : Nat) (ih : PuS k) (h3 : o ≠ 3) (h4 : o ≠ 4) (h5 : o ≠ 5) (h6 : o ≠ 6) (hn : nice k = true) (hcnt : k.cnt ≤ 10000) (hi : i + 9 * k.deep ≤ 100000) (a : Option Addr) (cap : Nat) (fs : List Nat) (hs : SubAt w a k fs) (hfs : ∀ c ∈ fs, c < w.heap.size) (hc : k.len ≤ cap) :
    Calls Try.prog 93 #[.agg #[.int .i64 o, .int .i64 n, .string t, .slice a k.len cap], .int .i64 i] w (NewD w (o, n, t, pushL k i)) := by
  have hl := F.len_le_cnt k
  have hkid := fun (W : World) (hW : Ext w W) (b : Nat) (hb : b < W.heap.size) (c : W.cell? ⟨b, 0, none⟩ = some (.int .i64 i)) => changeKids W o n t k (pushD i) _ _ (push_kid ih hn hcnt hi hb c) a cap fs (hW.sub hs hfs) (fun c hc => Nat.lt_of_lt_of_le (hfs c hc) hW.size) hc (by omega)
  rw [← pushL_map] at hkid
  obtain ⟨K, hK⟩ : ∃ K, pushL k i = K := ⟨_, rfl⟩
  rw [hK] at hkid ⊢
  obtain ⟨L, hL⟩ : ∃ L, k.len = L := ⟨_, rfl⟩
  rw [hL] at hkid ⊢
  have HK := Lib.hid hkid
  have HB := Lib.hid (three_new w (.int .i64 o) (.int .i64 n) (.string t) (.slice a L cap) (.int .i64 i) 25 3)
  have HZ := Lib.hid (zbox_third w (.cells #[.int .i64 o, .int .i64 n, .string t, .slice a L cap] 25) (.cells #[.int .i64 i] 3) 25)
  have HE := Lib.hid (show ∀ x y z, Ext w (((w.alloc x).alloc y).alloc z) from fun x y z => (((Ext.refl w).alloc x).alloc y).alloc z)
  have q6 : (o == 6) = false := by rw [beq_eq_false_iff_ne]; exact h6
  have HN := Lib.hid (fun W => isNew_no W o h3 h4 h5)
  clear hkid hK hL hn hcnt hs hfs hc hl ih hi h3 h4 h5 h6
  go_enter Try.func93, Try.ntmps93
  go_wp2_with (first
    | (go_at_call 121; refine (HN.out _).mono ?_; rintro e1 w1 ⟨rfl, rfl⟩)
    | (go_at_call 129; refine (HK.out _ (by exact HE.out _ _ _) (w.heap.size + 1) (by simp) (by exact HB.out.2.2.2.2)).mono ?_; rintro e1 w3 ⟨a3, cap3, f3, rfl, hc3, hs3, hfr3, hb3⟩; obtain ⟨⟨z0, z1, z2, z3⟩, ⟨z4, z5, z6, z7⟩, z8⟩ := HZ.out.ext hb3; have H3 := Lib.hid (And.intro hc3 (And.intro hs3 (And.intro hfr3 hb3))); clear hc3 hs3 hfr3 hb3))
  refine bodyPost_ret (v := .agg #[.int .i64 o, .int .i64 n, .string t, .slice a3 K.len cap3]) (by simp [results, Try.results93, go_sem, z0, z1, z2, z3, z4, z5, z6, z7, z8]) rfl ?_
  obtain ⟨hc3, hs3, hfr3, hb3⟩ := H3.out
  refine end_new2 (lo := w.heap.size + 1 + 1) (hi := w.heap.size + 3) (w3 := w3) hs3 (hfr3.mono (lo' := w.heap.size + 3) (by simp)) hc3 (Nat.le_refl _) (by omega) (by omega) (Below.trans (HE.out _ _ _) (hb3.mono (by simp; omega))) ?_
  repeat (first | exact Touch.refl _ _ _ | refine Touch.setCell ?_ (by simp) (by simp) _)

set_option maxRecDepth 100000 in
set_option maxHeartbeats 3200000 in
/-- a newline: it is put into nests -/
theorem push_line (w : World) (o n : Int) (t : ByteArray) (i : Nat) (ho : o = 3 ∨ o = 4 ∨ o = 5) (hi : i ≤ 100000) (a : Option Addr) (cap : Nat) :
    Calls Try.prog 93 #[.agg #[.int .i64 o, .int .i64 n, .string t, .slice a 0 cap], .int .i64 i] w (NewD w (nests i (o, n, t, .nil))) := by
  have hcall := fun (W : World) => inNests W o n t a cap i hi
  obtain ⟨⟨o2, n2, t2, k2⟩, hφ⟩ : ∃ d : D, nests i (o, n, t, .nil) = d := ⟨_, rfl⟩
  rw [hφ] at hcall ⊢
  have HK := Lib.hid hcall
  have HZ := Lib.hid (zbox_third w (.cells #[.int .i64 o, .int .i64 n, .string t, .slice a 0 cap] 25) (.cells #[.int .i64 i] 3) 25)
  have HE := Lib.hid (show ∀ x y z, Ext w (((w.alloc x).alloc y).alloc z) from fun x y z => (((Ext.refl w).alloc x).alloc y).alloc z)
  have q6 : (o == 6) = false := by rw [beq_eq_false_iff_ne]; omega
  have HN := Lib.hid (fun W => isNew_yes W o ho)
  clear hcall ho hφ hi
  go_enter Try.func93, Try.ntmps93
  go_wp2_with (first
    | (go_at_call 121; refine (HN.out _).mono ?_; rintro e1 w1 ⟨rfl, rfl⟩)
    | (go_at_call 131; refine (HK.out _).mono ?_; rintro e1 w3 ⟨a3, cap3, f3, rfl, hc3, hs3, hfr3, hb3⟩; obtain ⟨⟨z0, z1, z2, z3⟩, ⟨z4, z5, z6, z7⟩, z8⟩ := HZ.out.ext hb3; have H3 := Lib.hid (And.intro hc3 (And.intro hs3 (And.intro hfr3 hb3))); clear hc3 hs3 hfr3 hb3))
  refine bodyPost_ret (v := .agg #[.int .i64 o2, .int .i64 n2, .string t2, .slice a3 k2.len cap3]) (by simp [results, Try.results93, go_sem, z0, z1, z2, z3, z4, z5, z6, z7, z8]) rfl ?_
  obtain ⟨hc3, hs3, hfr3, hb3⟩ := H3.out
  refine end_new2 (lo := w.heap.size + 1 + 1) (hi := w.heap.size + 3) (w3 := w3) hs3 (hfr3.mono (lo' := w.heap.size + 3) (by simp)) hc3 (Nat.le_refl _) (by omega) (by omega) (Below.trans (HE.out _ _ _) (hb3.mono (by simp; omega))) ?_
  repeat (first | exact Touch.refl _ _ _ | refine Touch.setCell ?_ (by simp) (by simp) _)

/-- the cells that a nest's region reads -/
abbrev SevenN (w0 b off : Nat) (n : Int) (u v0 v1 v2 v3 : Value) (i : Nat) (w' : World) : Prop := w'.cell? ⟨w0, 3, none⟩ = some u ∧ w'.cell? ⟨w0, 1, none⟩ = some (.int .i64 n) ∧ w'.cell? ⟨w0 + 1, 0, none⟩ = some (.int .i64 i) ∧ w'.cell? ⟨b, off, none⟩ = some v0 ∧ w'.cell? ⟨b, off + 1, none⟩ = some v1 ∧ w'.cell? ⟨b, off + 2, none⟩ = some v2 ∧ w'.cell? ⟨b, off + 3, none⟩ = some v3
theorem SevenN.below {w0 b off : Nat} {n : Int} {u v0 v1 v2 v3 : Value} {i : Nat} {W w' : World} (h : SevenN w0 b off n u v0 v1 v2 v3 i W) {B : Nat} (k : Below B W w') (h1 : w0 + 1 < B) (h2 : b < B) : SevenN w0 b off n u v0 v1 v2 v3 i w' := by
  obtain ⟨a0, a1, a2, a3, a4, a5, a6⟩ := h
  exact ⟨(k.cell (p := ⟨_, _, _⟩) (show w0 < B by omega)).trans a0, (k.cell (p := ⟨_, _, _⟩) (show w0 < B by omega)).trans a1, (k.cell (p := ⟨_, _, _⟩) h1).trans a2, (k.cell (p := ⟨_, _, _⟩) h2).trans a3, (k.cell (p := ⟨_, _, _⟩) h2).trans a4, (k.cell (p := ⟨_, _, _⟩) h2).trans a5, (k.cell (p := ⟨_, _, _⟩) h2).trans a6⟩
theorem SevenN.stored {w0 b off : Nat} {n : Int} {u v0 v1 v2 v3 : Value} {i : Nat} {W w' : World} (h : SevenN w0 b off n u v0 v1 v2 v3 i W) {B : Nat} (k : Below B W w') (h1 : w0 + 2 ≤ B) (h2 : b < w0) {y0 y1 y2 y3 : Value} : SevenN w0 b off n u v0 v1 v2 v3 i ((((w'.setCell ⟨w0 + 1 + 1, 0, none⟩ y0).setCell ⟨w0 + 1 + 1, 1, none⟩ y1).setCell ⟨w0 + 1 + 1, 2, none⟩ y2).setCell ⟨w0 + 1 + 1, 3, none⟩ y3) :=
  h.below (B := w0 + 2) (((((k.mono h1).setCell (show w0 + 2 ≤ w0 + 1 + 1 by omega) _).setCell (show w0 + 2 ≤ w0 + 1 + 1 by omega) _).setCell (show w0 + 2 ≤ w0 + 1 + 1 by omega) _).setCell (show w0 + 2 ≤ w0 + 1 + 1 by omega) _) (by omega) (by omega)

set_option maxRecDepth 100000 in
set_option maxHeartbeats 3200000 in
/-- a nest: it is removed -/
theorem push_nest (w : World) (n : Int) (t : ByteArray) (o1 n1 : Int) (t1 : ByteArray) (k1 : F) (i : Nat) (hn0 : 0 ≤ n) (hn9 : n ≤ 9) (hi : i ≤ 100000) (d : D)
    (ih : ∀ (W : World) (a : Option Addr) (cap : Nat) (fs : List Nat), SubAt W a k1 fs → (∀ c ∈ fs, c < W.heap.size) → k1.len ≤ cap → Calls Try.prog 93 #[.agg #[.int .i64 o1, .int .i64 n1, .string t1, .slice a k1.len cap], .int .i64 ((i : Int) + n)] W (NewD W d))
    (a : Option Addr) (cap : Nat) (fs : List Nat) (hs : SubAt w a (.cons o1 n1 t1 k1 .nil) fs) (hfs : ∀ c ∈ fs, c < w.heap.size) (hc : 1 ≤ cap) :
    Calls Try.prog 93 #[.agg #[.int .i64 6, .int .i64 n, .string t, .slice a 1 cap], .int .i64 i] w (NewD w d) := by
  rcases hs with ⟨h, _⟩ | ⟨b, off, f', rfl, _, rfl, hrow⟩
  · cases h
  have hb : b < w.heap.size := hfs b (by simp)
  obtain ⟨a1, c1, f1, c0, c1', c2, c3, hc1, hsub1, hin⟩ := row_at (p := .nil) hrow
  simp only [F.len, Nat.zero_mul, Nat.add_zero] at c0 c1' c2 c3
  have hcall := fun (W : World) (e : Ext w W) => ih W a1 c1 f1 (e.sub hsub1 (fun c hc => hfs c (by simp [hin c hc]))) (fun c hc => Nat.lt_of_lt_of_le (hfs c (by simp [hin c hc])) e.size) hc1
  obtain ⟨L1, hL1⟩ : ∃ L, k1.len = L := ⟨_, rfl⟩
  rw [hL1] at hcall c3
  rw [show (i : Int) + n = IntKind.i64.wrap ((i : Int) + n) by rw [IntKind.wrap_i64]; omega] at hcall
  obtain ⟨o2, n2, t2, k2⟩ := d
  have HK := Lib.hid hcall
  have hB := three_new w (.int .i64 6) (.int .i64 n) (.string t) (.slice (some ⟨b, off, none⟩) 1 cap) (.int .i64 i) 25 3
  have HE := Lib.hid (show ∀ x y z, Ext w (((w.alloc x).alloc y).alloc z) from fun x y z => (((Ext.refl w).alloc x).alloc y).alloc z)
  have hS := fun (x y z : Obj) => And.intro (((HE.out x y z).cell hb).trans c0) (And.intro (((HE.out x y z).cell hb).trans c1') (And.intro (((HE.out x y z).cell hb).trans c2) (((HE.out x y z).cell hb).trans c3)))
  have HS0 := Lib.hid (show SevenN w.heap.size b off n (.slice (some ⟨b, off, none⟩) 1 cap) (.int .i64 o1) (.int .i64 n1) (.string t1) (.slice a1 L1 c1) i _ from ⟨hB.2.2.2.1, hB.2.1, hB.2.2.2.2, (hS _ _ _).1, (hS _ _ _).2.1, (hS _ _ _).2.2.1, (hS _ _ _).2.2.2⟩)
  have HZ := Lib.hid (zbox_third w (.cells #[.int .i64 6, .int .i64 n, .string t, .slice (some ⟨b, off, none⟩) 1 cap] 25) (.cells #[.int .i64 i] 3) 25)
  have HD := Lib.hid (HS0.out.below (Below.refl (w.heap.size + 3) _).drew (by omega) (by omega))
  have i0 : (0 : Int) ≤ (i : Int) := Int.natCast_nonneg _
  have i1 : (i : Int) + n ≤ 200000 := by omega
  have i2 : (0 : Int) ≤ (i : Int) + n := by omega
  clear hcall hB hS hfs hrow hc1 hsub1 hin ih hL1 hi
  go_enter Try.func93, Try.ntmps93
  go_wp2_with fail
  go_region_held3 (fun w' => w'.cell? ⟨w.heap.size, 3, none⟩ = some (.slice (some ⟨b, off, none⟩) 1 cap) ∧ w'.cell? ⟨w.heap.size, 1, none⟩ = some (.int .i64 n) ∧ w'.cell? ⟨w.heap.size + 1, 0, none⟩ = some (.int .i64 i) ∧ w'.cell? ⟨b, off, none⟩ = some (.int .i64 o1) ∧ w'.cell? ⟨b, off + 1, none⟩ = some (.int .i64 n1) ∧ w'.cell? ⟨b, off + 2, none⟩ = some (.string t1) ∧ w'.cell? ⟨b, off + 3, none⟩ = some (.slice a1 L1 c1))
    (first | (go_keep; done) | with_reducible exact HS0.out.stored q3 (by omega) (by omega) | with_reducible exact (HS0.out.below q3 (by omega) (by omega)) | with_reducible exact HD.out)
    (first | (go_at_call 93; refine (HK.out _ (by exact (HE.out _ _ _).drew)).mono ?_; rintro e1 w3 ⟨a3, cap3, f3, rfl, hc3, hs3, hfr3, hb3⟩; have q3 : Below (w.heap.size + 3) _ w3 := (Below.refl _ _).drew.trans (hb3.mono (by simp)); obtain ⟨⟨z0, z1, z2, z3⟩, ⟨z4, z5, z6, z7⟩, z8⟩ := zbox_below HZ.out q3 (by omega)))
  go_wp2_with fail
  refine bodyPost_ret (v := .agg #[.int .i64 o2, .int .i64 n2, .string t2, .slice a3 k2.len cap3]) (by simp [results, Try.results93, go_sem, z0, z1, z2, z3, z4, z5, z6, z7, z8]) rfl ?_
  refine end_new2 (lo := w.heap.size + 1 + 1) (hi := w.heap.size + 3) (w3 := w3) hs3 (hfr3.mono (lo' := w.heap.size + 3) (by simp)) hc3 (Nat.le_refl _) (by omega) (by omega) (Below.trans (HE.out _ _ _) (q3.mono (by omega))) ?_
  repeat (first | exact Touch.refl _ _ _ | refine Touch.setCell ?_ (by simp) (by simp) _)

theorem push_step (w : World) (o n : Int) (t : ByteArray) (k : F) (i : Nat) (ih : PuS k) (hn : niceD (o, n, t, k) = true) (hcnt : k.cnt ≤ 10000) (hi : i + 9 * (k.deep + 1) ≤ 100000) (a : Option Addr) (cap : Nat) (fs : List Nat) (hs : SubAt w a k fs) (hfs : ∀ c ∈ fs, c < w.heap.size) (hc : k.len ≤ cap) :
    Calls Try.prog 93 #[.agg #[.int .i64 o, .int .i64 n, .string t, .slice a k.len cap], .int .i64 i] w (NewD w (pushD i o n t k)) := by
  have hnk := (nice_kids hn).2
  by_cases h6 : o = 6
  · obtain ⟨⟨o1, n1, t1, k1⟩, rfl⟩ := kids_one hn (Or.inl h6)
    subst h6
    obtain ⟨h0, h9⟩ := nest_num hn
    have e : ((i + n.toNat : Nat) : Int) = (i : Int) + n := by omega
    rw [show pushD i 6 n t (consD (o1, n1, t1, k1) .nil) = pushD (i + n.toNat) o1 n1 t1 k1 from rfl]
    have hd : (consD (o1, n1, t1, k1) F.nil).deep = k1.deep + 1 := by show max (k1.deep + 1) 0 = _; omega
    refine push_nest w n t o1 n1 t1 k1 i h0 h9 (by omega) _ (fun W a cap fs h1 h2 h3 => ?_) a cap fs hs hfs hc
    rw [← e]
    exact ih W o1 n1 t1 k1 .nil .nil a cap fs (i + n.toNat) rfl hnk hcnt (by omega) h1 h2 h3
  · by_cases hl : o = 3 ∨ o = 4 ∨ o = 5
    · have hk := kids_none hn h6 (by omega) (by omega)
      subst hk
      rw [show pushD i o n t .nil = nests i (o, n, t, .nil) by unfold pushD; rw [if_neg h6, if_pos hl]]
      exact push_line w o n t i hl (by omega) a cap
    · rw [show pushD i o n t k = (o, n, t, pushL k i) by unfold pushD; rw [if_neg h6, if_neg hl]]
      exact push_other w o n t k i ih (by omega) (by omega) (by omega) h6 hnk hcnt (by omega) a cap fs hs hfs hc

/-- The contract of pushInto, at the documents of every list. -/
theorem puS (m : Nat) : ∀ f : F, f.deep ≤ m → PuS f := by
  induction m with
  | zero =>
    intro f hf w o n t k p r a cap fs i he
    rw [he, F.deep_app] at hf; simp only [F.deep] at hf; omega
  | succ m ih =>
    intro f hf w o n t k p r a cap fs i he hn hcnt hi hs hfs hc
    have hk : k.deep ≤ m := by rw [he, F.deep_app] at hf; simp only [F.deep] at hf; omega
    have hkd : k.deep + 1 ≤ f.deep := by rw [he, F.deep_app]; simp only [F.deep]; omega
    have hn' : niceD (o, n, t, k) = true := by
      rw [he, nice_app, Bool.and_eq_true] at hn
      exact (Bool.and_eq_true_iff.1 hn.2).1
    rw [he, F.cnt_app] at hcnt
    simp only [F.cnt] at hcnt
    exact push_step w o n t k i (ih k hk) hn' (by omega) (by omega) a cap fs hs hfs hc

theorem pushInto (w : World) (o n : Int) (t : ByteArray) (k : F) (i : Nat) (hn : niceD (o, n, t, k) = true) (hcnt : k.cnt ≤ 10000) (hi : i + 9 * (k.deep + 1) ≤ 100000) (a : Option Addr) (cap : Nat) (fs : List Nat) (hs : SubAt w a k fs) (hfs : ∀ c ∈ fs, c < w.heap.size) (hc : k.len ≤ cap) :
    Calls Try.prog 93 #[.agg #[.int .i64 o, .int .i64 n, .string t, .slice a k.len cap], .int .i64 i] w (NewD w (pushD i o n t k)) :=
  push_step w o n t k i (puS _ k (Nat.le_refl _)) hn hcnt hi a cap fs hs hfs hc

end Go.Proofs.Ytafhefmjnjibdaa.Nf

