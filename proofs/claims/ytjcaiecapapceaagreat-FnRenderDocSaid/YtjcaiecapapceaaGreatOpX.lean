import Derived.Test.YtjcaiecapapceaaGreatLyX
import Derived.Test.YtjcaiecapapceaaGreatSpV
/-
 What the open layout of a valid document comes to, of the program and of the model.
-/
set_option linter.unusedVariables false
set_option linter.unusedSimpArgs false
set_option maxRecDepth 100000
set_option maxHeartbeats 3200000
namespace Go.Proofs.YtjcaiecapapceaaGreat.OpenR
open Go.RowKit P1 LayL LayV LayM LayN LayC
theorem lay_new (w : World) (C : Array Value) (T : TypeId) (l : List (Int × ByteArray)) (h : C.toList = cells2 l) : LayAt (w.alloc (.cells C T)) l w.heap.size 0 := at_cells2 (fun j u hu => by
 rw [add_at, Nat.zero_add, World.cell?_alloc_new, ← Array.getElem?_toList, h]
 exact hu)
theorem rows_made {w W : World} (hb : Below w.heap.size w W) (C : Array Value) (T : TypeId) (l : List (Int × ByteArray)) (h : C.toList = cells2 l) {N m : Nat} (hN : W.heap.size = N) (hm : l.length = m) : RowsNew w l (.returned (.slice (some ⟨N, 0, none⟩) m m)) (W.alloc (.cells C T)) := by
 subst hN hm
 obtain ⟨fs, h1, h2⟩ := sub_new (lay_new W C T l h) hb.size (by simp) (fun o => World.frozen?_alloc_new _ _ _ _)
 exact ⟨_, _, fs, rfl, Nat.le_refl _, h1, h2, hb.alloc hb.size _⟩
theorem lift_rows {w w2 w3 : World} {a : Option Addr} {cap : Nat} {fs : List Nat} {X : List (Int × ByteArray)} {m : Nat} (hb : Below w.heap.size w w2) (hm : X.length = m) (h1 : m ≤ cap) (h2 : LaySub w3 a X fs) (h3 : Fresh w2.heap.size w3 fs) (h4 : Below w2.heap.size w2 w3) : RowsNew w X (.returned (.slice a m cap)) w3 := by
 subst hm
 exact ⟨a, cap, fs, rfl, h1, h2, h3.mono hb.size, hb.trans (h4.mono hb.size)⟩
def Eight (w : World) (b off : Nat) (o1 n1 : Int) (t1 : ByteArray) (a1 : Option Addr) (l1 c1 : Nat) (o2 n2 : Int) (t2 : ByteArray) (a2 : Option Addr) (l2 c2 : Nat) : Prop :=
 (w.cell? ⟨b, off, none⟩ = some (.int .i64 o1) ∧ w.cell? ⟨b, off + 1, none⟩ = some (.int .i64 n1) ∧ w.cell? ⟨b, off + 2, none⟩ = some (.string t1) ∧ w.cell? ⟨b, off + 3, none⟩ = some (.slice a1 l1 c1)) ∧
 (w.cell? ⟨b, off + 4, none⟩ = some (.int .i64 o2) ∧ w.cell? ⟨b, off + 4 + 1, none⟩ = some (.int .i64 n2) ∧ w.cell? ⟨b, off + 4 + 2, none⟩ = some (.string t2) ∧ w.cell? ⟨b, off + 4 + 3, none⟩ = some (.slice a2 l2 c2))
theorem text_row (t : ByteArray) : (#[Value.int .i64 0, .string t] : Array Value).toList = cells2 [(0, t)] := rfl
theorem zero_row : (zeros 2).toList = cells2 [(0, ⟨#[]⟩)] := by simp [zeros, madeCells, cells2, Array.range, List.range, List.range.loop]
theorem zero_rows : (zeros 4).toList = cells2 [(0, ⟨#[]⟩), (0, ⟨#[]⟩)] := by simp [zeros, madeCells, cells2, Array.range, List.range, List.range.loop]
theorem boxed_one {w : World} {T : TypeId} (o n : Int) (t : ByteArray) (b off L cap : Nat) {o1 n1 : Int} {t1 : ByteArray} {a1 : Option Addr} {l1 c1 : Nat} (hb : b < w.heap.size)
  (h0 : w.cell? ⟨b, off, none⟩ = some (.int .i64 o1)) (h1 : w.cell? ⟨b, off + 1, none⟩ = some (.int .i64 n1)) (h2 : w.cell? ⟨b, off + 2, none⟩ = some (.string t1)) (h3 : w.cell? ⟨b, off + 3, none⟩ = some (.slice a1 l1 c1)) :
  ∃ W, w.alloc (.cells #[.int .i64 o, .int .i64 n, .string t, .slice (some ⟨b, off, none⟩) L cap] T) = W ∧ Below w.heap.size w W ∧ w.heap.size < W.heap.size ∧ b < W.heap.size ∧ W.cell? ⟨w.heap.size, 1, none⟩ = some (.int .i64 n) ∧ W.cell? ⟨w.heap.size, 3, none⟩ = some (.slice (some ⟨b, off, none⟩) L cap) ∧
   W.cell? ⟨b, off, none⟩ = some (.int .i64 o1) ∧ W.cell? ⟨b, off + 1, none⟩ = some (.int .i64 n1) ∧ W.cell? ⟨b, off + 2, none⟩ = some (.string t1) ∧ W.cell? ⟨b, off + 3, none⟩ = some (.slice a1 l1 c1) := by
 have hB : ∀ ob, Below w.heap.size w (w.alloc ob) := fun ob => (Below.refl _ _).alloc (Nat.le_refl _) _
 refine ⟨_, rfl, hB _, by simp, by simp; omega, by rw [World.cell?_alloc_new]; rfl, by rw [World.cell?_alloc_new]; rfl, ((hB _).cell (p := ⟨_, _, _⟩) hb).trans h0, ((hB _).cell (p := ⟨_, _, _⟩) hb).trans h1, ((hB _).cell (p := ⟨_, _, _⟩) hb).trans h2, ((hB _).cell (p := ⟨_, _, _⟩) hb).trans h3⟩
end Go.Proofs.YtjcaiecapapceaaGreat.OpenR
namespace Go.Proofs.YtjcaiecapapceaaGreat.OpenR
open Go.RowKit P1 LayL LayV LayM LayN LayC
def implS (d : Nat) : Prop := ∀ (o n : Int) (t : ByteArray) (k : F), okD d o n t k = true → 1 + k.cnt ≤ 80 → ∀ (w : World) (a : Option Addr) (cap : Nat) (fs : List Nat), SubAt w a k fs → (∀ c ∈ fs, c < w.heap.size) → k.len ≤ cap →
 Calls Tryz.prog 121 #[.agg #[.int .i64 o, .int .i64 n, .string t, .slice a k.len cap]] w (RowsNew w (openD o n t k))
theorem impl_text (n : Int) (t : ByteArray) (w : World) (a : Option Addr) (L cap : Nat) (ht : t.size ≤ 12) : Calls Tryz.prog 121 #[.agg #[.int .i64 2, .int .i64 n, .string t, .slice a L cap]] w (RowsNew w [(0, t)]) := by
 have B1 := Lib.hid (show ∀ ob, Below w.heap.size w (w.alloc ob) from fun ob => (Below.refl _ _).alloc (Nat.le_refl _) _)
 have HC := Lib.hid (fun W => clone t W (by omega))
 go_enter Tryz.func121, Tryz.ntmps121
 go_wp2_with fail
 refine (HC.out _).mono ?_
 rintro e1 w2 ⟨rfl, hb2⟩
 have H2 := Lib.hid ((B1.out _).trans (hb2.mono (B1.out _).size))
 clear hb2
 go_wp2_with fail
 go_ret
 exact rows_made H2.out _ _ _ (text_row t) rfl rfl
theorem impl_lines (o n : Int) (t : ByteArray) (w : World) (a : Option Addr) (L cap : Nat) (ho : o = 3 ∨ o = 4 ∨ o = 5) : Calls Tryz.prog 121 #[.agg #[.int .i64 o, .int .i64 n, .string t, .slice a L cap]] w (RowsNew w [(0, ⟨#[]⟩), (0, ⟨#[]⟩)]) := by
 have B1 := Lib.hid (show ∀ ob, Below w.heap.size w (w.alloc ob) from fun ob => (Below.refl _ _).alloc (Nat.le_refl _) _)
 have hmk : ∀ W : World, (Instr.makeSlice 28 (.int .i64 2) (.int .i64 2)).run Tryz.prog W = .ok (.slice (some ⟨W.heap.size, 0, none⟩) 2 2) (W.alloc (.cells (zeros 4) 67)) := fun W => run_mk 2 (by omega) W
 rcases ho with rfl | rfl | rfl
 all_goals
  go_enter Tryz.func121, Tryz.ntmps121
  go_wp2
  go_ret
  exact rows_made (B1.out _) _ _ _ zero_rows (by simp) rfl
theorem impl_empty (n : Int) (t : ByteArray) (w : World) (a : Option Addr) (L cap : Nat) : Calls Tryz.prog 121 #[.agg #[.int .i64 1, .int .i64 n, .string t, .slice a L cap]] w (RowsNew w [(0, ⟨#[]⟩)]) := by
 have B1 := Lib.hid (show ∀ ob, Below w.heap.size w (w.alloc ob) from fun ob => (Below.refl _ _).alloc (Nat.le_refl _) _)
 have hmk : ∀ W : World, (Instr.makeSlice 28 (.int .i64 1) (.int .i64 1)).run Tryz.prog W = .ok (.slice (some ⟨W.heap.size, 0, none⟩) 1 1) (W.alloc (.cells (zeros 2) 67)) := fun W => run_mk 1 (by omega) W
 go_enter Tryz.func121, Tryz.ntmps121
 go_wp2
 go_ret
 exact rows_made (B1.out _) _ _ _ zero_row (by simp) rfl
theorem impl_group (n : Int) (t : ByteArray) (w : World) (b off cap : Nat) (o1 n1 : Int) (t1 : ByteArray) (l1 c1 : Nat) (a1 : Option Addr) (X : List (Int × ByteArray)) (hb : b < w.heap.size) (hcap : 1 ≤ cap)
  (h0 : w.cell? ⟨b, off, none⟩ = some (.int .i64 o1)) (h1 : w.cell? ⟨b, off + 1, none⟩ = some (.int .i64 n1)) (h2 : w.cell? ⟨b, off + 2, none⟩ = some (.string t1)) (h3 : w.cell? ⟨b, off + 3, none⟩ = some (.slice a1 l1 c1))
  (hK : ∀ W, Below w.heap.size w W → Calls Tryz.prog 121 #[.agg #[.int .i64 o1, .int .i64 n1, .string t1, .slice a1 l1 c1]] W (RowsNew W X)) :
  Calls Tryz.prog 121 #[.agg #[.int .i64 8, .int .i64 n, .string t, .slice (some ⟨b, off, none⟩) 1 cap]] w (RowsNew w X) := by
 have B1 := Lib.hid (show ∀ ob, Below w.heap.size w (w.alloc ob) from fun ob => (Below.refl _ _).alloc (Nat.le_refl _) _)
 have HK := Lib.hid hK
 clear hK
 go_enter Tryz.func121, Tryz.ntmps121
 go_wp2_with fail
 refine (HK.out _ (B1.out _)).mono ?_
 rintro e1 w2 ⟨a2, c2, f2, rfl, hc2, hs2, hf2, hb2⟩
 have H2 := Lib.hid (lift_rows (B1.out _) rfl hc2 hs2 hf2 hb2)
 clear hc2 hs2 hf2 hb2 h0 h1 h2 h3
 go_wp2_with fail
 go_ret
 exact H2.out
theorem impl_nest (n : Int) (hn0 : 0 ≤ n) (hn9 : n ≤ 9) (t : ByteArray) (w : World) (b off cap : Nat) (o1 n1 : Int) (t1 : ByteArray) (l1 c1 : Nat) (a1 : Option Addr) (X : List (Int × ByteArray)) (hX : lv X = true) (hb : b < w.heap.size) (hcap : 1 ≤ cap)
  (h0 : w.cell? ⟨b, off, none⟩ = some (.int .i64 o1)) (h1 : w.cell? ⟨b, off + 1, none⟩ = some (.int .i64 n1)) (h2 : w.cell? ⟨b, off + 2, none⟩ = some (.string t1)) (h3 : w.cell? ⟨b, off + 3, none⟩ = some (.slice a1 l1 c1))
  (hK : ∀ W, Below w.heap.size w W → Calls Tryz.prog 121 #[.agg #[.int .i64 o1, .int .i64 n1, .string t1, .slice a1 l1 c1]] W (RowsNew W X)) :
  Calls Tryz.prog 121 #[.agg #[.int .i64 6, .int .i64 n, .string t, .slice (some ⟨b, off, none⟩) 1 cap]] w (RowsNew w (nestL n X)) := by
 have B1 := Lib.hid (show ∀ ob, Below w.heap.size w (w.alloc ob) from fun ob => (Below.refl _ _).alloc (Nat.le_refl _) _)
 have HK := Lib.hid hK
 have HN := Lib.hid (fun (W : World) (a : Option Addr) (c : Nat) (fs : List Nat) (hs : LaySub W a X fs) (hc : X.length ≤ c) => nestRows n hn0 (by omega) X hX W a c fs hs hc)
 clear hK hX
 go_enter Tryz.func121, Tryz.ntmps121
 go_wp2_with fail
 obtain ⟨W, hW, hbW, lW, lb, x1, x3, x4, x5, x6, x7⟩ := boxed_one (T := 25) 6 n t b off 1 cap hb h0 h1 h2 h3
 rw [hW]
 have HW := Lib.hid hbW
 clear hW hbW h0 h1 h2 h3
 go_region_held3 (fun w' => w'.cell? ⟨w.heap.size, 1, none⟩ = some (.int .i64 n) ∧ w'.cell? ⟨w.heap.size, 3, none⟩ = some (.slice (some ⟨b, off, none⟩) 1 cap) ∧ w'.cell? ⟨b, off, none⟩ = some (.int .i64 o1) ∧ w'.cell? ⟨b, off + 1, none⟩ = some (.int .i64 n1) ∧ w'.cell? ⟨b, off + 2, none⟩ = some (.string t1) ∧ w'.cell? ⟨b, off + 3, none⟩ = some (.slice a1 l1 c1))
  (first | go_keep | (refine ⟨?_, ?_, ?_, ?_, ?_, ?_⟩ <;> (first | assumption | (rw [hb2.cell (p := ⟨_, _, _⟩) (by first | (simp; done) | (simp; omega) | omega)]; assumption) | (rw [hb3.cell (p := ⟨_, _, _⟩) (by have := hb2.size; first | (simp at this ⊢; done) | (simp at this ⊢; omega) | omega), hb2.cell (p := ⟨_, _, _⟩) (by first | (simp; done) | (simp; omega) | omega)]; assumption))))
  (first
   | (go_at_call 121; refine (HK.out _ (by first | exact HW.out | exact HW.out.drew)).mono ?_; rintro e1 w2 ⟨a2, c2, f2, rfl, hc2, hs2, hf2, hb2⟩)
   | (go_at_call 137; refine (HN.out _ a2 c2 f2 hs2 hc2).mono ?_; rintro e2 w3 ⟨a3, c3, f3, rfl, hc3, hs3, hf3, hb3⟩))
 all_goals
  go_wp2_with fail
  go_ret
  have q2 : Below w.heap.size w w2 := HW.out.trans (((Below.refl _ W).drew.trans hb2).mono HW.out.size)
  exact lift_rows q2 rfl hc3 hs3 hf3 hb3
theorem impl_cat (n : Int) (t : ByteArray) (w : World) (b off cap : Nat) (o1 n1 : Int) (t1 : ByteArray) (l1 c1 : Nat) (a1 : Option Addr) (o2 n2 : Int) (t2 : ByteArray) (l2 c2 : Nat) (a2 : Option Addr) (X Y : List (Int × ByteArray)) (hX : lv X = true) (hY : lv Y = true) (hb : b < w.heap.size) (hcap : 2 ≤ cap)
  (h8 : Eight w b off o1 n1 t1 a1 l1 c1 o2 n2 t2 a2 l2 c2)
  (hK : ∀ W, Below w.heap.size w W → Calls Tryz.prog 121 #[.agg #[.int .i64 o1, .int .i64 n1, .string t1, .slice a1 l1 c1]] W (RowsNew W X))
  (hK2 : ∀ W, Below w.heap.size w W → Calls Tryz.prog 121 #[.agg #[.int .i64 o2, .int .i64 n2, .string t2, .slice a2 l2 c2]] W (RowsNew W Y)) :
  Calls Tryz.prog 121 #[.agg #[.int .i64 7, .int .i64 n, .string t, .slice (some ⟨b, off, none⟩) 2 cap]] w (RowsNew w (catL X Y)) := by
 have B1 := Lib.hid (show ∀ ob, Below w.heap.size w (w.alloc ob) from fun ob => (Below.refl _ _).alloc (Nat.le_refl _) _)
 have HK := Lib.hid hK
 have HK2 := Lib.hid hK2
 have HN := Lib.hid (fun (W : World) (a : Option Addr) (c : Nat) (fs : List Nat) (hs : LaySub W a X fs) (hc : X.length ≤ c) (a' : Option Addr) (c' : Nat) (fs' : List Nat) (hs' : LaySub W a' Y fs') (hc' : Y.length ≤ c') => catRows X Y hX hY W a c fs hs hc a' c' fs' hs' hc')
 obtain ⟨⟨x0, x1, x2, x3⟩, y0, y1, y2, y3⟩ := h8
 clear hK hK2 hX hY
 go_enter Tryz.func121, Tryz.ntmps121
 go_wp2_with fail
 obtain ⟨W, hW, hbW, lW, lb, xx, xs, x4, x5, x6, x7⟩ := boxed_one (T := 25) 7 n t b off 2 cap hb x0 x1 x2 x3
 rw [hW]
 have HW := Lib.hid hbW
 have z0 : W.cell? ⟨b, off + 4, none⟩ = _ := (hbW.cell (p := ⟨_, _, _⟩) hb).trans y0
 have z1 : W.cell? ⟨b, off + 4 + 1, none⟩ = _ := (hbW.cell (p := ⟨_, _, _⟩) hb).trans y1
 have z2 : W.cell? ⟨b, off + 4 + 2, none⟩ = _ := (hbW.cell (p := ⟨_, _, _⟩) hb).trans y2
 have z3 : W.cell? ⟨b, off + 4 + 3, none⟩ = _ := (hbW.cell (p := ⟨_, _, _⟩) hb).trans y3
 clear hW hbW x0 x1 x2 x3 y0 y1 y2 y3 xx
 go_region_held3 (fun w' => w'.cell? ⟨w.heap.size, 3, none⟩ = some (.slice (some ⟨b, off, none⟩) 2 cap) ∧ w'.cell? ⟨b, off, none⟩ = some (.int .i64 o1) ∧ w'.cell? ⟨b, off + 1, none⟩ = some (.int .i64 n1) ∧ w'.cell? ⟨b, off + 2, none⟩ = some (.string t1) ∧ w'.cell? ⟨b, off + 3, none⟩ = some (.slice a1 l1 c1) ∧ w'.cell? ⟨b, off + 4, none⟩ = some (.int .i64 o2) ∧ w'.cell? ⟨b, off + 4 + 1, none⟩ = some (.int .i64 n2) ∧ w'.cell? ⟨b, off + 4 + 2, none⟩ = some (.string t2) ∧ w'.cell? ⟨b, off + 4 + 3, none⟩ = some (.slice a2 l2 c2))
  (first | go_keep | (refine ⟨?_, ?_, ?_, ?_, ?_, ?_, ?_, ?_, ?_⟩ <;> (first | assumption | (rw [hbX.cell (p := ⟨_, _, _⟩) (by first | (simp; done) | (simp; omega) | omega)]; assumption) | (rw [hbY.cell (p := ⟨_, _, _⟩) (by have := hbX.size; first | (simp at this ⊢; done) | (simp at this ⊢; omega) | omega), hbX.cell (p := ⟨_, _, _⟩) (by first | (simp; done) | (simp; omega) | omega)]; assumption) | (rw [hb3.cell (p := ⟨_, _, _⟩) (by have := hbX.size; have := hbY.size; first | (simp at *; omega) | omega), hbY.cell (p := ⟨_, _, _⟩) (by have := hbX.size; first | (simp at this ⊢; done) | (simp at this ⊢; omega) | omega), hbX.cell (p := ⟨_, _, _⟩) (by first | (simp; done) | (simp; omega) | omega)]; assumption))))
  (first
   | (go_at_call_of 121 (Value.agg #[.int .i64 o1, .int .i64 n1, .string t1, .slice a1 l1 c1]); refine (HK.out _ (by first | exact HW.out | exact HW.out.drew)).mono ?_; rintro e1 wX ⟨aX, cX, fX, rfl, hcX, hsX, hfX, hbX⟩)
   | (go_at_call_of 121 (Value.agg #[.int .i64 o2, .int .i64 n2, .string t2, .slice a2 l2 c2]); refine (HK2.out _ (HW.out.trans (((Below.refl _ W).drew.trans hbX).mono HW.out.size))).mono ?_; rintro e1 wY ⟨aY, cY, fY, rfl, hcY, hsY, hfY, hbY⟩)
   | (go_at_call 138; refine (HN.out _ aX cX fX (hsX.below hsX.lt hbY) hcX aY cY fY hsY hcY).mono ?_; rintro e2 w3 ⟨a3, c3, f3, rfl, hc3, hs3, hf3, hb3⟩))
 all_goals
  go_wp2_with fail
  go_ret
  have q2 : Below w.heap.size w wX := HW.out.trans (((Below.refl _ W).drew.trans hbX).mono HW.out.size)
  have q3 : Below w.heap.size w wY := q2.trans (hbY.mono q2.size)
  exact lift_rows q3 rfl hc3 hs3 hf3 hb3
theorem implS_all : ∀ d : Nat, d ≤ 40 → implS d := by
 intro d
 induction d with
 | zero => intro _ o n t k h; rw [okD_zero] at h; cases h
 | succ d ih =>
   intro hd o n t k h hcnt w a cap fs hs hfs hc
   have IH := ih (by omega)
   have hg := fun o n t k (h : okD d o n t k = true) (hc : 1 + k.cnt ≤ 80) => (open_good d o n t k h).lv hc (by omega)
   simp only [okD, Bool.and_eq_true, decide_eq_true_eq] at h
   obtain ⟨⟨_, hn⟩, hk⟩ := h
   rw [show d + 1 - 1 = d by omega] at hk
   rcases node_kinds hn with ⟨rfl, ht, hl⟩ | ⟨ho, rfl, hl⟩ | ⟨rfl, rfl, h0, h9, hl⟩ | ⟨rfl, rfl, hl⟩ | ⟨rfl, rfl, hl⟩
   ·exact impl_text n t w a k.len cap (tv_chars ht).2
   ·rcases ho with rfl | ho
    ·exact impl_empty n _ w a k.len cap
    ·rw [openD_line ho]; exact impl_lines o n _ w a k.len cap ho
   ·obtain ⟨o1, n1, t1, k1, rfl⟩ := one_kid hl
    rw [ok_cons, Bool.and_eq_true] at hk
    simp only [F.cnt] at hcnt
    rcases hs with ⟨e, _⟩ | ⟨b, off, f', rfl, _, rfl, hr⟩
    ·cases e
    ·obtain ⟨a1, c1, f1, f2, q0, q1, q2, q3, q4, q5, _, rfl⟩ := RowAt.cons_iff.1 hr
     rw [openD_nest]
     exact impl_nest n h0 h9 _ w b off cap o1 n1 t1 k1.len c1 a1 _ (hg _ _ _ _ hk.1 (by omega)) (hfs b (by simp)) hc q0 q1 q2 q3 (fun W hW => IH _ _ _ _ hk.1 (by omega) W a1 c1 f1 (q5.below (fun c hc => hfs c (by simp [hc])) hW) (fun c hc => Nat.lt_of_lt_of_le (hfs c (by simp [hc])) hW.size) q4)
   ·obtain ⟨o1, n1, t1, k1, o2, n2, t2, k2, rfl⟩ := two_kids hl
    rw [ok_cons, ok_cons, Bool.and_eq_true, Bool.and_eq_true] at hk
    simp only [F.cnt] at hcnt
    rcases hs with ⟨e, _⟩ | ⟨b, off, f', rfl, _, rfl, hr⟩
    ·cases e
    ·obtain ⟨a1, c1, f1, f2, q0, q1, q2, q3, q4, q5, q6, rfl⟩ := RowAt.cons_iff.1 hr
     obtain ⟨a2, c2, g1, g2, p0, p1, p2, p3, p4, p5, _, rfl⟩ := RowAt.cons_iff.1 q6
     rw [openD_cat]
     exact impl_cat n _ w b off cap o1 n1 t1 k1.len c1 a1 o2 n2 t2 k2.len c2 a2 _ _ (hg _ _ _ _ hk.1 (by omega)) (hg _ _ _ _ hk.2.1 (by omega)) (hfs b (by simp)) hc ⟨⟨q0, q1, q2, q3⟩, p0, p1, p2, p3⟩
      (fun W hW => IH _ _ _ _ hk.1 (by omega) W a1 c1 f1 (q5.below (fun c hc => hfs c (by simp [hc])) hW) (fun c hc => Nat.lt_of_lt_of_le (hfs c (by simp [hc])) hW.size) q4)
      (fun W hW => IH _ _ _ _ hk.2.1 (by omega) W a2 c2 g1 (p5.below (fun c hc => hfs c (by simp [hc])) hW) (fun c hc => Nat.lt_of_lt_of_le (hfs c (by simp [hc])) hW.size) p4)
   ·obtain ⟨o1, n1, t1, k1, rfl⟩ := one_kid hl
    rw [ok_cons, Bool.and_eq_true] at hk
    simp only [F.cnt] at hcnt
    rcases hs with ⟨e, _⟩ | ⟨b, off, f', rfl, _, rfl, hr⟩
    ·cases e
    ·obtain ⟨a1, c1, f1, f2, q0, q1, q2, q3, q4, q5, _, rfl⟩ := RowAt.cons_iff.1 hr
     rw [openD_group]
     exact impl_group n _ w b off cap o1 n1 t1 k1.len c1 a1 _ (hfs b (by simp)) hc q0 q1 q2 q3 (fun W hW => IH _ _ _ _ hk.1 (by omega) W a1 c1 f1 (q5.below (fun c hc => hfs c (by simp [hc])) hW) (fun c hc => Nat.lt_of_lt_of_le (hfs c (by simp [hc])) hW.size) q4)
end Go.Proofs.YtjcaiecapapceaaGreat.OpenR
namespace Go.Proofs.YtjcaiecapapceaaGreat.OpenR
open Go.RowKit P1 LayL LayV LayM LayN LayC
end Go.Proofs.YtjcaiecapapceaaGreat.OpenR
