import Derived.Test.YtmkibpimjaofgaaEqK
import Derived.Test.YtmkibpimjaofgaaLyB
import Derived.Test.YtmkibpimjaofgaaOpX
import Derived.Test.YtmkibpimjaofgaaSpV
import Derived.Deep.RegionHeld3
import Derived.BigQuiet
/-
  SameOpen of the program and of the model.
-/
set_option linter.unusedVariables false
set_option linter.unusedSimpArgs false
namespace Go.Proofs.Ytmkibpimjaofgaa.Eqd
open Go.RowKit P1 LayL LayV LayM LayN OpenR

def sameOp (o n : Int) (t : ByteArray) (k : F) (o' n' : Int) (t' : ByteArray) (k' : F) : Bool := (openRes o n t k).2 && ((openRes o' n' t' k').2 && decide ((openRes o n t k).1 = (openRes o' n' t' k').1))
theorem open_pair (o n : Int) (t : ByteArray) (k : F) : openRes o n t k = (if validD o n t k then openD o n t k else [], validD o n t k) := by
  cases h : validD o n t k with
  | true => rw [openRes_yes h]; rfl
  | false => rw [openRes_no h]; rfl


set_option maxRecDepth 100000 in
set_option maxHeartbeats 3200000 in
theorem implSameOpen (w : World) (o0 n0 : Int) (t0 : ByteArray) (k0 : F) (a0 : Option Addr) (c0 : Nat) (f0 : List Nat) (h0 : DocIn w t0 k0 a0 c0 f0) (o1 n1 : Int) (t1 : ByteArray) (k1 : F) (a1 : Option Addr) (c1 : Nat) (f1 : List Nat) (h1 : DocIn w t1 k1 a1 c1 f1) :
    Calls Try.prog 19 #[.agg #[.int .i64 o0, .int .i64 n0, .string t0, .slice a0 k0.len c0], .agg #[.int .i64 o1, .int .i64 n1, .string t1, .slice a1 k1.len c1]] w fun e w' => e = .returned (.bool (sameOp o0 n0 t0 k0 o1 n1 t1 k1)) ∧ Below w.heap.size w w' := by
  have hA := fun (W : World) (e : Ext w W) => (implOpenLayout W o0 n0 t0 k0 a0 c0 f0 (h0.ext e).sub (h0.ext e).lt (h0.ext e).cap_le (by have := h0.size; omega) h0.fits h0.tfit).mono fun _ _ g => LayRes.out (by rwa [open_pair] at g)
  have hB := fun (W : World) (e : Ext w W) => (implOpenLayout W o1 n1 t1 k1 a1 c1 f1 (h1.ext e).sub (h1.ext e).lt (h1.ext e).cap_le (by have := h1.size; omega) h1.fits h1.tfit).mono fun _ _ g => LayRes.out (by rwa [open_pair] at g)
  have hgx : (openRes o0 n0 t0 k0).1.length ≤ maxLen := by have := openRes_len o0 n0 t0 k0; unfold maxLen; omega
  have hgy : (openRes o1 n1 t1 k1).1.length ≤ maxLen := by have := openRes_len o1 n1 t1 k1; unfold maxLen; omega
  unfold sameOp
  rw [open_pair] at hgx hgy
  rw [open_pair o0, open_pair o1]
  obtain ⟨p0, hp0⟩ : ∃ p, validD o0 n0 t0 k0 = p := ⟨_, rfl⟩
  obtain ⟨p1, hp1⟩ : ∃ p, validD o1 n1 t1 k1 = p := ⟨_, rfl⟩
  rw [hp0] at hA hgx
  rw [hp1] at hB hgy
  rw [hp0, hp1]
  obtain ⟨X, hX⟩ : ∃ X : List (Int × ByteArray), (if p0 = true then openD o0 n0 t0 k0 else []) = X := ⟨_, rfl⟩
  obtain ⟨Y, hY⟩ : ∃ Y : List (Int × ByteArray), (if p1 = true then openD o1 n1 t1 k1 else []) = Y := ⟨_, rfl⟩
  rw [hX] at hA hgx
  rw [hY] at hB hgy
  rw [hX, hY]
  simp only at hgx hgy ⊢
  have HT := Lib.hid (fun (w' : World) => two_new w (.int .i64 o0) (.int .i64 n0) (.string t0) (.slice a0 k0.len c0) (.int .i64 o1) (.int .i64 n1) (.string t1) (.slice a1 k1.len c1) 29 (w' := w'))
  have HE := Lib.hid (show ∀ x y, Ext w ((w.alloc x).alloc y) from fun x y => ((Ext.refl w).alloc x).alloc y)
  obtain ⟨WW, hWW⟩ : ∃ W, ((w.alloc (.cells #[.int .i64 o0, .int .i64 n0, .string t0, .slice a0 k0.len c0] 29)).alloc (.cells #[.int .i64 o1, .int .i64 n1, .string t1, .slice a1 k1.len c1] 29)) = W := ⟨_, rfl⟩
  rw [hWW] at HT
  have hzz : w.heap.size + 1 < WW.heap.size := by rw [← hWW]; simp
  have HX0 := Lib.hid (show Ext w WW by rw [← hWW]; exact HE.out _ _)
  obtain ⟨L0, hL0⟩ : ∃ L, k0.len = L := ⟨_, rfl⟩
  obtain ⟨L1, hL1⟩ : ∃ L, k1.len = L := ⟨_, rfl⟩
  rw [hL0, hL1] at HT hWW ⊢
  have HWW := Lib.hid hWW
  clear hWW
  rw [hL0] at hA
  rw [hL1] at hB
  have HA := Lib.hid hA
  have HB := Lib.hid hB
  have HG := Lib.hid (And.intro hgx hgy)
  clear hA hB hX hY hp0 hp1 hL0 hL1 h0 h1 hgx hgy
  cases p0 <;> cases p1
  all_goals
    go_enter Try.func19, Try.ntmps19
    go_wp2_with fail
    try rw [HWW.out]
    refine (HA.out _ HX0.out).mono ?_
    rintro e1 w1 ⟨x1, y1, g1, rfl, hc1', hs1, hF1, hb1⟩
    have K1 := Lib.hid (show Ext WW w1 from hb1)
    have H1 := Lib.hid (And.intro hs1 hc1')
    clear hb1 hs1 hF1 hc1'
    obtain ⟨⟨u0, u1, u2, u3⟩, ⟨v0, v1, v2, v3⟩, hex⟩ := HT.out _ K1.out
    have HX1 := Lib.hid hex
    clear hex
    obtain ⟨m, hm⟩ : ∃ m, X.length = m := ⟨_, rfl⟩
    rw [hm]
    go_wp2_with fail
    refine (HB.out _ HX1.out).mono ?_
    rintro e2 w2 ⟨x2, y2, g2, rfl, hc2', hs2, hF2, hb2⟩
    have K2 := Lib.hid (Ext.trans HX1.out hb2)
    have hsame := LaySm.implLayoutSame X Y w2 x1 y1 g1 (H1.out.1.below H1.out.1.lt hb2) x2 y2 g2 hs2 H1.out.2 hc2' HG.out.1 HG.out.2
    clear hb2 hs2 hF2 hc2' u0 u1 u2 u3 v0 v1 v2 v3
    obtain ⟨m2, hm2⟩ : ∃ m, Y.length = m := ⟨_, rfl⟩
    rw [hm2]
    rw [hm, hm2] at hsame
    have HSM := Lib.hid hsame
    clear hsame hm hm2
    go_wp2_with fail
    first
      | (refine HSM.out.mono ?_
         rintro e3 w3 ⟨rfl, hb3⟩
         have K3 := Lib.hid (Ext.trans K2.out hb3)
         clear hb3
         go_wp2_with fail
         go_ret
         exact ⟨by simp, K3.out⟩)
      | (go_ret
         exact ⟨rfl, K2.out⟩)

set_option maxRecDepth 100000 in
set_option maxHeartbeats 6400000 in
theorem specSameOpen (w : World) (o0 n0 : Int) (t0 : ByteArray) (k0 : F) (a0 : Option Addr) (c0 : Nat) (f0 : List Nat) (h0 : DocIn w t0 k0 a0 c0 f0) (o1 n1 : Int) (t1 : ByteArray) (k1 : F) (a1 : Option Addr) (c1 : Nat) (f1 : List Nat) (h1 : DocIn w t1 k1 a1 c1 f1) :
    Calls Try.prog 17 #[.agg #[.int .i64 o0, .int .i64 n0, .string t0, .slice a0 k0.len c0], .agg #[.int .i64 o1, .int .i64 n1, .string t1, .slice a1 k1.len c1]] w fun e w' => e = .returned (.bool (sameOp o0 n0 t0 k0 o1 n1 t1 k1)) ∧ Below w.heap.size w w' := by
  have hA := fun (W : World) (e : Ext w W) => SpecC.docValid W o0 n0 t0 k0 a0 c0 f0 (h0.ext e).sub (h0.ext e).lt (h0.ext e).cap_le (by have := h0.size; omega) h0.fits h0.tfit
  have hB := fun (W : World) (e : Ext w W) => SpecC.docValid W o1 n1 t1 k1 a1 c1 f1 (h1.ext e).sub (h1.ext e).lt (h1.ext e).cap_le (by have := h1.size; omega) h1.fits h1.tfit
  have hOA := fun (hv : validD o0 n0 t0 k0 = true) (W : World) (e : Ext w W) => specS_all 40 (by omega) o0 n0 t0 k0 (valid_open hv).1 (valid_open hv).2 W a0 c0 f0 (h0.ext e).sub (h0.ext e).lt (h0.ext e).cap_le
  have hOB := fun (hv : validD o1 n1 t1 k1 = true) (W : World) (e : Ext w W) => specS_all 40 (by omega) o1 n1 t1 k1 (valid_open hv).1 (valid_open hv).2 W a1 c1 f1 (h1.ext e).sub (h1.ext e).lt (h1.ext e).cap_le
  have hgx := openRes_len o0 n0 t0 k0
  have hgy := openRes_len o1 n1 t1 k1
  unfold sameOp
  rw [open_pair] at hgx hgy
  rw [open_pair o0, open_pair o1]
  simp only at hgx hgy ⊢
  have HT := Lib.hid (fun (w' : World) => two_new w (.int .i64 o0) (.int .i64 n0) (.string t0) (.slice a0 k0.len c0) (.int .i64 o1) (.int .i64 n1) (.string t1) (.slice a1 k1.len c1) 29 (w' := w'))
  have HE := Lib.hid (show ∀ x y, Ext w ((w.alloc x).alloc y) from fun x y => ((Ext.refl w).alloc x).alloc y)
  obtain ⟨WW, hWW⟩ : ∃ W, ((w.alloc (.cells #[.int .i64 o0, .int .i64 n0, .string t0, .slice a0 k0.len c0] 29)).alloc (.cells #[.int .i64 o1, .int .i64 n1, .string t1, .slice a1 k1.len c1] 29)) = W := ⟨_, rfl⟩
  rw [hWW] at HT
  have hzz : w.heap.size + 1 < WW.heap.size := by rw [← hWW]; simp
  have HX0 := Lib.hid (show Ext w WW by rw [← hWW]; exact HE.out _ _)
  obtain ⟨L0, hL0⟩ : ∃ L, k0.len = L := ⟨_, rfl⟩
  obtain ⟨L1, hL1⟩ : ∃ L, k1.len = L := ⟨_, rfl⟩
  rw [hL0, hL1] at HT hWW ⊢
  have HWW := Lib.hid hWW
  clear hWW
  rw [hL0] at hA hOA
  rw [hL1] at hB hOB
  cases hp0 : validD o0 n0 t0 k0 with
  | false =>
    rw [hp0] at hA
    rw [Bool.false_and]
    have HA := Lib.hid hA
    clear hA hB hOA hOB hp0 hL0 hL1 h0 h1 hgx hgy
    go_enter Try.func17, Try.ntmps17
    go_wp2_with fail
    rw [HWW.out]
    obtain ⟨⟨u0, u1, u2, u3⟩, ⟨v0, v1, v2, v3⟩, _⟩ := HT.out WW (Ext.refl WW)
    have HE8 := Lib.hid (fun (w' : World) (e : Ext WW w') => And.intro (eight (HT.out w' e)) e)
    refine wp_region_held_drew (S := (fun w' => (w'.cell? ⟨w.heap.size, 0, none⟩ = some (.int .i64 o0) ∧ w'.cell? ⟨w.heap.size, 1, none⟩ = some (.int .i64 n0) ∧ w'.cell? ⟨w.heap.size, 2, none⟩ = some (.string t0) ∧ w'.cell? ⟨w.heap.size, 3, none⟩ = some (.slice a0 L0 c0) ∧ w'.cell? ⟨w.heap.size + 1, 0, none⟩ = some (.int .i64 o1) ∧ w'.cell? ⟨w.heap.size + 1, 1, none⟩ = some (.int .i64 n1) ∧ w'.cell? ⟨w.heap.size + 1, 2, none⟩ = some (.string t1) ∧ w'.cell? ⟨w.heap.size + 1, 3, none⟩ = some (.slice a1 L1 c1)) ∧ Ext WW w')) (by kernel_rfl) ?_ (fun hHeld => ?_)
    · exact HE8.out _ (Ext.refl _).drew
    refine wpAnyH_take (i := 0) (oi := { dst := some 5, op := Op.load 29 (Operand.tmp 2), type := 29, pos := "l8_equal.go:53", after := #[], guard := none }) (v := ?_) rfl (by kernel_rfl) (by kernel_rfl) (by kernel_rfl) (fun _ _ _ h => h) (Or.inl ⟨by rfl, ?_⟩) (by assumption) ?_
    rotate_left
    · (intro w hSw; (try dsimp only at hSw); (go_simp <;> with_reducible rfl))
    try simp only [Act.put, List.setIfInBounds_toArray, List.set_cons_zero, List.set_cons_succ]
    refine wpAnyH_ready (rs := [1]) (by kernel_rfl) (by simp) ?_
    refine AllReadyH.cons (o := { dst := some 6, op := Op.call { callee := Callee.value (Operand.func 60), args := #[Operand.tmp 5], argTypes := #[29] }, type := 4, pos := "l8_equal.go:53", after := #[{ on := 0, ground := Ground.data }], guard := none }) rfl (fun K hK => ?_) AllReadyH.nil
    go_simp
    go_at_call 60
    refine (HA.out _ (by exact (HT.out _ hHeld.2).2.2)).mono ?_
    rintro e1 w1 ⟨rfl, hb1⟩
    have K1 := Lib.hid (HE8.out w1 (hHeld.2.trans hb1))
    clear hb1
    try go_wp2_with fail
    refine hK.out _ _ ?_ (fun hHeld1 => ?_)
    · exact K1.out
    clear hK K hHeld
    try simp only [Act.put, List.setIfInBounds_toArray, List.set_cons_zero, List.set_cons_succ]
    refine wpAnyH_take (i := 2) (oi := { dst := some 7, op := Op.move (Operand.tmp 6), type := 4, pos := "l8_equal.go:53", after := #[{ on := 1, ground := Ground.data }, { on := 1, ground := Ground.chain }], guard := none }) (v := ?_) rfl (by kernel_rfl) (by kernel_rfl) (by kernel_rfl) (fun _ _ _ h => h) (Or.inl ⟨by rfl, ?_⟩) (by assumption) ?_
    rotate_left
    · (intro w hSw; (try dsimp only at hSw); (go_simp <;> with_reducible rfl))
    try simp only [Act.put, List.setIfInBounds_toArray, List.set_cons_zero, List.set_cons_succ]
    refine wpAnyH_take (i := 3) (oi := { dst := some 8, op := Op.load 29 (Operand.tmp 3), type := 29, pos := "l8_equal.go:53", after := #[{ on := 2, ground := Ground.guard }], guard := some (2, true) }) (v := undef) rfl (by kernel_rfl) (by kernel_rfl) (by kernel_rfl) (fun _ _ _ h => h) (Or.inr ⟨by rfl, rfl⟩) (by assumption) ?_
    try simp only [Act.put, List.setIfInBounds_toArray, List.set_cons_zero, List.set_cons_succ]
    refine wpAnyH_take (i := 4) (oi := { dst := some 9, op := Op.call { callee := Callee.value (Operand.func 60), args := #[Operand.tmp 8], argTypes := #[29] }, type := 4, pos := "l8_equal.go:53", after := #[{ on := 3, ground := Ground.data }, { on := 2, ground := Ground.chain }, { on := 2, ground := Ground.guard }], guard := some (2, true) }) (v := undef) rfl (by kernel_rfl) (by kernel_rfl) (by kernel_rfl) (fun _ _ _ h => h) (Or.inr ⟨by rfl, rfl⟩) (by assumption) ?_
    try simp only [Act.put, List.setIfInBounds_toArray, List.set_cons_zero, List.set_cons_succ]
    refine wpAnyH_take (i := 5) (oi := { dst := some 10, op := Op.pick (Operand.tmp 7) (Operand.tmp 9) (Operand.const (Value.bool false)), type := 4, pos := "l8_equal.go:53", after := #[{ on := 2, ground := Ground.data }, { on := 4, ground := Ground.data }], guard := none }) (v := ?_) rfl (by kernel_rfl) (by kernel_rfl) (by kernel_rfl) (fun _ _ _ h => h) (Or.inl ⟨by rfl, ?_⟩) (by assumption) ?_
    rotate_left
    · (intro w hSw; (try dsimp only at hSw); (go_simp <;> with_reducible rfl))
    try simp only [Act.put, List.setIfInBounds_toArray, List.set_cons_zero, List.set_cons_succ]
    refine wpAnyH_take (i := 6) (oi := { dst := some 11, op := Op.move (Operand.tmp 10), type := 4, pos := "l8_equal.go:53", after := #[{ on := 5, ground := Ground.data }, { on := 4, ground := Ground.chain }], guard := none }) (v := ?_) rfl (by kernel_rfl) (by kernel_rfl) (by kernel_rfl) (fun _ _ _ h => h) (Or.inl ⟨by rfl, ?_⟩) (by assumption) ?_
    rotate_left
    · (intro w hSw; (try dsimp only at hSw); (go_simp <;> with_reducible rfl))
    try simp only [Act.put, List.setIfInBounds_toArray, List.set_cons_zero, List.set_cons_succ]
    refine wpAnyH_take (i := 7) (oi := { dst := some 12, op := Op.load 29 (Operand.tmp 2), type := 29, pos := "l8_equal.go:53", after := #[{ on := 6, ground := Ground.guard }], guard := some (6, true) }) (v := undef) rfl (by kernel_rfl) (by kernel_rfl) (by kernel_rfl) (fun _ _ _ h => h) (Or.inr ⟨by rfl, rfl⟩) (by assumption) ?_
    try simp only [Act.put, List.setIfInBounds_toArray, List.set_cons_zero, List.set_cons_succ]
    refine wpAnyH_take (i := 8) (oi := { dst := some 13, op := Op.call { callee := Callee.value (Operand.func 62), args := #[Operand.tmp 12], argTypes := #[29] }, type := 36, pos := "l8_equal.go:53", after := #[{ on := 7, ground := Ground.data }, { on := 6, ground := Ground.chain }, { on := 6, ground := Ground.guard }], guard := some (6, true) }) (v := undef) rfl (by kernel_rfl) (by kernel_rfl) (by kernel_rfl) (fun _ _ _ h => h) (Or.inr ⟨by rfl, rfl⟩) (by assumption) ?_
    try simp only [Act.put, List.setIfInBounds_toArray, List.set_cons_zero, List.set_cons_succ]
    refine wpAnyH_take (i := 9) (oi := { dst := some 14, op := Op.load 29 (Operand.tmp 3), type := 29, pos := "l8_equal.go:53", after := #[{ on := 6, ground := Ground.guard }], guard := some (6, true) }) (v := undef) rfl (by kernel_rfl) (by kernel_rfl) (by kernel_rfl) (fun _ _ _ h => h) (Or.inr ⟨by rfl, rfl⟩) (by assumption) ?_
    try simp only [Act.put, List.setIfInBounds_toArray, List.set_cons_zero, List.set_cons_succ]
    refine wpAnyH_take (i := 10) (oi := { dst := some 15, op := Op.call { callee := Callee.value (Operand.func 62), args := #[Operand.tmp 14], argTypes := #[29] }, type := 36, pos := "l8_equal.go:53", after := #[{ on := 9, ground := Ground.data }, { on := 8, ground := Ground.chain }, { on := 6, ground := Ground.guard }], guard := some (6, true) }) (v := undef) rfl (by kernel_rfl) (by kernel_rfl) (by kernel_rfl) (fun _ _ _ h => h) (Or.inr ⟨by rfl, rfl⟩) (by assumption) ?_
    try simp only [Act.put, List.setIfInBounds_toArray, List.set_cons_zero, List.set_cons_succ]
    refine wpAnyH_take (i := 11) (oi := { dst := some 16, op := Op.call { callee := Callee.value (Operand.func 61), args := #[Operand.tmp 13, Operand.tmp 15], argTypes := #[36, 36] }, type := 4, pos := "l8_equal.go:53", after := #[{ on := 8, ground := Ground.data }, { on := 10, ground := Ground.data }, { on := 10, ground := Ground.chain }, { on := 6, ground := Ground.guard }], guard := some (6, true) }) (v := undef) rfl (by kernel_rfl) (by kernel_rfl) (by kernel_rfl) (fun _ _ _ h => h) (Or.inr ⟨by rfl, rfl⟩) (by assumption) ?_
    try simp only [Act.put, List.setIfInBounds_toArray, List.set_cons_zero, List.set_cons_succ]
    refine wpAnyH_take (i := 12) (oi := { dst := some 17, op := Op.pick (Operand.tmp 11) (Operand.tmp 16) (Operand.const (Value.bool false)), type := 4, pos := "l8_equal.go:53", after := #[{ on := 6, ground := Ground.data }, { on := 11, ground := Ground.data }], guard := none }) (v := ?_) rfl (by kernel_rfl) (by kernel_rfl) (by kernel_rfl) (fun _ _ _ h => h) (Or.inl ⟨by rfl, ?_⟩) (by assumption) ?_
    rotate_left
    · (intro w hSw; (try dsimp only at hSw); (go_simp <;> with_reducible rfl))
    try simp only [Act.put, List.setIfInBounds_toArray, List.set_cons_zero, List.set_cons_succ]
    refine wpAnyH_take (i := 13) (oi := { dst := some 4, op := Op.assign (Operand.tmp 17), type := 4, pos := "l8_equal.go:53", after := #[{ on := 12, ground := Ground.data }, { on := 11, ground := Ground.chain }, { on := 0, ground := Ground.phase }, { on := 1, ground := Ground.phase }, { on := 2, ground := Ground.phase }, { on := 3, ground := Ground.phase }, { on := 4, ground := Ground.phase }, { on := 5, ground := Ground.phase }, { on := 6, ground := Ground.phase }, { on := 7, ground := Ground.phase }, { on := 8, ground := Ground.phase }, { on := 9, ground := Ground.phase }, { on := 10, ground := Ground.phase }, { on := 11, ground := Ground.phase }, { on := 12, ground := Ground.phase }], guard := none }) (v := ?_) rfl (by kernel_rfl) (by kernel_rfl) (by kernel_rfl) (fun _ _ _ h => h) (Or.inl ⟨by rfl, ?_⟩) (by assumption) ?_
    rotate_left
    · (intro w hSw; (try dsimp only at hSw); (go_simp <;> with_reducible rfl))
    try simp only [Act.put, List.setIfInBounds_toArray, List.set_cons_zero, List.set_cons_succ]
    refine wpAnyH_done (by kernel_rfl) ?_ _
    go_wp2_with fail
    go_ret
    exact ⟨rfl, (HT.out _ K1.out.2).2.2⟩
  | true =>
    have hOA := hOA hp0
    rw [hp0] at hA
    rw [Bool.true_and]
    cases hp1 : validD o1 n1 t1 k1 with
    | false =>
      rw [hp1] at hB
      rw [Bool.false_and]
      have HA := Lib.hid hA
      have HB := Lib.hid hB
      clear hA hB hOA hOB hp0 hp1 hL0 hL1 h0 h1 hgx hgy
      go_enter Try.func17, Try.ntmps17
      go_wp2_with fail
      rw [HWW.out]
      obtain ⟨⟨u0, u1, u2, u3⟩, ⟨v0, v1, v2, v3⟩, _⟩ := HT.out WW (Ext.refl WW)
      have HE8 := Lib.hid (fun (w' : World) (e : Ext WW w') => And.intro (eight (HT.out w' e)) e)
      refine wp_region_held_drew (S := (fun w' => (w'.cell? ⟨w.heap.size, 0, none⟩ = some (.int .i64 o0) ∧ w'.cell? ⟨w.heap.size, 1, none⟩ = some (.int .i64 n0) ∧ w'.cell? ⟨w.heap.size, 2, none⟩ = some (.string t0) ∧ w'.cell? ⟨w.heap.size, 3, none⟩ = some (.slice a0 L0 c0) ∧ w'.cell? ⟨w.heap.size + 1, 0, none⟩ = some (.int .i64 o1) ∧ w'.cell? ⟨w.heap.size + 1, 1, none⟩ = some (.int .i64 n1) ∧ w'.cell? ⟨w.heap.size + 1, 2, none⟩ = some (.string t1) ∧ w'.cell? ⟨w.heap.size + 1, 3, none⟩ = some (.slice a1 L1 c1)) ∧ Ext WW w')) (by kernel_rfl) ?_ (fun hHeld => ?_)
      · exact HE8.out _ (Ext.refl _).drew
      refine wpAnyH_take (i := 0) (oi := { dst := some 5, op := Op.load 29 (Operand.tmp 2), type := 29, pos := "l8_equal.go:53", after := #[], guard := none }) (v := ?_) rfl (by kernel_rfl) (by kernel_rfl) (by kernel_rfl) (fun _ _ _ h => h) (Or.inl ⟨by rfl, ?_⟩) (by assumption) ?_
      rotate_left
      · (intro w hSw; (try dsimp only at hSw); (go_simp <;> with_reducible rfl))
      try simp only [Act.put, List.setIfInBounds_toArray, List.set_cons_zero, List.set_cons_succ]
      refine wpAnyH_ready (rs := [1]) (by kernel_rfl) (by simp) ?_
      refine AllReadyH.cons (o := { dst := some 6, op := Op.call { callee := Callee.value (Operand.func 60), args := #[Operand.tmp 5], argTypes := #[29] }, type := 4, pos := "l8_equal.go:53", after := #[{ on := 0, ground := Ground.data }], guard := none }) rfl (fun K hK => ?_) AllReadyH.nil
      go_simp
      go_at_call 60
      refine (HA.out _ (by exact (HT.out _ hHeld.2).2.2)).mono ?_
      rintro e1 w1 ⟨rfl, hb1⟩
      have K1 := Lib.hid (HE8.out w1 (hHeld.2.trans hb1))
      clear hb1
      try go_wp2_with fail
      refine hK.out _ _ ?_ (fun hHeld1 => ?_)
      · exact K1.out
      clear hK K hHeld
      try simp only [Act.put, List.setIfInBounds_toArray, List.set_cons_zero, List.set_cons_succ]
      refine wpAnyH_take (i := 2) (oi := { dst := some 7, op := Op.move (Operand.tmp 6), type := 4, pos := "l8_equal.go:53", after := #[{ on := 1, ground := Ground.data }, { on := 1, ground := Ground.chain }], guard := none }) (v := ?_) rfl (by kernel_rfl) (by kernel_rfl) (by kernel_rfl) (fun _ _ _ h => h) (Or.inl ⟨by rfl, ?_⟩) (by assumption) ?_
      rotate_left
      · (intro w hSw; (try dsimp only at hSw); (go_simp <;> with_reducible rfl))
      try simp only [Act.put, List.setIfInBounds_toArray, List.set_cons_zero, List.set_cons_succ]
      refine wpAnyH_take (i := 3) (oi := { dst := some 8, op := Op.load 29 (Operand.tmp 3), type := 29, pos := "l8_equal.go:53", after := #[{ on := 2, ground := Ground.guard }], guard := some (2, true) }) (v := ?_) rfl (by kernel_rfl) (by kernel_rfl) (by kernel_rfl) (fun _ _ _ h => h) (Or.inl ⟨by rfl, ?_⟩) (by assumption) ?_
      rotate_left
      · (intro w hSw; (try dsimp only at hSw); (go_simp <;> with_reducible rfl))
      try simp only [Act.put, List.setIfInBounds_toArray, List.set_cons_zero, List.set_cons_succ]
      refine wpAnyH_ready (rs := [4]) (by kernel_rfl) (by simp) ?_
      refine AllReadyH.cons (o := { dst := some 9, op := Op.call { callee := Callee.value (Operand.func 60), args := #[Operand.tmp 8], argTypes := #[29] }, type := 4, pos := "l8_equal.go:53", after := #[{ on := 3, ground := Ground.data }, { on := 2, ground := Ground.chain }, { on := 2, ground := Ground.guard }], guard := some (2, true) }) rfl (fun K hK => ?_) AllReadyH.nil
      go_simp
      go_at_call 60
      refine (HB.out _ (by exact (HT.out _ hHeld1.2).2.2)).mono ?_
      rintro e2 w2 ⟨rfl, hb2⟩
      have K2 := Lib.hid (HE8.out w2 (hHeld1.2.trans hb2))
      clear hb2
      try go_wp2_with fail
      refine hK.out _ _ ?_ (fun hHeld4 => ?_)
      · exact K2.out
      clear hK K hHeld1
      try simp only [Act.put, List.setIfInBounds_toArray, List.set_cons_zero, List.set_cons_succ]
      refine wpAnyH_take (i := 5) (oi := { dst := some 10, op := Op.pick (Operand.tmp 7) (Operand.tmp 9) (Operand.const (Value.bool false)), type := 4, pos := "l8_equal.go:53", after := #[{ on := 2, ground := Ground.data }, { on := 4, ground := Ground.data }], guard := none }) (v := ?_) rfl (by kernel_rfl) (by kernel_rfl) (by kernel_rfl) (fun _ _ _ h => h) (Or.inl ⟨by rfl, ?_⟩) (by assumption) ?_
      rotate_left
      · (intro w hSw; (try dsimp only at hSw); (go_simp <;> with_reducible rfl))
      try simp only [Act.put, List.setIfInBounds_toArray, List.set_cons_zero, List.set_cons_succ]
      refine wpAnyH_take (i := 6) (oi := { dst := some 11, op := Op.move (Operand.tmp 10), type := 4, pos := "l8_equal.go:53", after := #[{ on := 5, ground := Ground.data }, { on := 4, ground := Ground.chain }], guard := none }) (v := ?_) rfl (by kernel_rfl) (by kernel_rfl) (by kernel_rfl) (fun _ _ _ h => h) (Or.inl ⟨by rfl, ?_⟩) (by assumption) ?_
      rotate_left
      · (intro w hSw; (try dsimp only at hSw); (go_simp <;> with_reducible rfl))
      try simp only [Act.put, List.setIfInBounds_toArray, List.set_cons_zero, List.set_cons_succ]
      refine wpAnyH_take (i := 7) (oi := { dst := some 12, op := Op.load 29 (Operand.tmp 2), type := 29, pos := "l8_equal.go:53", after := #[{ on := 6, ground := Ground.guard }], guard := some (6, true) }) (v := undef) rfl (by kernel_rfl) (by kernel_rfl) (by kernel_rfl) (fun _ _ _ h => h) (Or.inr ⟨by rfl, rfl⟩) (by assumption) ?_
      try simp only [Act.put, List.setIfInBounds_toArray, List.set_cons_zero, List.set_cons_succ]
      refine wpAnyH_take (i := 8) (oi := { dst := some 13, op := Op.call { callee := Callee.value (Operand.func 62), args := #[Operand.tmp 12], argTypes := #[29] }, type := 36, pos := "l8_equal.go:53", after := #[{ on := 7, ground := Ground.data }, { on := 6, ground := Ground.chain }, { on := 6, ground := Ground.guard }], guard := some (6, true) }) (v := undef) rfl (by kernel_rfl) (by kernel_rfl) (by kernel_rfl) (fun _ _ _ h => h) (Or.inr ⟨by rfl, rfl⟩) (by assumption) ?_
      try simp only [Act.put, List.setIfInBounds_toArray, List.set_cons_zero, List.set_cons_succ]
      refine wpAnyH_take (i := 9) (oi := { dst := some 14, op := Op.load 29 (Operand.tmp 3), type := 29, pos := "l8_equal.go:53", after := #[{ on := 6, ground := Ground.guard }], guard := some (6, true) }) (v := undef) rfl (by kernel_rfl) (by kernel_rfl) (by kernel_rfl) (fun _ _ _ h => h) (Or.inr ⟨by rfl, rfl⟩) (by assumption) ?_
      try simp only [Act.put, List.setIfInBounds_toArray, List.set_cons_zero, List.set_cons_succ]
      refine wpAnyH_take (i := 10) (oi := { dst := some 15, op := Op.call { callee := Callee.value (Operand.func 62), args := #[Operand.tmp 14], argTypes := #[29] }, type := 36, pos := "l8_equal.go:53", after := #[{ on := 9, ground := Ground.data }, { on := 8, ground := Ground.chain }, { on := 6, ground := Ground.guard }], guard := some (6, true) }) (v := undef) rfl (by kernel_rfl) (by kernel_rfl) (by kernel_rfl) (fun _ _ _ h => h) (Or.inr ⟨by rfl, rfl⟩) (by assumption) ?_
      try simp only [Act.put, List.setIfInBounds_toArray, List.set_cons_zero, List.set_cons_succ]
      refine wpAnyH_take (i := 11) (oi := { dst := some 16, op := Op.call { callee := Callee.value (Operand.func 61), args := #[Operand.tmp 13, Operand.tmp 15], argTypes := #[36, 36] }, type := 4, pos := "l8_equal.go:53", after := #[{ on := 8, ground := Ground.data }, { on := 10, ground := Ground.data }, { on := 10, ground := Ground.chain }, { on := 6, ground := Ground.guard }], guard := some (6, true) }) (v := undef) rfl (by kernel_rfl) (by kernel_rfl) (by kernel_rfl) (fun _ _ _ h => h) (Or.inr ⟨by rfl, rfl⟩) (by assumption) ?_
      try simp only [Act.put, List.setIfInBounds_toArray, List.set_cons_zero, List.set_cons_succ]
      refine wpAnyH_take (i := 12) (oi := { dst := some 17, op := Op.pick (Operand.tmp 11) (Operand.tmp 16) (Operand.const (Value.bool false)), type := 4, pos := "l8_equal.go:53", after := #[{ on := 6, ground := Ground.data }, { on := 11, ground := Ground.data }], guard := none }) (v := ?_) rfl (by kernel_rfl) (by kernel_rfl) (by kernel_rfl) (fun _ _ _ h => h) (Or.inl ⟨by rfl, ?_⟩) (by assumption) ?_
      rotate_left
      · (intro w hSw; (try dsimp only at hSw); (go_simp <;> with_reducible rfl))
      try simp only [Act.put, List.setIfInBounds_toArray, List.set_cons_zero, List.set_cons_succ]
      refine wpAnyH_take (i := 13) (oi := { dst := some 4, op := Op.assign (Operand.tmp 17), type := 4, pos := "l8_equal.go:53", after := #[{ on := 12, ground := Ground.data }, { on := 11, ground := Ground.chain }, { on := 0, ground := Ground.phase }, { on := 1, ground := Ground.phase }, { on := 2, ground := Ground.phase }, { on := 3, ground := Ground.phase }, { on := 4, ground := Ground.phase }, { on := 5, ground := Ground.phase }, { on := 6, ground := Ground.phase }, { on := 7, ground := Ground.phase }, { on := 8, ground := Ground.phase }, { on := 9, ground := Ground.phase }, { on := 10, ground := Ground.phase }, { on := 11, ground := Ground.phase }, { on := 12, ground := Ground.phase }], guard := none }) (v := ?_) rfl (by kernel_rfl) (by kernel_rfl) (by kernel_rfl) (fun _ _ _ h => h) (Or.inl ⟨by rfl, ?_⟩) (by assumption) ?_
      rotate_left
      · (intro w hSw; (try dsimp only at hSw); (go_simp <;> with_reducible rfl))
      try simp only [Act.put, List.setIfInBounds_toArray, List.set_cons_zero, List.set_cons_succ]
      refine wpAnyH_done (by kernel_rfl) ?_ _
      go_wp2_with fail
      go_ret
      exact ⟨rfl, (HT.out _ K2.out.2).2.2⟩
    | true =>
      have hOB := hOB hp1
      rw [hp1] at hB
      rw [Bool.true_and]
      simp only [hp0, hp1, if_true] at hgx hgy ⊢
      obtain ⟨X, hX⟩ : ∃ X, openD o0 n0 t0 k0 = X := ⟨_, rfl⟩
      obtain ⟨Y, hY⟩ : ∃ Y, openD o1 n1 t1 k1 = Y := ⟨_, rfl⟩
      rw [hX] at hOA hgx
      rw [hY] at hOB hgy
      rw [hX, hY]
      have HSM := Lib.hid (fun (W : World) (x y : Option Addr) (cx cy : Nat) (fx fy : List Nat) (h1 : LaySub W x X fx) (h2 : LaySub W y Y fy) (h3 : X.length ≤ cx) (h4 : Y.length ≤ cy) => LaySm.specLayoutSame X Y W x cx fx h1 y cy fy h2 h3 h4 (by unfold maxLen; omega) (by unfold maxLen; omega))
      have HA := Lib.hid hA
      have HB := Lib.hid hB
      have HOA := Lib.hid hOA
      have HOB := Lib.hid hOB
      clear hA hB hOA hOB hp0 hp1 hL0 hL1 h0 h1 hgx hgy hX hY
      obtain ⟨m, hm⟩ : ∃ m, X.length = m := ⟨_, rfl⟩
      obtain ⟨m2, hm2⟩ : ∃ m, Y.length = m := ⟨_, rfl⟩
      rw [hm, hm2] at HSM
      have HM := Lib.hid (And.intro hm hm2)
      clear hm hm2
      go_enter Try.func17, Try.ntmps17
      go_wp2_with fail
      rw [HWW.out]
      obtain ⟨⟨u0, u1, u2, u3⟩, ⟨v0, v1, v2, v3⟩, _⟩ := HT.out WW (Ext.refl WW)
      go_region_held3 (fun w' => w'.cell? ⟨w.heap.size, 0, none⟩ = some (.int .i64 o0) ∧ w'.cell? ⟨w.heap.size, 1, none⟩ = some (.int .i64 n0) ∧ w'.cell? ⟨w.heap.size, 2, none⟩ = some (.string t0) ∧ w'.cell? ⟨w.heap.size, 3, none⟩ = some (.slice a0 L0 c0) ∧ w'.cell? ⟨w.heap.size + 1, 0, none⟩ = some (.int .i64 o1) ∧ w'.cell? ⟨w.heap.size + 1, 1, none⟩ = some (.int .i64 n1) ∧ w'.cell? ⟨w.heap.size + 1, 2, none⟩ = some (.string t1) ∧ w'.cell? ⟨w.heap.size + 1, 3, none⟩ = some (.slice a1 L1 c1))
        (first | (go_keep; done) | with_reducible exact eight (HT.out _ q5) | with_reducible exact eight (HT.out _ q4) | with_reducible exact eight (HT.out _ q3) | with_reducible exact eight (HT.out _ q2) | with_reducible exact eight (HT.out _ q1))
        (first
          | (go_at_call_of 60 (Value.agg #[.int .i64 o0, .int .i64 n0, .string t0, .slice a0 L0 c0]); refine (HA.out _ (by exact HX0.out.drew)).mono ?_; rintro e1 w1 ⟨rfl, hb1⟩; have q1 : Ext WW w1 := (Ext.refl WW).drew.trans hb1)
          | (go_at_call_of 60 (Value.agg #[.int .i64 o1, .int .i64 n1, .string t1, .slice a1 L1 c1]); refine (HB.out _ (by exact (HT.out _ q1).2.2)).mono ?_; rintro e2 w2 ⟨rfl, hb2⟩; have q2 : Ext WW w2 := q1.trans hb2)
          | (go_at_call_of 62 (Value.agg #[.int .i64 o0, .int .i64 n0, .string t0, .slice a0 L0 c0]); refine (HOA.out _ (by exact (HT.out _ q2).2.2)).mono ?_; rintro e3 w3 ⟨x1, y1, g1, rfl, hc1', hs1, hF1, hb3⟩; have q3 : Ext WW w3 := q2.trans hb3; have J1 := Lib.hid (And.intro hs1 hc1'); rw [HM.out.1]; clear hc1' hs1 hF1 hb3)
          | (go_at_call_of 62 (Value.agg #[.int .i64 o1, .int .i64 n1, .string t1, .slice a1 L1 c1]); refine (HOB.out _ (by exact (HT.out _ q3).2.2)).mono ?_; rintro e4 w4 ⟨x2, y2, g2, rfl, hc2', hs2, hF2, hb4⟩; have q4 : Ext WW w4 := q3.trans hb4; have J2 := Lib.hid (And.intro hs2 (And.intro hc2' (J1.out.1.below J1.out.1.lt hb4))); rw [HM.out.2]; clear hc2' hs2 hF2 hb4)
          | (go_at_call 61; refine (HSM.out _ _ _ _ _ _ _ (by exact J2.out.2.2) (by exact J2.out.1) (by have := J1.out.2; have := HM.out.1; omega) (by have := J2.out.2.1; have := HM.out.2; omega)).mono ?_; rintro e5 w5 ⟨rfl, hb5⟩; have q5 : Ext WW w5 := q4.trans hb5))
      go_wp2_with fail
      go_ret
      exact ⟨rfl, (HT.out _ q5).2.2⟩


end Go.Proofs.Ytmkibpimjaofgaa.Eqd

