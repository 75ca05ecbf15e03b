import Derived.Deep.QuietTactic
import Derived.BigQuiet
import Derived.Deep.Slices
import Derived.IntWalk
import Derived.Test.YtjcaiecapapceaaGreatTo
/-
 What the model's source of drawn numbers comes to: some number below the bound; only its own counter is written.
-/
set_option maxRecDepth 100000
set_option maxHeartbeats 6400000
namespace Go.Proofs.YtjcaiecapapceaaGreat.Draw
open Go.RowKit
set_option linter.unusedVariables false
set_option linter.unusedSimpArgs false
theorem xor_pos (X Y : Int) (h1 : 0 ≤ X) (h2 : X < 4611686018427387904) (h3 : 0 ≤ Y) (h4 : Y < 4611686018427387904) : 0 ≤ bits .xor .i64 X Y := by
 obtain ⟨a, rfl⟩ := Int.eq_ofNat_of_zero_le h1
 obtain ⟨b, rfl⟩ := Int.eq_ofNat_of_zero_le h3
 have hx : a ^^^ b < 2 ^ 62 := Nat.xor_lt_two_pow (by omega) (by omega)
 have e1 : (BitVec.ofInt 64 (a : Int)).toNat = a := by
  rw [BitVec.ofInt_natCast, BitVec.toNat_ofNat]; exact Nat.mod_eq_of_lt (by omega)
 have e2 : (BitVec.ofInt 64 (b : Int)).toNat = b := by
  rw [BitVec.ofInt_natCast, BitVec.toNat_ofNat]; exact Nat.mod_eq_of_lt (by omega)
 show 0 ≤ IntKind.i64.wrap ((BitVec.ofInt 64 (a : Int) ^^^ BitVec.ofInt 64 (b : Int)).toNat : Int)
 rw [BitVec.toNat_xor, e1, e2, IntWalk.i64_in _ (by omega)]
 omega
def Rd (w : World) (x lo p : Nat) : Prop := ∃ (a : Option Addr) (l c : Nat), w.cell? ⟨x, 0, none⟩ = some (.slice a l c) ∧ w.cell? ⟨x, 1, none⟩ = some (.int .i64 p) ∧ w.frozen? ⟨x, 1, none⟩ = false ∧ l ≤ 2000 ∧ l ≤ c ∧ lo ≤ x ∧
 (0 < l → ∃ b off, a = some ⟨b, off, none⟩ ∧ b < lo ∧ ∀ i, i < l → ∃ v : Nat, v ≤ 255 ∧ w.cell? ⟨b, off + i, none⟩ = some (.int .u8 v))
def Pick (w : World) (x lo p : Nat) (n : Int) (e : Ending) (w' : World) : Prop := ∃ r : Int, e = .returned (.int .i64 r) ∧ 0 ≤ r ∧ (r < n ∨ r = 0) ∧ Rd w' x lo (p + 1) ∧ But w.heap.size x w w'
theorem Rd.step {w : World} {x lo p : Nat} (h : Rd w x lo p) : Rd (w.setCell ⟨x, 1, none⟩ (.int .i64 ((p : Int) + 1))) x lo (p + 1) := by
 obtain ⟨a, l, c, h0, h1, h2, h3, h4, h5, h6⟩ := h
 refine ⟨a, l, c, ?_, ?_, by rw [World.frozen?_setCell]; exact h2, h3, h4, h5, fun hl => ?_⟩
 ·rw [World.cell?_setCell_other _ _ _ _ (by simp)]; exact h0
 ·rw [World.cell?_setCell_same w _ _ h1]; simp
 ·obtain ⟨b, off, ha, hb, hc⟩ := h6 hl
  refine ⟨b, off, ha, hb, fun i hi => ?_⟩
  obtain ⟨v, hv, hcell⟩ := hc i hi
  exact ⟨v, hv, by rw [World.cell?_setCell_other _ _ _ _ (by intro e; injection e with e1; omega)]; exact hcell⟩
theorem Rd.drewN {w : World} {x lo p : Nat} (h : Rd w x lo p) (n : Nat) : Rd (w.drewN n) x lo p := by
 induction n with
 | zero => exact h
 | succ n ih => exact ih
theorem butDrewN {B x : Nat} {a w : World} (h : But B x a w) (n : Nat) : But B x a (w.drewN n) := by
 induction n with
 | zero => exact h
 | succ n ih => exact ih.drew
theorem pick (w : World) (x lo p : Nat) (n : Int) (hrd : Rd w x lo p) (hp : p ≤ 1073741824) :
  Calls Tryz.prog 70 #[.pointer (some ⟨x, 0, none⟩), .int .i64 n] w (Pick w x lo p n) := by
 have hstep := hrd.step
 have hbut : But w.heap.size x w (w.setCell ⟨x, 1, none⟩ (.int .i64 ((p : Int) + 1))) := (But.refl _ _ _).setCell (p := ⟨x, 1, none⟩) (Or.inl rfl) _
 have HST := Lib.hid (And.intro hstep hbut)
 obtain ⟨a, l, c, h0, h1, h2, h3, h4, h5, h6⟩ := hrd
 have hS0 : ∀ v, (w.setCell ⟨x, 1, none⟩ v).cell? ⟨x, 0, none⟩ = some (.slice a l c) := fun v => by rw [World.cell?_setCell_other _ _ _ _ (by simp)]; exact h0
 have hS1 : ∀ v, (w.setCell ⟨x, 1, none⟩ v).cell? ⟨x, 1, none⟩ = some v := fun v => World.cell?_setCell_same w _ _ h1
 clear hstep hbut
 by_cases hn : n < 1
 ·clear h6
  go_enter Tryz.func70, Tryz.ntmps70
  go_wp2_with fail
  go_ret
  exact ⟨0, rfl, by omega, Or.inr rfl, HST.out.1, HST.out.2⟩
 ·have hn1 : 1 ≤ n := by omega
  by_cases hl : l = 0
  ·subst hl
   clear h6
   go_enter Tryz.func70, Tryz.ntmps70
   go_wp2_with fail
   go_ret
   exact ⟨0, rfl, by omega, Or.inr rfl, HST.out.1, HST.out.2⟩
  ·have hl1 : 1 ≤ l := by omega
   have hl2 : ((l : Int) == 0) = false := by rw [beq_eq_false_iff_ne]; omega
   obtain ⟨b, off, rfl, hb, hbytes⟩ := h6 (by omega)
   obtain ⟨f, hf⟩ := Deep.choose_lt (α := Nat) hbytes
   have hSb : ∀ v i, i < l → (w.setCell ⟨x, 1, none⟩ v).cell? ⟨b, off + i, none⟩ = some (.int .u8 (f i : Int)) := fun v i hi => by rw [World.cell?_setCell_other _ _ _ _ (by intro e; injection e with e1; omega)]; exact (hf i hi).2
   clear h6 hbytes
   by_cases hk : p < l
   ·have hfk : (f p : Int) ≤ 255 := by have := (hf p hk).1; omega
    have hck := hSb (.int .i64 ((p : Int) + 1)) p hk
    have hr0 : 0 ≤ (f p : Int) % n := Int.emod_nonneg _ (by omega)
    have hr1 : (f p : Int) % n < n := Int.emod_lt_of_pos _ (by omega)
    have HR := Lib.hid (And.intro hr0 hr1)
    clear hr0 hr1 hf hSb hl
    go_enter Tryz.func70, Tryz.ntmps70
    go_wp2_with fail
    go_ret
    exact ⟨_, rfl, HR.out.1, Or.inl HR.out.2, HST.out.1, HST.out.2⟩
   ·obtain ⟨m1, hm1⟩ : ∃ m1, p % l = m1 := ⟨_, rfl⟩
    obtain ⟨m2, hm2⟩ : ∃ m2, (p * 7 + 3) % l = m2 := ⟨_, rfl⟩
    obtain ⟨q, hq⟩ : ∃ q, p / l = q := ⟨_, rfl⟩
    have hlt1 : m1 < l := hm1 ▸ Nat.mod_lt _ (by omega)
    have hlt2 : m2 < l := hm2 ▸ Nat.mod_lt _ (by omega)
    have hqp : q ≤ p := hq ▸ Nat.div_le_self _ _
    have ht1 : (p : Int).tmod (l : Int) = (m1 : Int) := by rw [← hm1]; rfl
    have ht2 : ((p : Int) * 7 + 3).tmod (l : Int) = (m2 : Int) := by rw [← hm2]; rfl
    have ht3 : (p : Int).tdiv (l : Int) = (q : Int) := by rw [← hq]; rfl
    obtain ⟨v1, hv1⟩ : ∃ v1, f m1 = v1 := ⟨_, rfl⟩
    obtain ⟨v2, hv2⟩ : ∃ v2, f m2 = v2 := ⟨_, rfl⟩
    have hf1 : v1 ≤ 255 := hv1 ▸ (hf _ hlt1).1
    have hf2 : v2 ≤ 255 := hv2 ▸ (hf _ hlt2).1
    have hc1 := hSb (.int .i64 ((p : Int) + 1)) _ hlt1
    have hc2 := hSb (.int .i64 ((p : Int) + 1)) _ hlt2
    rw [hv1] at hc1
    rw [hv2] at hc2
    have w1 : IntKind.i64.wrap ((p : Int) * 7) = (p : Int) * 7 := IntWalk.i64_in _ (by omega)
    have w2 : IntKind.i64.wrap ((p : Int) * 7 + 3) = (p : Int) * 7 + 3 := IntWalk.i64_in _ (by omega)
    have w3 : IntKind.i64.wrap (v1 : Int) = (v1 : Int) := IntWalk.i64_in _ (by omega)
    have w4 : IntKind.i64.wrap (v2 : Int) = (v2 : Int) := IntWalk.i64_in _ (by omega)
    have w5 : IntKind.i64.wrap ((v1 : Int) * 131) = (v1 : Int) * 131 := IntWalk.i64_in _ (by omega)
    have w6 : IntKind.i64.wrap ((v2 : Int) * 1117) = (v2 : Int) * 1117 := IntWalk.i64_in _ (by omega)
    have w7 : IntKind.i64.wrap ((v1 : Int) * 131 + (v2 : Int) * 1117) = (v1 : Int) * 131 + (v2 : Int) * 1117 := IntWalk.i64_in _ (by omega)
    have w8 : IntKind.i64.wrap ((p : Int) * 29) = (p : Int) * 29 := IntWalk.i64_in _ (by omega)
    have w9 : IntKind.i64.wrap ((v1 : Int) * 131 + (v2 : Int) * 1117 + (p : Int) * 29) = (v1 : Int) * 131 + (v2 : Int) * 1117 + (p : Int) * 29 := IntWalk.i64_in _ (by omega)
    have w10 : IntKind.i64.wrap (q : Int) = (q : Int) := IntWalk.i64_in _ (by omega)
    have w11 : IntKind.i64.wrap ((q : Int) * 53) = (q : Int) * 53 := IntWalk.i64_in _ (by omega)
    obtain ⟨X, hX⟩ : ∃ X : Int, (v1 : Int) * 131 + (v2 : Int) * 1117 + (p : Int) * 29 + (q : Int) * 53 = X := ⟨_, rfl⟩
    have w12 : IntKind.i64.wrap ((v1 : Int) * 131 + (v2 : Int) * 1117 + (p : Int) * 29 + (q : Int) * 53) = X := by rw [← hX]; exact IntWalk.i64_in _ (by omega)
    have hX0 : 0 ≤ X := by omega
    have hX1 : X ≤ 109951162777600 := by omega
    have hl3 : ¬ (l : Int) = 0 := by omega
    have i1 : (m1 : Int) < (l : Int) := by omega
    have i2 : (m2 : Int) < (l : Int) := by omega
    clear hf hSb hm1 hm2 hq hv1 hv2 hX
    go_enter Tryz.func70, Tryz.ntmps70
    go_wp2_with fail
    go_quiet (fail)
    clear w1 w2 w3 w4 w5 w6 w7 w8 w9 w10 w11 w12
    have hx := xor_pos X (X / 64) hX0 (by omega) (by omega) (by omega)
    go_wp2_with fail
    go_ret
    exact ⟨_, rfl, Int.emod_nonneg _ (by omega), Or.inl (Int.emod_lt_of_pos _ (by omega)), HST.out.1.drewN _, butDrewN HST.out.2 _⟩
def Ints (w : World) (b off : Nat) (xs : List Int) : Prop := ∀ i (h : i < xs.length), w.cell? ⟨b, off + i, none⟩ = some (.int .i64 xs[i])
def Strs (w : World) (b off : Nat) (xs : List ByteArray) : Prop := ∀ i (h : i < xs.length), w.cell? ⟨b, off + i, none⟩ = some (.string xs[i])
def NumOut (w : World) (x lo p : Nat) (xs : List Int) (e : Ending) (w' : World) : Prop := ∃ r ∈ xs, e = .returned (.int .i64 r) ∧ Rd w' x lo (p + 1) ∧ But w.heap.size x w w'
def OfOut (w : World) (x lo p : Nat) (xs : List ByteArray) (e : Ending) (w' : World) : Prop := ∃ r ∈ xs, e = .returned (.string r) ∧ Rd w' x lo (p + 1) ∧ But w.heap.size x w w'
theorem num (w : World) (x lo p b off cap : Nat) (xs : List Int) (hrd : Rd w x lo p) (hp : p ≤ 1073741824) (hx : Ints w b off xs) (h0 : 0 < xs.length) (hcap : xs.length ≤ cap) (hm : xs.length ≤ 1000) (hb : b < w.heap.size) (hbx : b ≠ x) :
  Calls Tryz.prog 80 #[.pointer (some ⟨x, 0, none⟩), .slice (some ⟨b, off, none⟩) xs.length cap] w (NumOut w x lo p xs) := by
 obtain ⟨L, hL⟩ : ∃ L, xs.length = L := ⟨_, rfl⟩
 have hpk := pick w x lo p xs.length hrd hp
 rw [hL] at h0 hcap hm hpk ⊢
 have HP := Lib.hid hpk
 have HX := Lib.hid hx
 have HL := Lib.hid hL
 clear hpk hx hrd hL
 go_enter Tryz.func80, Tryz.ntmps80
 go_wp2_with fail
 refine HP.out.mono ?_
 rintro e1 w1 ⟨r, rfl, hr0, hr1, hrd1, hbut⟩
 obtain ⟨k, rfl⟩ := Int.eq_ofNat_of_zero_le hr0
 have hkL : k < L := by omega
 have hk' : k < xs.length := by rw [HL.out]; exact hkL
 have hc : w1.cell? ⟨b, off + k, none⟩ = some (.int .i64 xs[k]) := by rw [hbut.cell hb hbx]; exact HX.out k hk'
 have HR := Lib.hid (And.intro hrd1 hbut)
 have i1 : (k : Int) < (L : Int) := by omega
 clear hr1 hrd1 hbut
 go_wp2_with fail
 go_ret
 exact ⟨xs[k], List.getElem_mem _, rfl, HR.out.1, HR.out.2⟩
theorem of (w : World) (x lo p b off cap : Nat) (xs : List ByteArray) (hrd : Rd w x lo p) (hp : p ≤ 1073741824) (hx : Strs w b off xs) (h0 : 0 < xs.length) (hcap : xs.length ≤ cap) (hm : xs.length ≤ 1000) (hb : b < w.heap.size) (hbx : b ≠ x) :
  Calls Tryz.prog 128 #[.pointer (some ⟨x, 0, none⟩), .slice (some ⟨b, off, none⟩) xs.length cap] w (OfOut w x lo p xs) := by
 obtain ⟨L, hL⟩ : ∃ L, xs.length = L := ⟨_, rfl⟩
 have hpk := pick w x lo p xs.length hrd hp
 rw [hL] at h0 hcap hm hpk ⊢
 have HP := Lib.hid hpk
 have HX := Lib.hid hx
 have HL := Lib.hid hL
 clear hpk hx hrd hL
 go_enter Tryz.func128, Tryz.ntmps128
 go_wp2_with fail
 refine HP.out.mono ?_
 rintro e1 w1 ⟨r, rfl, hr0, hr1, hrd1, hbut⟩
 obtain ⟨k, rfl⟩ := Int.eq_ofNat_of_zero_le hr0
 have hkL : k < L := by omega
 have hk' : k < xs.length := by rw [HL.out]; exact hkL
 have hc : w1.cell? ⟨b, off + k, none⟩ = some (.string xs[k]) := by rw [hbut.cell hb hbx]; exact HX.out k hk'
 have HR := Lib.hid (And.intro hrd1 hbut)
 have i1 : (k : Int) < (L : Int) := by omega
 clear hr1 hrd1 hbut
 go_wp2_with fail
 go_ret
 exact ⟨xs[k], List.getElem_mem _, rfl, HR.out.1, HR.out.2⟩
end Go.Proofs.YtjcaiecapapceaaGreat.Draw
namespace Go.Proofs.YtjcaiecapapceaaGreat.Draw2
open Go.RowKit Draw
set_option linter.unusedVariables false
set_option linter.unusedSimpArgs false
def CatOut (w : World) (k : F) (fs : List Nat) (e : Ending) (w' : World) : Prop := ∃ b : Nat, e = .returned (.agg #[.int .i64 7, .int .i64 0, .string ⟨#[]⟩, .slice (some ⟨b, 0, none⟩) 2 2]) ∧ w.heap.size ≤ b ∧ b < w'.heap.size ∧ RowAt w' k b 0 fs ∧ (∀ o, w'.frozen? ⟨b, o, none⟩ = false) ∧ Below w.heap.size w w'
theorem frozen_new {W : World} {N : Nat} (C : Array Value) (T : TypeId) (hN : W.heap.size = N) (o : Nat) : (W.alloc (.cells C T)).frozen? ⟨N, o, none⟩ = false := by
 subst hN; exact World.frozen?_alloc_new _ _ _ _
theorem rdBelow {w w' : World} {x lo p B : Nat} (h : Rd w x lo p) (hx : x < B) (k : Below B w w') : Rd w' x lo p := by
 obtain ⟨a, l, c, h0, h1, h2, h3, h4, h5, h6⟩ := h
 refine ⟨a, l, c, by rw [k.cell (p := ⟨_, _, _⟩) hx]; exact h0, by rw [k.cell (p := ⟨_, _, _⟩) hx]; exact h1, by rw [k.frozen (p := ⟨_, _, _⟩) hx]; exact h2, h3, h4, h5, fun hl => ?_⟩
 obtain ⟨b, off, ha, hb, hc⟩ := h6 hl
 refine ⟨b, off, ha, hb, fun i hi => ?_⟩
 obtain ⟨v, hv, hcell⟩ := hc i hi
 exact ⟨v, hv, by rw [k.cell (p := ⟨_, _, _⟩) (show b < B by omega)]; exact hcell⟩
theorem row2 {W : World} {B : Nat} {w : World} (hb : Below B w W) (hBw : B ≤ w.heap.size) {o1 n1 : Int} {t1 : ByteArray} {k1 : F} {a1 : Option Addr} {cap1 : Nat} {f1 : List Nat} {o2 n2 : Int} {t2 : ByteArray} {k2 : F} {a2 : Option Addr} {cap2 : Nat} {f2 : List Nat}
  (h1 : SubAt w a1 k1 f1) (h2 : SubAt w a2 k2 f2) (hf1 : ∀ c ∈ f1, c < B) (hf2 : ∀ c ∈ f2, c < B) (hc1 : k1.len ≤ cap1) (hc2 : k2.len ≤ cap2) (T : TypeId) {N : Nat} (hN : W.heap.size = N) :
  RowAt (W.alloc (.cells #[.int .i64 o1, .int .i64 n1, .string t1, .slice a1 k1.len cap1, .int .i64 o2, .int .i64 n2, .string t2, .slice a2 k2.len cap2] T)) (.cons o1 n1 t1 k1 (.cons o2 n2 t2 k2 .nil)) N 0 (f1 ++ f2) := by
 subst hN
 have hA : Below B w (W.alloc (.cells #[.int .i64 o1, .int .i64 n1, .string t1, .slice a1 k1.len cap1, .int .i64 o2, .int .i64 n2, .string t2, .slice a2 k2.len cap2] T)) := hb.alloc (by have := hb.size; omega) _
 refine RowAt.cons_iff.2 ⟨a1, cap1, f1, f2, ?_, ?_, ?_, ?_, hc1, h1.below hf1 hA, RowAt.cons_iff.2 ⟨a2, cap2, f2, [], ?_, ?_, ?_, ?_, hc2, h2.below hf2 hA, rfl, by simp⟩, rfl⟩
 all_goals (rw [World.cell?_alloc_new]; rfl)
theorem l1Cat (w : World) (o1 n1 : Int) (t1 : ByteArray) (k1 : F) (a1 : Option Addr) (cap1 : Nat) (f1 : List Nat) (o2 n2 : Int) (t2 : ByteArray) (k2 : F) (a2 : Option Addr) (cap2 : Nat) (f2 : List Nat)
  (h1 : SubAt w a1 k1 f1) (h2 : SubAt w a2 k2 f2) (hf1 : ∀ c ∈ f1, c < w.heap.size) (hf2 : ∀ c ∈ f2, c < w.heap.size) (hc1 : k1.len ≤ cap1) (hc2 : k2.len ≤ cap2) :
  Calls Tryz.prog 100 #[.agg #[.int .i64 o1, .int .i64 n1, .string t1, .slice a1 k1.len cap1], .agg #[.int .i64 o2, .int .i64 n2, .string t2, .slice a2 k2.len cap2]] w
   (CatOut w (.cons o1 n1 t1 k1 (.cons o2 n2 t2 k2 .nil)) (f1 ++ f2)) := by
 have H := Lib.hid (And.intro h1 (And.intro h2 (And.intro hf1 (And.intro hf2 (And.intro hc1 hc2)))))
 clear h1 h2 hf1 hf2 hc1 hc2
 go_enter Tryz.func100, Tryz.ntmps100
 go_wp2_with fail
 refine bodyPost_ret (v := .agg #[.int .i64 7, .int .i64 0, .string ⟨#[]⟩, .slice (some ⟨w.heap.size + 1 + 1 + 1, 0, none⟩) 2 2]) (by simp [results, Tryz.results100, go_sem]) rfl ?_
 obtain ⟨h1, h2, hf1, hf2, hc1, hc2⟩ := H.out
 have B3 : ∀ (x1 x2 x3 : Obj), Below w.heap.size w (((w.alloc x1).alloc x2).alloc x3) := fun x1 x2 x3 => (((Below.refl _ _).alloc (Nat.le_refl _) _).alloc (by simp) _).alloc (by simp; omega) _
 have hsz : ∀ (x1 x2 x3 : Obj), (((w.alloc x1).alloc x2).alloc x3).heap.size = w.heap.size + 1 + 1 + 1 := fun x1 x2 x3 => by simp
 refine ⟨w.heap.size + 1 + 1 + 1, rfl, by omega, by simp, ?_, fun o => ?_, (B3 _ _ _).alloc (by simp; omega) _⟩
 ·exact row2 (B3 _ _ _) (Nat.le_refl _) h1 h2 hf1 hf2 hc1 hc2 _ (hsz _ _ _)
 ·exact frozen_new _ _ (hsz _ _ _) o
def words : List ByteArray := [⟨#[97]⟩, ⟨#[98, 98]⟩, ⟨#[99, 99, 99]⟩, ⟨#[100, 100, 100, 100]⟩, ⟨#[102, 40]⟩, ⟨#[41]⟩, ⟨#[44]⟩, ⟨#[120, 61, 49]⟩, ⟨#[97, 98, 99, 100, 101, 102, 103, 104]⟩, ⟨#[101]⟩]
end Go.Proofs.YtjcaiecapapceaaGreat.Draw2
namespace Go.Proofs.YtjcaiecapapceaaGreat.DrA
open Go.RowKit P1 Draw Draw2
set_option linter.unusedVariables false
set_option linter.unusedSimpArgs false
def wfF : F → Bool
 | .nil => true
 | .cons o n t k r => nodeB o n t k.len && wfF k && wfF r
def wfD (o n : Int) (t : ByteArray) (k : F) : Bool := nodeB o n t k.len && wfF k
theorem ok_of_wf : ∀ (f : F) (d : Nat), wfF f = true → f.deep ≤ d → f.ok d = true
 | .nil, _, _, _ => rfl
 | .cons o n t k r, d, h, hd => by
   simp only [wfF, Bool.and_eq_true] at h
   simp only [F.deep] at hd
   simp only [F.ok, Bool.and_eq_true, decide_eq_true_eq]
   exact ⟨⟨⟨by omega, h.1.1⟩, ok_of_wf k (d - 1) h.1.2 (by omega)⟩, ok_of_wf r d h.2 (by omega)⟩
theorem okD_of_wf {o n : Int} {t : ByteArray} {k : F} {d : Nat} (h : wfD o n t k = true) (hd : k.deep + 1 ≤ d) : okD d o n t k = true := by
 simp only [wfD, Bool.and_eq_true] at h
 simp only [okD, Bool.and_eq_true, decide_eq_true_eq]
 exact ⟨⟨by omega, h.1⟩, ok_of_wf k (d - 1) h.2 (by omega)⟩
theorem wf_leaf {o n : Int} {t : ByteArray} (h : nodeB o n t 0 = true) : wfD o n t .nil = true := by simp [wfD, wfF, F.len, h]
theorem wf_one {o n o1 n1 : Int} {t t1 : ByteArray} {k1 : F} (h : nodeB o n t 1 = true) (h1 : wfD o1 n1 t1 k1 = true) : wfD o n t (.cons o1 n1 t1 k1 .nil) = true := by
 simp only [wfD, wfF, F.len, Bool.and_eq_true] at h1 ⊢
 exact ⟨h, ⟨h1, trivial⟩⟩
theorem wf_two {o n o1 n1 o2 n2 : Int} {t t1 t2 : ByteArray} {k1 k2 : F} (h : nodeB o n t 2 = true) (h1 : wfD o1 n1 t1 k1 = true) (h2 : wfD o2 n2 t2 k2 = true) : wfD o n t (.cons o1 n1 t1 k1 (.cons o2 n2 t2 k2 .nil)) = true := by
 simp only [wfD, wfF, F.len, Bool.and_eq_true] at h1 h2 ⊢
 exact ⟨h, ⟨h1, ⟨h2, trivial⟩⟩⟩
def sizeB : Nat → Nat
 | 0 => 8
 | d + 1 => 2 * sizeB d + 12
def drawB : Nat → Nat
 | 0 => 2
 | d + 1 => 2 * drawB d + 4
theorem drawB_two (d : Nat) : 2 ≤ drawB d := by cases d with
 | zero => simp [drawB]
 | succ d => simp only [drawB]; omega
theorem sizeB_8 (d : Nat) : 8 ≤ sizeB d := by
 induction d with
 | zero => simp [sizeB]
 | succ d ih => simp only [sizeB]; omega
def Bd (s e : Nat) (o n : Int) (t : ByteArray) (k : F) : Prop := t.size + k.size ≤ s ∧ wfD o n t k = true ∧ k.deep ≤ e
theorem Bd.mono {s e s' e' : Nat} {o n : Int} {t : ByteArray} {k : F} (h : Bd s e o n t k) (hs : s ≤ s') (he : e ≤ e') : Bd s' e' o n t k := ⟨by have := h.1; omega, h.2.1, by have := h.2.2; omega⟩
def Made (w : World) (lo s e : Nat) (v : Value) : Prop := ∃ (o n : Int) (t : ByteArray) (k : F) (a : Option Addr) (cap : Nat) (fs : List Nat), v = .agg #[.int .i64 o, .int .i64 n, .string t, .slice a k.len cap] ∧ k.len ≤ cap ∧ Bd s e o n t k ∧ SubAt w a k fs ∧ Fresh lo w fs
def SomeOut (w : World) (x lo p s dp c : Nat) (e : Ending) (w' : World) : Prop := ∃ (v : Value) (q : Nat), e = .returned v ∧ Made w' w.heap.size s dp v ∧ Rd w' x lo q ∧ q ≤ p + c ∧ But w.heap.size x w w'
theorem SomeOut.mono {w w' : World} {x lo p s dp c s' dp' c' : Nat} {e : Ending} (h : SomeOut w x lo p s dp c e w') (hs : s ≤ s') (hd : dp ≤ dp') (hc : c ≤ c') : SomeOut w x lo p s' dp' c' e w' := by
 obtain ⟨v, q, h1, ⟨o, n, t, k, a, cap, fs, h2, h3, h4, h5, h6⟩, h7, h8, h9⟩ := h
 exact ⟨v, q, h1, ⟨o, n, t, k, a, cap, fs, h2, h3, h4.mono hs hd, h5, h6⟩, h7, by omega, h9⟩
theorem made_leaf (w : World) (lo : Nat) (o n : Int) (t : ByteArray) (ht : t.size ≤ 8) (s : Nat) (hs : 8 ≤ s) (e : Nat) (hn : nodeB o n t 0 = true) : Made w lo s e (.agg #[.int .i64 o, .int .i64 n, .string t, .slice none 0 0]) :=
 ⟨o, n, t, .nil, none, 0, [], rfl, by simp [F.len], ⟨by simp [F.size]; omega, wf_leaf hn, by simp [F.deep]⟩, .inl ⟨rfl, rfl⟩, Fresh.nil _ _⟩
def WordV (w : World) (x lo p : Nat) (e : Ending) (w' : World) : Prop := ∃ r : ByteArray, e = .returned (.string r) ∧ (r.size ≤ 8 ∧ tv r.data.toList = true) ∧ Rd w' x lo (p + 1) ∧ But w.heap.size x w w'
theorem word_node {t : ByteArray} (h : tv t.data.toList = true) : nodeB 2 0 t 0 = true := by simp [nodeB, kidsOf, textB, numB, h]
theorem word2 (w : World) (x lo p : Nat) (hrd : Rd w x lo p) (hp : p ≤ 1073741824) (hx : x < w.heap.size) :
  Calls Tryz.prog 183 #[.pointer (some ⟨x, 0, none⟩)] w (WordV w x lo p) := by
 go_enter Tryz.func183, Tryz.ntmps183
 go_wp2_with fail
 refine (Draw.of _ x lo p w.heap.size 0 10 words (rdBelow hrd hx ((Below.refl _ _).alloc (Nat.le_refl _) _)) hp (fun i hi => ?_) (by decide) (by decide) (by decide) (by simp) (by omega)).mono ?_
 ·rw [World.cell?_alloc_new]
  have hi' : i < 10 := hi
  match i, hi' with
  | 0, _ => rfl
  | 1, _ => rfl
  | 2, _ => rfl
  | 3, _ => rfl
  | 4, _ => rfl
  | 5, _ => rfl
  | 6, _ => rfl
  | 7, _ => rfl
  | 8, _ => rfl
  | 9, _ => rfl
 ·rintro e1 w1 ⟨r, hr, rfl, hrd1, hbut⟩
  have hsz : r.size ≤ 8 ∧ tv r.data.toList = true := by
   have : ∀ r ∈ words, r.size ≤ 8 ∧ tv r.data.toList = true := by decide
   exact this r hr
  have HR := Lib.hid (And.intro hsz (And.intro hrd1 hbut))
  clear hsz hrd1 hbut hr
  go_wp2_with fail
  go_ret
  obtain ⟨hsz, hrd1, hbut⟩ := HR.out
  exact ⟨r, rfl, hsz, hrd1, ((But.refl _ _ _).alloc (Nat.le_refl _) _).trans (hbut.mono (by simp))⟩
theorem rdTouch {w w' : World} {x lo p L U : Nat} (h : Rd w x lo p) (hx : x < L) (k : Touch L U w w') : Rd w' x lo p := by
 obtain ⟨a, l, c, h0, h1, h2, h3, h4, h5, h6⟩ := h
 refine ⟨a, l, c, by rw [k.cell (Or.inl hx)]; exact h0, by rw [k.cell (Or.inl hx)]; exact h1, by rw [k.frozen (Or.inl hx)]; exact h2, h3, h4, h5, fun hl => ?_⟩
 obtain ⟨b, off, ha, hb, hc⟩ := h6 hl
 refine ⟨b, off, ha, hb, fun i hi => ?_⟩
 obtain ⟨v, hv, hcell⟩ := hc i hi
 exact ⟨v, hv, by rw [k.cell (Or.inl (show b < L by omega))]; exact hcell⟩
theorem butTouch {B x L U : Nat} {a w w' : World} (h : But B x a w) (k : Touch L U w w') (hB : B ≤ L) : But B x a w' :=
 h.trans ⟨k.os, k.tape, k.output, Nat.le_of_eq k.size.symm, fun i hi _ => k.block i (Or.inl (by omega))⟩
theorem madeTouch {w w' : World} {lo s dp L U : Nat} {v : Value} (h : Made w lo s dp v) (k : Touch L U w w') (hU : U ≤ lo) : Made w' lo s dp v := by
 obtain ⟨o, n, t, f, a, cap, fs, h2, h3, h4, h5, h6⟩ := h
 exact ⟨o, n, t, f, a, cap, fs, h2, h3, h4, k.sub h5 (fun c hc => Or.inr (Nat.le_trans hU (h6.2 c hc).1)), k.fresh h6 (fun c hc => Or.inr (Nat.le_trans hU (h6.2 c hc).1))⟩
theorem madeMono {w : World} {lo lo' s s' dp dp' : Nat} {v : Value} (h : Made w lo s dp v) (hl : lo' ≤ lo) (hs : s ≤ s') (hd : dp ≤ dp') : Made w lo' s' dp' v := by
 obtain ⟨o, n, t, f, a, cap, fs, h2, h3, h4, h5, h6⟩ := h
 exact ⟨o, n, t, f, a, cap, fs, h2, h3, h4.mono hs hd, h5, h6.mono hl⟩
theorem end_of {w w1 w2 : World} {x lo p q s dp c : Nat} {v : Value} (hx : x < w.heap.size) (hm : Made w1 (w.heap.size + 1) s dp v) (hr : Rd w1 x lo q) (hq : q ≤ p + c) (hb : But w.heap.size x w w1) (ht : Touch w.heap.size (w.heap.size + 1) w1 w2) :
  SomeOut w x lo p s dp c (.returned v) w2 :=
 ⟨v, q, rfl, madeMono (madeTouch hm ht (Nat.le_refl _)) (by omega) (Nat.le_refl _) (Nat.le_refl _), rdTouch hr hx ht, hq, butTouch hb ht (Nat.le_refl _)⟩
theorem some0 (w : World) (x lo p : Nat) (hrd : Rd w x lo p) (hp : p + 2 ≤ 1073741824) (hx : x < w.heap.size) :
  Calls Tryz.prog 167 #[.pointer (some ⟨x, 0, none⟩), .int .i64 0] w (SomeOut w x lo p 8 0 2) := by
 have hA : ∀ ob, Below w.heap.size w (w.alloc ob) := fun ob => (Below.refl _ _).alloc (Nat.le_refl _) _
 have hpk := fun ob => pick (w.alloc ob) x lo p 8 (rdBelow hrd hx (hA ob)) (by omega)
 have HP := Lib.hid hpk
 clear hpk hrd
 go_enter Tryz.func167, Tryz.ntmps167
 go_wp2_with fail
 refine (HP.out _).mono ?_
 rintro e1 w1 ⟨r, rfl, hr0, hr1, hrd1, hbut⟩
 have hxr : x < w1.heap.size := by have := hbut.size; simp at this; omega
 have hzr : w.heap.size < w1.heap.size := by have := hbut.size; simp at this; omega
 have hne : w.heap.size ≠ x := by omega
 have hcell : ∀ o, w1.cell? ⟨w.heap.size, o, none⟩ = _ := fun o => hbut.cell (c := w.heap.size) (o := o) (by simp) hne
 have hfz : ∀ o, w1.frozen? ⟨w.heap.size, o, none⟩ = _ := fun o => hbut.frozen (c := w.heap.size) (o := o) (by simp) hne
 have HB := Lib.hid (And.intro hrd1 (((But.refl w.heap.size x w).alloc (Nat.le_refl _) _).trans (hbut.mono (by simp))))
 clear hrd1 hbut
 have hc : r = 0 ∨ r = 1 ∨ r = 2 ∨ r = 3 ∨ (4 ≤ r ∧ r < 8) := by omega
 clear hr0 hr1
 rcases hc with rfl | rfl | rfl | rfl | ⟨hr4, hr8⟩
 ·go_wp2_with fail
  refine bodyPost_ret (v := .agg #[.int .i64 1, .int .i64 0, .string ⟨#[]⟩, .slice none 0 0]) (by simp [results, Tryz.results167, go_sem, hcell, hfz, hzr]) rfl ?_
  refine end_of (w1 := w1) (q := p + 1) hx (made_leaf _ _ _ _ _ (by decide) _ (by omega) _ (by decide)) HB.out.1 (by omega) HB.out.2 ?_
  repeat (first | exact Touch.refl _ _ _ | refine Touch.setCell ?_ (by simp) (by simp) _)
 ·go_wp2_with fail
  refine bodyPost_ret (v := .agg #[.int .i64 3, .int .i64 0, .string ⟨#[]⟩, .slice none 0 0]) (by simp [results, Tryz.results167, go_sem, hcell, hfz, hzr]) rfl ?_
  refine end_of (w1 := w1) (q := p + 1) hx (made_leaf _ _ _ _ _ (by decide) _ (by omega) _ (by decide)) HB.out.1 (by omega) HB.out.2 ?_
  repeat (first | exact Touch.refl _ _ _ | refine Touch.setCell ?_ (by simp) (by simp) _)
 ·go_wp2_with fail
  refine bodyPost_ret (v := .agg #[.int .i64 3, .int .i64 0, .string ⟨#[]⟩, .slice none 0 0]) (by simp [results, Tryz.results167, go_sem, hcell, hfz, hzr]) rfl ?_
  refine end_of (w1 := w1) (q := p + 1) hx (made_leaf _ _ _ _ _ (by decide) _ (by omega) _ (by decide)) HB.out.1 (by omega) HB.out.2 ?_
  repeat (first | exact Touch.refl _ _ _ | refine Touch.setCell ?_ (by simp) (by simp) _)
 ·go_wp2_with fail
  refine bodyPost_ret (v := .agg #[.int .i64 4, .int .i64 0, .string ⟨#[]⟩, .slice none 0 0]) (by simp [results, Tryz.results167, go_sem, hcell, hfz, hzr]) rfl ?_
  refine end_of (w1 := w1) (q := p + 1) hx (made_leaf _ _ _ _ _ (by decide) _ (by omega) _ (by decide)) HB.out.1 (by omega) HB.out.2 ?_
  repeat (first | exact Touch.refl _ _ _ | refine Touch.setCell ?_ (by simp) (by simp) _)
 ·have b0 : (r == 0) = false := beq_eq_false_iff_ne.2 (by omega)
  have b1 : (r == 1) = false := beq_eq_false_iff_ne.2 (by omega)
  have b2 : (r == 2) = false := beq_eq_false_iff_ne.2 (by omega)
  have b3 : (r == 3) = false := beq_eq_false_iff_ne.2 (by omega)
  clear hr4 hr8
  go_wp2_with fail
  refine (word2 w1 x lo (p + 1) HB.out.1 (by omega) hxr).mono ?_
  rintro e2 w2 ⟨t, rfl, ht, hrd2, hbut2⟩
  have hcell2 : ∀ o, w2.cell? ⟨w.heap.size, o, none⟩ = _ := fun o => (hbut2.cell (c := w.heap.size) (o := o) hzr hne).trans (hcell o)
  have hfz2 : ∀ o, w2.frozen? ⟨w.heap.size, o, none⟩ = _ := fun o => (hbut2.frozen (c := w.heap.size) (o := o) hzr hne).trans (hfz o)
  have hzr2 : w.heap.size < w2.heap.size := Nat.lt_of_lt_of_le hzr hbut2.size
  have HB2 := Lib.hid (And.intro ht (And.intro hrd2 (HB.out.2.trans (hbut2.mono (by omega)))))
  clear hrd2 hbut2 hcell hfz ht b0 b1 b2 b3
  go_wp2_with fail
  refine bodyPost_ret (v := .agg #[.int .i64 2, .int .i64 0, .string t, .slice none 0 0]) (by simp [results, Tryz.results167, go_sem, hcell2, hfz2, hzr2]) rfl ?_
  refine end_of (w1 := w2) (q := p + 1 + 1) hx (made_leaf _ _ _ _ _ HB2.out.1.1 _ (by omega) _ (word_node HB2.out.1.2)) HB2.out.2.1 (by omega) HB2.out.2.2 ?_
  repeat (first | exact Touch.refl _ _ _ | refine Touch.setCell ?_ (by simp) (by simp) _)
end Go.Proofs.YtjcaiecapapceaaGreat.DrA
namespace Go.Proofs.YtjcaiecapapceaaGreat.DrB
open Go.RowKit P1 Draw Draw2 DrA
set_option linter.unusedVariables false
set_option linter.unusedSimpArgs false
def MadeIn (w : World) (lo hi s dp : Nat) (v : Value) : Prop := ∃ (o n : Int) (t : ByteArray) (k : F) (a : Option Addr) (cap : Nat) (fs : List Nat), v = .agg #[.int .i64 o, .int .i64 n, .string t, .slice a k.len cap] ∧ k.len ≤ cap ∧ Bd s dp o n t k ∧ SubAt w a k fs ∧ Fresh lo w fs ∧ ∀ c ∈ fs, c < hi
theorem MadeIn.of {w : World} {lo s dp : Nat} {v : Value} (h : Made w lo s dp v) : MadeIn w lo w.heap.size s dp v := by
 obtain ⟨o, n, t, k, a, cap, fs, h2, h3, h4, h5, h6⟩ := h
 exact ⟨o, n, t, k, a, cap, fs, h2, h3, h4, h5, h6, h6.lt⟩
theorem MadeIn.made {w : World} {lo hi s dp : Nat} {v : Value} (h : MadeIn w lo hi s dp v) : Made w lo s dp v := by
 obtain ⟨o, n, t, k, a, cap, fs, h2, h3, h4, h5, h6, _⟩ := h
 exact ⟨o, n, t, k, a, cap, fs, h2, h3, h4, h5, h6⟩
theorem MadeIn.but {w w' : World} {lo hi s dp x B : Nat} {v : Value} (h : MadeIn w lo hi s dp v) (hx : x < lo) (hB : hi ≤ B) (k : But B x w w') : MadeIn w' lo hi s dp v := by
 obtain ⟨o, n, t, f, a, cap, fs, h2, h3, h4, h5, h6, h7⟩ := h
 exact ⟨o, n, t, f, a, cap, fs, h2, h3, h4, k.sub h5 (fun c hc => ⟨Nat.lt_of_lt_of_le (h7 c hc) hB, by have := (h6.2 c hc).1; omega⟩),
  h6.alike k.size (fun c hc o => k.frozen (Nat.lt_of_lt_of_le (h7 c hc) hB) (by have := (h6.2 c hc).1; omega)), h7⟩
theorem MadeIn.leaf (w : World) (lo hi : Nat) (o n : Int) (t : ByteArray) (s : Nat) (ht : t.size ≤ s) (dp : Nat) (hn : nodeB o n t 0 = true) : MadeIn w lo hi s dp (.agg #[.int .i64 o, .int .i64 n, .string t, .slice none 0 0]) :=
 ⟨o, n, t, .nil, none, 0, [], rfl, by simp [F.len], ⟨by simp [F.size]; omega, wf_leaf hn, by simp [F.deep]⟩, .inl ⟨rfl, rfl⟩, Fresh.nil _ _, fun c hc => by cases hc⟩
theorem cat_made (w : World) {lo m hi s1 s2 d1 d2 : Nat} {v1 v2 : Value} (h1 : MadeIn w lo m s1 d1 v1) (h2 : MadeIn w m hi s2 d2 v2) (hlm : lo ≤ m) (hm : m ≤ hi) (hhi : hi ≤ w.heap.size) :
  Calls Tryz.prog 100 #[v1, v2] w fun e w' => ∃ v, e = .returned v ∧ MadeIn w' lo w'.heap.size (s1 + s2 + 2) (max d1 d2 + 1) v ∧ Below w.heap.size w w' := by
 obtain ⟨o1, n1, t1, k1, a1, c1, f1, rfl, q1, q2, q3, q4, q5⟩ := h1
 obtain ⟨o2, n2, t2, k2, a2, c2, f2, rfl, r1, r2, r3, r4, r5⟩ := h2
 refine (l1Cat w o1 n1 t1 k1 a1 c1 f1 o2 n2 t2 k2 a2 c2 f2 q3 r3 q4.lt r4.lt q1 r1).mono ?_
 rintro e w' ⟨b, rfl, hb1, hb2, hrow, hz, hbel⟩
 refine ⟨_, rfl, ⟨7, 0, ⟨#[]⟩, .cons o1 n1 t1 k1 (.cons o2 n2 t2 k2 .nil), some ⟨b, 0, none⟩, 2, b :: (f1 ++ f2), rfl, by simp [F.len], ?_, .inr ⟨b, 0, _, rfl, by simp, rfl, hrow⟩, ?_, ?_⟩, hbel⟩
 ·have e0 : (⟨#[]⟩ : ByteArray).size = 0 := rfl
  have h1 := q2.1
  have h2 := r2.1
  have h3 := q2.2.2
  have h4 := r2.2.2
  exact ⟨by simp only [F.size, e0]; omega, wf_two (by decide) q2.2.1 r2.2.1, by simp only [F.deep]; omega⟩
 ·have g1 : Fresh lo w' f1 := q4.below q4.lt hbel
  have g2 : Fresh m w' f2 := r4.below r4.lt hbel
  have g3 : Fresh lo w' (f1 ++ f2) := g1.app q5 g2 hlm
  refine ⟨List.nodup_cons.2 ⟨fun hmem => ?_, g3.1⟩, fun c hc => ?_⟩
  ·rcases List.mem_append.1 hmem with hm' | hm'
   ·have := q4.lt b hm'; omega
   ·have := r4.lt b hm'; omega
  ·rcases List.mem_cons.1 hc with rfl | hc
   ·exact ⟨by omega, hb2, hz⟩
   ·exact g3.2 c hc
 ·intro c hc
  rcases List.mem_cons.1 hc with rfl | hc
  ·exact hb2
  ·rcases List.mem_append.1 hc with hc | hc
   ·exact Nat.lt_of_lt_of_le (q4.lt c hc) hbel.size
   ·exact Nat.lt_of_lt_of_le (r4.lt c hc) hbel.size
theorem end_row {w w2 w3 : World} {x lo p q s s0 dp d0 c op N : Nat} {nn o n : Int} {t : ByteArray} {k : F} {a : Option Addr} {cap : Nat} {fs : List Nat} (hx : x < w.heap.size) (hs : SubAt w2 a k fs) (hf : Fresh (w.heap.size + 1) w2 fs) (hc : k.len ≤ cap) (hbd : Bd s0 d0 o n t k) (hsz : s0 + 1 ≤ s) (hdp : d0 + 1 ≤ dp) (hop : nodeB op nn ⟨#[]⟩ 1 = true)
  (hr : Rd w2 x lo q) (hq : q ≤ p + c) (hb : But w.heap.size x w w2) (hlt : w.heap.size < w2.heap.size) (ht : Touch w.heap.size (w.heap.size + 1) w2 w3) (hN : w3.heap.size = N) (T : TypeId) :
  SomeOut w x lo p s dp c (.returned (.agg #[.int .i64 op, .int .i64 nn, .string ⟨#[]⟩, .slice (some ⟨N, 0, none⟩) 1 1])) (w3.alloc (.cells #[.int .i64 o, .int .i64 n, .string t, .slice a k.len cap] T)) := by
 subst hN
 have hA : Below w3.heap.size w3 (w3.alloc (.cells #[.int .i64 o, .int .i64 n, .string t, .slice a k.len cap] T)) := (Below.refl _ _).alloc (Nat.le_refl _) _
 have hs3 : SubAt w3 a k fs := ht.sub hs (fun c hc => Or.inr (hf.2 c hc).1)
 have hf3 : Fresh (w.heap.size + 1) w3 fs := ht.fresh hf (fun c hc => Or.inr (hf.2 c hc).1)
 refine ⟨_, q, rfl, ⟨op, nn, ⟨#[]⟩, .cons o n t k .nil, some ⟨w3.heap.size, 0, none⟩, 1, w3.heap.size :: fs, rfl, by simp [F.len], ?_, .inr ⟨_, 0, fs, rfl, by simp, rfl, ?_⟩, ?_⟩, rdBelow (rdTouch hr hx ht) (by have := ht.size; omega) hA, hq, ((butTouch hb ht (Nat.le_refl _)).trans (But.of_below (hA.mono (by have := ht.size; omega))))⟩
 ·have e0 : (⟨#[]⟩ : ByteArray).size = 0 := rfl
  have h1 := hbd.1
  have h2 := hbd.2.2
  exact ⟨by simp only [F.size, e0]; omega, wf_one hop hbd.2.1, by simp only [F.deep]; omega⟩
 ·refine RowAt.cons_iff.2 ⟨a, cap, fs, [], ?_, ?_, ?_, ?_, hc, hs3.below hf3.lt hA, rfl, by simp⟩
  all_goals (rw [World.cell?_alloc_new]; rfl)
 ·have g := hf3.below hf3.lt hA
  refine ⟨List.nodup_cons.2 ⟨fun hmem => by have := hf3.lt _ hmem; omega, g.1⟩, fun c hc => ?_⟩
  rcases List.mem_cons.1 hc with rfl | hc
  ·exact ⟨by have := ht.size; omega, by simp, fun o => World.frozen?_alloc_new _ _ _ _⟩
  ·exact ⟨by have := (g.2 c hc).1; omega, (g.2 c hc).2⟩
def SomeS (d : Nat) : Prop := ∀ (w : World) (x lo p : Nat), Rd w x lo p → p + drawB d ≤ 1073741824 → x < w.heap.size →
 Calls Tryz.prog 167 #[.pointer (some ⟨x, 0, none⟩), .int .i64 d] w (SomeOut w x lo p (sizeB d) (2 * d) (drawB d))
theorem zeroS : SomeS 0 := fun w x lo p h1 h2 h3 => some0 w x lo p h1 h2 h3
end Go.Proofs.YtjcaiecapapceaaGreat.DrB
namespace Go.Proofs.YtjcaiecapapceaaGreat.DrC
open Go.RowKit P1 Draw Draw2 DrA DrB
set_option linter.unusedVariables false
set_option linter.unusedSimpArgs false
theorem nest_node {r : Int} (h : r ∈ [(2 : Int), 1, 4, 0, 9]) : nodeB 6 r ⟨#[]⟩ 1 = true := by
 simp only [List.mem_cons, List.not_mem_nil, or_false] at h
 rcases h with rfl | rfl | rfl | rfl | rfl <;> decide
theorem succS (d : Nat) (ih : SomeS d) (hd : d ≤ 10) (w : World) (x lo p : Nat) (hrd : Rd w x lo p) (hp : p + drawB (d + 1) ≤ 1073741824) (hx : x < w.heap.size) :
  Calls Tryz.prog 167 #[.pointer (some ⟨x, 0, none⟩), .int .i64 ((d : Int) + 1)] w (SomeOut w x lo p (sizeB (d + 1)) (2 * (d + 1)) (drawB (d + 1))) := by
 have hA : ∀ ob, Below w.heap.size w (w.alloc ob) := fun ob => (Below.refl _ _).alloc (Nat.le_refl _) _
 have hD := drawB_two d
 have hS := sizeB_8 d
 obtain ⟨D, hDD⟩ : ∃ D, drawB d = D := ⟨_, rfl⟩
 obtain ⟨S, hSS⟩ : ∃ S, sizeB d = S := ⟨_, rfl⟩
 have e1 : drawB (d + 1) = 2 * D + 4 := by rw [← hDD]; rfl
 have e2 : sizeB (d + 1) = 2 * S + 12 := by rw [← hSS]; rfl
 rw [e1] at hp ⊢
 rw [e2]
 have IH : Hid (∀ (w : World) (x lo p : Nat), Rd w x lo p → p + D ≤ 1073741824 → x < w.heap.size → Calls Tryz.prog 167 #[.pointer (some ⟨x, 0, none⟩), .int .i64 d] w (SomeOut w x lo p S (2 * d) D)) := by
  have := ih
  unfold SomeS at this
  rw [hDD, hSS] at this
  exact this
 rw [hDD] at hD
 rw [hSS] at hS
 have hpk := fun ob => pick (w.alloc ob) x lo p 12 (rdBelow hrd hx (hA ob)) (by omega)
 have HP := Lib.hid hpk
 have hd0 : ((d : Int) + 1 == 0) = false := by rw [beq_eq_false_iff_ne]; omega
 clear hpk hrd ih e1 e2 hDD hSS
 go_enter Tryz.func167, Tryz.ntmps167
 go_wp2_with fail
 refine (HP.out _).mono ?_
 rintro e1 w1 ⟨r, rfl, hr0, hr1, hrd1, hbut⟩
 have hxr : x < w1.heap.size := by have := hbut.size; simp at this; omega
 have hzr : w.heap.size < w1.heap.size := by have := hbut.size; simp at this; omega
 have hne : w.heap.size ≠ x := by omega
 have hcell : ∀ o, w1.cell? ⟨w.heap.size, o, none⟩ = _ := fun o => hbut.cell (c := w.heap.size) (o := o) (by simp) hne
 have hfz : ∀ o, w1.frozen? ⟨w.heap.size, o, none⟩ = _ := fun o => hbut.frozen (c := w.heap.size) (o := o) (by simp) hne
 have HB := Lib.hid (And.intro hrd1 (((But.refl w.heap.size x w).alloc (Nat.le_refl _) _).trans (hbut.mono (by simp))))
 clear hrd1 hbut HP hA
 have hc : r = 0 ∨ (r = 1 ∨ r = 2) ∨ (r = 3 ∨ r = 4 ∨ r = 5) ∨ r = 6 ∨ (7 ≤ r ∧ r < 12) := by omega
 clear hr0 hr1
 rcases hc with rfl | hr | hr | rfl | ⟨hr4, hr8⟩
 ·-- a leaf
  go_wp2_with fail
  refine (zeroS w1 x lo (p + 1) HB.out.1 (by simp only [drawB]; omega) hxr).mono ?_
  rintro e2 w2 ⟨v, q, rfl, hmade, hrd2, hq, hbut2⟩
  have hm2 := madeMono hmade (show w.heap.size + 1 ≤ w1.heap.size by omega) (show sizeB 0 ≤ 2 * S + 12 by simp only [sizeB]; omega) (show 2 * 0 ≤ 2 * (d + 1) by omega)
  obtain ⟨o, n, t, k, a, cap, fs, rfl, hmm⟩ := hm2
  have hcell1 := hcell
  have hfz1 := hfz
  have hzr1 := hzr
  have hxr1 := hxr
  clear hcell hfz
  have hcell2 : ∀ o, w2.cell? ⟨w.heap.size, o, none⟩ = _ := fun o => (hbut2.cell (c := w.heap.size) (o := o) hzr1 hne).trans (hcell1 o)
  have hfz2 : ∀ o, w2.frozen? ⟨w.heap.size, o, none⟩ = _ := fun o => (hbut2.frozen (c := w.heap.size) (o := o) hzr1 hne).trans (hfz1 o)
  have hzr2 : w.heap.size < w2.heap.size := Nat.lt_of_lt_of_le hzr1 hbut2.size
  have hxr2 : x < w2.heap.size := Nat.lt_of_lt_of_le hxr1 hbut2.size
  have HB2 := Lib.hid (And.intro (show Made w2 (w.heap.size + 1) (2 * S + 12) (2 * (d + 1)) _ from ⟨o, n, t, k, a, cap, fs, rfl, hmm⟩) (And.intro hrd2 (And.intro (show q ≤ p + (2 * D + 4) by simp only [drawB] at hq; omega) (HB.out.2.trans (hbut2.mono (by omega))))))
  clear hmm hmade hrd2 hbut2 hcell1 hfz1 hq
  go_wp2_with fail
  refine bodyPost_ret (v := .agg #[.int .i64 o, .int .i64 n, .string t, .slice a k.len cap]) (by simp [results, Tryz.results167, go_sem, hcell2, hfz2, hzr2]) rfl ?_
  refine end_of (w1 := w2) (q := q) hx HB2.out.1 HB2.out.2.1 HB2.out.2.2.1 HB2.out.2.2.2 ?_
  repeat (first | exact Touch.refl _ _ _ | refine Touch.setCell ?_ (by simp) (by simp) _)
 ·-- a nest
  have hcell1 := hcell
  have hfz1 := hfz
  have hzr1 := hzr
  have hxr1 := hxr
  clear hcell hfz
  have hA1 : ∀ ob, Below w1.heap.size w1 (w1.alloc ob) := fun ob => (Below.refl _ _).alloc (Nat.le_refl _) _
  have hnum := Draw.num (w1.alloc (.cells #[.int .i64 2, .int .i64 1, .int .i64 4, .int .i64 0, .int .i64 9] 3)) x lo (p + 1) w1.heap.size 0 5 [2, 1, 4, 0, 9] (rdBelow HB.out.1 hxr1 (hA1 _)) (by omega) (fun i hi => by
   rw [World.cell?_alloc_new]
   have hi' : i < 5 := hi
   match i, hi' with
   | 0, _ => rfl
   | 1, _ => rfl
   | 2, _ => rfl
   | 3, _ => rfl
   | 4, _ => rfl) (by decide) (by decide) (by decide) (by simp) (by omega)
  have HN := Lib.hid hnum
  clear hnum hA1
  rcases hr with rfl | rfl
  all_goals
   go_wp2_with fail
   refine HN.out.mono ?_
   rintro e2 w2 ⟨r2, hmem, rfl, hrd2, hbutn⟩
   have hbut2 : But w1.heap.size x w1 w2 := ((But.refl _ _ _).alloc (Nat.le_refl _) _).trans (hbutn.mono (by simp))
   have hcell2 : ∀ o, w2.cell? ⟨w.heap.size, o, none⟩ = _ := fun o => (hbut2.cell (c := w.heap.size) (o := o) hzr1 hne).trans (hcell1 o)
   have hfz2 : ∀ o, w2.frozen? ⟨w.heap.size, o, none⟩ = _ := fun o => (hbut2.frozen (c := w.heap.size) (o := o) hzr1 hne).trans (hfz1 o)
   have hzr2 : w.heap.size < w2.heap.size := Nat.lt_of_lt_of_le hzr1 hbut2.size
   have hxr2 : x < w2.heap.size := Nat.lt_of_lt_of_le hxr1 hbut2.size
   have HB2 := Lib.hid (And.intro hrd2 (HB.out.2.trans (hbut2.mono (by omega))))
   have HM2 := Lib.hid hmem
   clear hrd2 hbut2 hbutn hcell1 hfz1 hmem
   go_wp2_with fail
   refine (IH.out w2 x lo (p + 1 + 1) HB2.out.1 (by omega) hxr2).mono ?_
   rintro e3 w3 ⟨v, q, rfl, ⟨o, n, t, k, a, cap, fs, rfl, hc, hsz, hs, hf⟩, hrd3, hq, hbut3⟩
   have hcell3 : ∀ o, w3.cell? ⟨w.heap.size, o, none⟩ = _ := fun o => (hbut3.cell (c := w.heap.size) (o := o) hzr2 hne).trans (hcell2 o)
   have hfz3 : ∀ o, w3.frozen? ⟨w.heap.size, o, none⟩ = _ := fun o => (hbut3.frozen (c := w.heap.size) (o := o) hzr2 hne).trans (hfz2 o)
   have hzr3 : w.heap.size < w3.heap.size := Nat.lt_of_lt_of_le hzr2 hbut3.size
   have hxr3 : x < w3.heap.size := Nat.lt_of_lt_of_le hxr2 hbut3.size
   have HB3 := Lib.hid (And.intro hc (And.intro hsz (And.intro hs (And.intro hf (And.intro hrd3 (And.intro hq (HB2.out.2.trans (hbut3.mono (by omega)))))))))
   clear hc hsz hs hf hrd3 hbut3 hcell2 hfz2 hq
   go_wp2_with fail
   refine bodyPost_ret (v := .agg #[.int .i64 6, .int .i64 r2, .string ⟨#[]⟩, .slice (some ⟨w3.heap.size, 0, none⟩) 1 1]) (by simp [results, Tryz.results167, go_sem, hcell3, hfz3, hzr3]) rfl ?_
   obtain ⟨hc, hsz, hs, hf, hrd3, hq, hb3⟩ := HB3.out
   refine end_row (w2 := w3) (q := q) hx hs (hf.mono (by omega)) hc hsz (by omega) (by omega) (nest_node HM2.out) hrd3 (by omega) hb3 hzr3 ?_ (by simp) _
   repeat (first | exact Touch.refl _ _ _ | refine Touch.setCell ?_ (by simp) (by simp) _)
 ·-- a group
  have b0 : (r == 0) = false := beq_eq_false_iff_ne.2 (by omega)
  have b1 : (r == 1) = false := beq_eq_false_iff_ne.2 (by omega)
  have b2 : (r == 2) = false := beq_eq_false_iff_ne.2 (by omega)
  have hcell1 := hcell
  have hfz1 := hfz
  have hzr1 := hzr
  have hxr1 := hxr
  clear hcell hfz
  rcases hr with rfl | rfl | rfl
  all_goals
   go_wp2_with fail
   refine (IH.out w1 x lo (p + 1) HB.out.1 (by omega) hxr1).mono ?_
   rintro e2 w2 ⟨v, q, rfl, ⟨o, n, t, k, a, cap, fs, rfl, hc, hsz, hs, hf⟩, hrd2, hq, hbut2⟩
   have hcell2 : ∀ o, w2.cell? ⟨w.heap.size, o, none⟩ = _ := fun o => (hbut2.cell (c := w.heap.size) (o := o) hzr1 hne).trans (hcell1 o)
   have hfz2 : ∀ o, w2.frozen? ⟨w.heap.size, o, none⟩ = _ := fun o => (hbut2.frozen (c := w.heap.size) (o := o) hzr1 hne).trans (hfz1 o)
   have hzr2 : w.heap.size < w2.heap.size := Nat.lt_of_lt_of_le hzr1 hbut2.size
   have hxr2 : x < w2.heap.size := Nat.lt_of_lt_of_le hxr1 hbut2.size
   have HB2 := Lib.hid (And.intro hc (And.intro hsz (And.intro hs (And.intro hf (And.intro hrd2 (And.intro hq (HB.out.2.trans (hbut2.mono (by omega)))))))))
   clear hc hsz hs hf hrd2 hbut2 hcell1 hfz1 hq
   go_wp2_with fail
   refine bodyPost_ret (v := .agg #[.int .i64 8, .int .i64 0, .string ⟨#[]⟩, .slice (some ⟨w2.heap.size, 0, none⟩) 1 1]) (by simp [results, Tryz.results167, go_sem, hcell2, hfz2, hzr2]) rfl ?_
   obtain ⟨hc, hsz, hs, hf, hrd2, hq, hb2⟩ := HB2.out
   refine end_row (w2 := w2) (q := q) hx hs (hf.mono (by omega)) hc hsz (by omega) (by omega) (by decide) hrd2 (by omega) hb2 hzr2 ?_ (by simp) _
   repeat (first | exact Touch.refl _ _ _ | refine Touch.setCell ?_ (by simp) (by simp) _)
 ·-- three documents
  have hcell1 := hcell
  have hfz1 := hfz
  have hzr1 := hzr
  have hxr1 := hxr
  clear hcell hfz
  have hpk := pick w1 x lo (p + 1) 3 HB.out.1 (by omega)
  have HP := Lib.hid hpk
  clear hpk
  go_wp2_with fail
  refine HP.out.mono ?_
  rintro e2 w2 ⟨r3, rfl, hr0, hr1, hrd2, hbut2⟩
  have hcell2 : ∀ o, w2.cell? ⟨w.heap.size, o, none⟩ = _ := fun o => (hbut2.cell (c := w.heap.size) (o := o) hzr1 hne).trans (hcell1 o)
  have hfz2 : ∀ o, w2.frozen? ⟨w.heap.size, o, none⟩ = _ := fun o => (hbut2.frozen (c := w.heap.size) (o := o) hzr1 hne).trans (hfz1 o)
  have hzr2 : w.heap.size < w2.heap.size := Nat.lt_of_lt_of_le hzr1 hbut2.size
  have hxr2 : x < w2.heap.size := Nat.lt_of_lt_of_le hxr1 hbut2.size
  have HB2 := Lib.hid (And.intro hrd2 (HB.out.2.trans (hbut2.mono (by omega))))
  clear hrd2 hbut2 hcell1 hfz1
  have hc3 : r3 = 0 ∨ (r3 = 1 ∨ r3 = 2) := by omega
  clear hr0 hr1
  have hl01 : w.heap.size + 1 ≤ w2.heap.size := by omega
  rcases hc3 with rfl | hr3
  ·go_wp2_with fail
   refine (IH.out w2 x lo (p + 1 + 1) HB2.out.1 (by omega) hxr2).mono ?_
   rintro e3 w3 ⟨v1, q, rfl, hmade, hrd3, hq, hbut3⟩
   have hcell3 : ∀ o, w3.cell? ⟨w.heap.size, o, none⟩ = _ := fun o => (hbut3.cell (c := w.heap.size) (o := o) hzr2 hne).trans (hcell2 o)
   have hfz3 : ∀ o, w3.frozen? ⟨w.heap.size, o, none⟩ = _ := fun o => (hbut3.frozen (c := w.heap.size) (o := o) hzr2 hne).trans (hfz2 o)
   have hzr3 : w.heap.size < w3.heap.size := Nat.lt_of_lt_of_le hzr2 hbut3.size
   have hxr3 : x < w3.heap.size := Nat.lt_of_lt_of_le hxr2 hbut3.size
   have HB3 := Lib.hid (And.intro (MadeIn.of hmade) (And.intro hrd3 (And.intro hq (And.intro (HB2.out.2.trans (hbut3.mono (by omega))) hbut3))))
   have hq3 : q + 2 ≤ 1073741824 := by omega
   clear hmade hrd3 hbut3 hcell2 hfz2 hq
   go_wp2_with fail
   refine (some0 w3 x lo q HB3.out.2.1 hq3 hxr3).mono ?_
   rintro e4 w4 ⟨v2, q', rfl, hmade, hrd4, hq', hbut4⟩
   have hcell4 : ∀ o, w4.cell? ⟨w.heap.size, o, none⟩ = _ := fun o => (hbut4.cell (c := w.heap.size) (o := o) hzr3 hne).trans (hcell3 o)
   have hfz4 : ∀ o, w4.frozen? ⟨w.heap.size, o, none⟩ = _ := fun o => (hbut4.frozen (c := w.heap.size) (o := o) hzr3 hne).trans (hfz3 o)
   have hzr4 : w.heap.size < w4.heap.size := Nat.lt_of_lt_of_le hzr3 hbut4.size
   have hxr4 : x < w4.heap.size := Nat.lt_of_lt_of_le hxr3 hbut4.size
   have hl23 : w2.heap.size ≤ w3.heap.size := HB3.out.2.2.2.2.size
   have hl34 : w3.heap.size ≤ w4.heap.size := hbut4.size
   have HB4 := Lib.hid (And.intro (HB3.out.1.but (B := w3.heap.size) (by omega) (Nat.le_refl _) hbut4) (And.intro (MadeIn.of hmade) (And.intro hrd4 (And.intro (show q' ≤ p + (2 * D + 4) by have := HB3.out.2.2.1; omega) (HB3.out.2.2.2.1.trans (hbut4.mono (by omega)))))))
   clear hmade hrd4 hbut4 hcell3 hfz3 hq'
   go_wp2_with fail
   refine (cat_made w4 (lo := w3.heap.size) (m := w3.heap.size) (s1 := 0) (MadeIn.leaf w4 _ _ 5 0 ⟨#[]⟩ 0 (by decide) 0 (by decide)) HB4.out.2.1 (Nat.le_refl _) hl34 (Nat.le_refl _)).mono ?_
   rintro e5 w5 ⟨v3, rfl, hm5, hbel5⟩
   have hbut5 : But w4.heap.size x w4 w5 := But.of_below hbel5
   have hcell5 : ∀ o, w5.cell? ⟨w.heap.size, o, none⟩ = _ := fun o => (hbut5.cell (c := w.heap.size) (o := o) hzr4 hne).trans (hcell4 o)
   have hfz5 : ∀ o, w5.frozen? ⟨w.heap.size, o, none⟩ = _ := fun o => (hbut5.frozen (c := w.heap.size) (o := o) hzr4 hne).trans (hfz4 o)
   have hzr5 : w.heap.size < w5.heap.size := Nat.lt_of_lt_of_le hzr4 hbut5.size
   have hxr5 : x < w5.heap.size := Nat.lt_of_lt_of_le hxr4 hbut5.size
   have hl45 : w4.heap.size ≤ w5.heap.size := hbut5.size
   have HB5 := Lib.hid (And.intro (HB4.out.1.but (B := w4.heap.size) (by omega) hl34 hbut5) (And.intro hm5 (And.intro (rdBelow HB4.out.2.2.1 hxr4 hbel5) (HB4.out.2.2.2.2.trans (hbut5.mono (by omega))))))
   clear hm5 hbel5 hbut5 hcell4 hfz4
   go_wp2_with fail
   refine (cat_made w5 HB5.out.1 HB5.out.2.1 hl23 (by omega) (Nat.le_refl _)).mono ?_
   rintro e6 w6 ⟨v4, rfl, hm6, hbel⟩
   have hbut6 : But w5.heap.size x w5 w6 := But.of_below hbel
   have hcell6 : ∀ o, w6.cell? ⟨w.heap.size, o, none⟩ = _ := fun o => (hbut6.cell (c := w.heap.size) (o := o) hzr5 hne).trans (hcell5 o)
   have hfz6 : ∀ o, w6.frozen? ⟨w.heap.size, o, none⟩ = _ := fun o => (hbut6.frozen (c := w.heap.size) (o := o) hzr5 hne).trans (hfz5 o)
   have hzr6 : w.heap.size < w6.heap.size := Nat.lt_of_lt_of_le hzr5 hbut6.size
   have hxr6 : x < w6.heap.size := Nat.lt_of_lt_of_le hxr5 hbut6.size
   have HB6 := Lib.hid (And.intro (madeMono hm6.made hl01 (show S + (0 + 8 + 2) + 2 ≤ 2 * S + 12 by omega) (show max (2 * d) (max 0 0 + 1) + 1 ≤ 2 * (d + 1) by omega)) (And.intro (rdBelow HB5.out.2.2.1 hxr5 hbel) (HB5.out.2.2.2.trans (hbut6.mono (by omega)))))
   obtain ⟨o, n, t, k, a, cap, fs, rfl, _⟩ := hm6
   clear hbel hbut6 hcell5 hfz5
   go_wp2_with fail
   refine bodyPost_ret (v := .agg #[.int .i64 o, .int .i64 n, .string t, .slice a k.len cap]) (by simp [results, Tryz.results167, go_sem, hcell6, hfz6, hzr6]) rfl ?_
   refine end_of (w1 := w6) (q := q') hx HB6.out.1 HB6.out.2.1 HB4.out.2.2.2.1 HB6.out.2.2 ?_
   repeat (first | exact Touch.refl _ _ _ | refine Touch.setCell ?_ (by simp) (by simp) _)
  ·have b0 : (r3 == 0) = false := beq_eq_false_iff_ne.2 (by omega)
   clear hr3
   go_wp2_with fail
   refine (IH.out w2 x lo (p + 1 + 1) HB2.out.1 (by omega) hxr2).mono ?_
   rintro e3 w3 ⟨v1, q, rfl, hmade, hrd3, hq, hbut3⟩
   have hcell3 : ∀ o, w3.cell? ⟨w.heap.size, o, none⟩ = _ := fun o => (hbut3.cell (c := w.heap.size) (o := o) hzr2 hne).trans (hcell2 o)
   have hfz3 : ∀ o, w3.frozen? ⟨w.heap.size, o, none⟩ = _ := fun o => (hbut3.frozen (c := w.heap.size) (o := o) hzr2 hne).trans (hfz2 o)
   have hzr3 : w.heap.size < w3.heap.size := Nat.lt_of_lt_of_le hzr2 hbut3.size
   have hxr3 : x < w3.heap.size := Nat.lt_of_lt_of_le hxr2 hbut3.size
   have HB3 := Lib.hid (And.intro (MadeIn.of hmade) (And.intro hrd3 (And.intro hq (And.intro (HB2.out.2.trans (hbut3.mono (by omega))) hbut3))))
   have hq3 : q + 2 ≤ 1073741824 := by omega
   clear hmade hrd3 hbut3 hcell2 hfz2 hq
   go_wp2_with fail
   refine (some0 w3 x lo q HB3.out.2.1 hq3 hxr3).mono ?_
   rintro e4 w4 ⟨v2, q', rfl, hmade, hrd4, hq', hbut4⟩
   have hcell4 : ∀ o, w4.cell? ⟨w.heap.size, o, none⟩ = _ := fun o => (hbut4.cell (c := w.heap.size) (o := o) hzr3 hne).trans (hcell3 o)
   have hfz4 : ∀ o, w4.frozen? ⟨w.heap.size, o, none⟩ = _ := fun o => (hbut4.frozen (c := w.heap.size) (o := o) hzr3 hne).trans (hfz3 o)
   have hzr4 : w.heap.size < w4.heap.size := Nat.lt_of_lt_of_le hzr3 hbut4.size
   have hxr4 : x < w4.heap.size := Nat.lt_of_lt_of_le hxr3 hbut4.size
   have hl23 : w2.heap.size ≤ w3.heap.size := HB3.out.2.2.2.2.size
   have hl34 : w3.heap.size ≤ w4.heap.size := hbut4.size
   have HB4 := Lib.hid (And.intro (HB3.out.1.but (B := w3.heap.size) (by omega) (Nat.le_refl _) hbut4) (And.intro (MadeIn.of hmade) (And.intro hrd4 (And.intro (show q' ≤ p + (2 * D + 4) by have := HB3.out.2.2.1; omega) (HB3.out.2.2.2.1.trans (hbut4.mono (by omega)))))))
   clear hmade hrd4 hbut4 hcell3 hfz3 hq'
   go_wp2_with fail
   refine (cat_made w4 (lo := w3.heap.size) (m := w3.heap.size) (s1 := 0) (MadeIn.leaf w4 _ _ 3 0 ⟨#[]⟩ 0 (by decide) 0 (by decide)) HB4.out.2.1 (Nat.le_refl _) hl34 (Nat.le_refl _)).mono ?_
   rintro e5 w5 ⟨v3, rfl, hm5, hbel5⟩
   have hbut5 : But w4.heap.size x w4 w5 := But.of_below hbel5
   have hcell5 : ∀ o, w5.cell? ⟨w.heap.size, o, none⟩ = _ := fun o => (hbut5.cell (c := w.heap.size) (o := o) hzr4 hne).trans (hcell4 o)
   have hfz5 : ∀ o, w5.frozen? ⟨w.heap.size, o, none⟩ = _ := fun o => (hbut5.frozen (c := w.heap.size) (o := o) hzr4 hne).trans (hfz4 o)
   have hzr5 : w.heap.size < w5.heap.size := Nat.lt_of_lt_of_le hzr4 hbut5.size
   have hxr5 : x < w5.heap.size := Nat.lt_of_lt_of_le hxr4 hbut5.size
   have hl45 : w4.heap.size ≤ w5.heap.size := hbut5.size
   have HB5 := Lib.hid (And.intro (HB4.out.1.but (B := w4.heap.size) (by omega) hl34 hbut5) (And.intro hm5 (And.intro (rdBelow HB4.out.2.2.1 hxr4 hbel5) (HB4.out.2.2.2.2.trans (hbut5.mono (by omega))))))
   clear hm5 hbel5 hbut5 hcell4 hfz4
   go_wp2_with fail
   refine (cat_made w5 HB5.out.1 HB5.out.2.1 hl23 (by omega) (Nat.le_refl _)).mono ?_
   rintro e6 w6 ⟨v4, rfl, hm6, hbel⟩
   have hbut6 : But w5.heap.size x w5 w6 := But.of_below hbel
   have hcell6 : ∀ o, w6.cell? ⟨w.heap.size, o, none⟩ = _ := fun o => (hbut6.cell (c := w.heap.size) (o := o) hzr5 hne).trans (hcell5 o)
   have hfz6 : ∀ o, w6.frozen? ⟨w.heap.size, o, none⟩ = _ := fun o => (hbut6.frozen (c := w.heap.size) (o := o) hzr5 hne).trans (hfz5 o)
   have hzr6 : w.heap.size < w6.heap.size := Nat.lt_of_lt_of_le hzr5 hbut6.size
   have hxr6 : x < w6.heap.size := Nat.lt_of_lt_of_le hxr5 hbut6.size
   have HB6 := Lib.hid (And.intro (madeMono hm6.made hl01 (show S + (0 + 8 + 2) + 2 ≤ 2 * S + 12 by omega) (show max (2 * d) (max 0 0 + 1) + 1 ≤ 2 * (d + 1) by omega)) (And.intro (rdBelow HB5.out.2.2.1 hxr5 hbel) (HB5.out.2.2.2.trans (hbut6.mono (by omega)))))
   obtain ⟨o, n, t, k, a, cap, fs, rfl, _⟩ := hm6
   clear hbel hbut6 hcell5 hfz5
   go_wp2_with fail
   refine bodyPost_ret (v := .agg #[.int .i64 o, .int .i64 n, .string t, .slice a k.len cap]) (by simp [results, Tryz.results167, go_sem, hcell6, hfz6, hzr6]) rfl ?_
   refine end_of (w1 := w6) (q := q') hx HB6.out.1 HB6.out.2.1 HB4.out.2.2.2.1 HB6.out.2.2 ?_
   repeat (first | exact Touch.refl _ _ _ | refine Touch.setCell ?_ (by simp) (by simp) _)
 ·-- two documents
  have b0 : (r == 0) = false := beq_eq_false_iff_ne.2 (by omega)
  have b1 : (r == 1) = false := beq_eq_false_iff_ne.2 (by omega)
  have b2 : (r == 2) = false := beq_eq_false_iff_ne.2 (by omega)
  have b3 : (r == 3) = false := beq_eq_false_iff_ne.2 (by omega)
  have b4 : (r == 4) = false := beq_eq_false_iff_ne.2 (by omega)
  have b5 : (r == 5) = false := beq_eq_false_iff_ne.2 (by omega)
  have b6 : (r == 6) = false := beq_eq_false_iff_ne.2 (by omega)
  clear hr4 hr8
  have hcell1 := hcell
  have hfz1 := hfz
  have hzr1 := hzr
  have hxr1 := hxr
  clear hcell hfz
  go_wp2_with fail
  clear b0 b1 b2 b3 b4 b5 b6
  refine (IH.out w1 x lo (p + 1) HB.out.1 (by omega) hxr1).mono ?_
  rintro e2 w2 ⟨v1, q, rfl, hmade, hrd2, hq, hbut2⟩
  have hcell2 : ∀ o, w2.cell? ⟨w.heap.size, o, none⟩ = _ := fun o => (hbut2.cell (c := w.heap.size) (o := o) hzr1 hne).trans (hcell1 o)
  have hfz2 : ∀ o, w2.frozen? ⟨w.heap.size, o, none⟩ = _ := fun o => (hbut2.frozen (c := w.heap.size) (o := o) hzr1 hne).trans (hfz1 o)
  have hzr2 : w.heap.size < w2.heap.size := Nat.lt_of_lt_of_le hzr1 hbut2.size
  have hxr2 : x < w2.heap.size := Nat.lt_of_lt_of_le hxr1 hbut2.size
  have HB2 := Lib.hid (And.intro (MadeIn.of hmade) (And.intro hrd2 (And.intro hq (And.intro (HB.out.2.trans (hbut2.mono (by omega))) hbut2))))
  have hq2 : q + D ≤ 1073741824 := by omega
  clear hmade hrd2 hbut2 hcell1 hfz1 hq
  go_wp2_with fail
  refine (IH.out w2 x lo q HB2.out.2.1 hq2 hxr2).mono ?_
  rintro e3 w3 ⟨v2, q', rfl, hmade, hrd3, hq', hbut3⟩
  have hcell3 : ∀ o, w3.cell? ⟨w.heap.size, o, none⟩ = _ := fun o => (hbut3.cell (c := w.heap.size) (o := o) hzr2 hne).trans (hcell2 o)
  have hfz3 : ∀ o, w3.frozen? ⟨w.heap.size, o, none⟩ = _ := fun o => (hbut3.frozen (c := w.heap.size) (o := o) hzr2 hne).trans (hfz2 o)
  have hzr3 : w.heap.size < w3.heap.size := Nat.lt_of_lt_of_le hzr2 hbut3.size
  have hxr3 : x < w3.heap.size := Nat.lt_of_lt_of_le hxr2 hbut3.size
  have hl12 : w1.heap.size ≤ w2.heap.size := HB2.out.2.2.2.2.size
  have hl23 : w2.heap.size ≤ w3.heap.size := hbut3.size
  have HB3 := Lib.hid (And.intro (HB2.out.1.but (B := w2.heap.size) (by omega) (Nat.le_refl _) hbut3) (And.intro (MadeIn.of hmade) (And.intro hrd3 (And.intro (show q' ≤ p + (2 * D + 4) by have := HB2.out.2.2.1; omega) (HB2.out.2.2.2.1.trans (hbut3.mono (by omega)))))))
  clear hmade hrd3 hbut3 hcell2 hfz2 hq'
  go_wp2_with fail
  refine (cat_made w3 HB3.out.1 HB3.out.2.1 hl12 hl23 (Nat.le_refl _)).mono ?_
  rintro e4 w4 ⟨v4, rfl, hm4, hbel⟩
  have hbut4 : But w3.heap.size x w3 w4 := But.of_below hbel
  have hcell4 : ∀ o, w4.cell? ⟨w.heap.size, o, none⟩ = _ := fun o => (hbut4.cell (c := w.heap.size) (o := o) hzr3 hne).trans (hcell3 o)
  have hfz4 : ∀ o, w4.frozen? ⟨w.heap.size, o, none⟩ = _ := fun o => (hbut4.frozen (c := w.heap.size) (o := o) hzr3 hne).trans (hfz3 o)
  have hzr4 : w.heap.size < w4.heap.size := Nat.lt_of_lt_of_le hzr3 hbut4.size
  have hxr4 : x < w4.heap.size := Nat.lt_of_lt_of_le hxr3 hbut4.size
  have HB4 := Lib.hid (And.intro (madeMono hm4.made (show w.heap.size + 1 ≤ w1.heap.size by omega) (show S + S + 2 ≤ 2 * S + 12 by omega) (show max (2 * d) (2 * d) + 1 ≤ 2 * (d + 1) by omega)) (And.intro (rdBelow HB3.out.2.2.1 hxr3 hbel) (HB3.out.2.2.2.2.trans (hbut4.mono (by omega)))))
  obtain ⟨o, n, t, k, a, cap, fs, rfl, _⟩ := hm4
  clear hbel hbut4 hcell3 hfz3 hl12 hl23
  go_wp2_with fail
  refine bodyPost_ret (v := .agg #[.int .i64 o, .int .i64 n, .string t, .slice a k.len cap]) (by simp [results, Tryz.results167, go_sem, hcell4, hfz4, hzr4]) rfl ?_
  refine end_of (w1 := w4) (q := q') hx HB4.out.1 HB4.out.2.1 HB3.out.2.2.2.1 HB4.out.2.2 ?_
  repeat (first | exact Touch.refl _ _ _ | refine Touch.setCell ?_ (by simp) (by simp) _)
theorem someS : ∀ d : Nat, d ≤ 10 → SomeS d
 | 0, _ => zeroS
 | d + 1, h => fun w x lo p h1 h2 h3 => by
   have := succS d (someS d (by omega)) (by omega) w x lo p h1 h2 h3
   rwa [show ((d : Int) + 1) = ((d + 1 : Nat) : Int) by omega] at this
end Go.Proofs.YtjcaiecapapceaaGreat.DrC
namespace Go.Proofs.YtjcaiecapapceaaGreat.Draw6
open Go.RowKit Draw Draw2
set_option linter.unusedVariables false
set_option linter.unusedSimpArgs false
def Bytes (w : World) (a : Option Addr) (l : Nat) : Prop := 0 < l → ∃ b off, a = some ⟨b, off, none⟩ ∧ b < w.heap.size ∧ ∀ i, i < l → ∃ v : Nat, v ≤ 255 ∧ w.cell? ⟨b, off + i, none⟩ = some (.int .u8 v)
def OpenOut (w : World) (e : Ending) (w' : World) : Prop := e = .returned (.pointer (some ⟨w.heap.size, 0, none⟩)) ∧ Rd w' w.heap.size w.heap.size 0 ∧ w.heap.size < w'.heap.size ∧ Below w.heap.size w w'
theorem rd_new {w : World} {a : Option Addr} {l c : Nat} (h : Bytes w a l) (hl : l ≤ 2000) (hc : l ≤ c) (T : TypeId) : Rd (w.alloc (.cells #[.slice a l c, .int .i64 0] T)) w.heap.size w.heap.size 0 := by
 refine ⟨a, l, c, by rw [World.cell?_alloc_new]; rfl, by rw [World.cell?_alloc_new]; rfl, World.frozen?_alloc_new _ _ _ _, hl, hc, Nat.le_refl _, fun h0 => ?_⟩
 obtain ⟨b, off, ha, hb, hx⟩ := h h0
 refine ⟨b, off, ha, hb, fun i hi => ?_⟩
 obtain ⟨v, hv, hcell⟩ := hx i hi
 exact ⟨v, hv, (World.cell?_alloc_lt w _ ⟨b, off + i, none⟩ hb).trans hcell⟩
theorem l15Open (w : World) (a : Option Addr) (l c : Nat) (hb : Bytes w a l) (hlc : l ≤ c) (hc : c ≤ maxLen) :
  Calls Tryz.prog 69 #[.slice a l c] w (OpenOut w) := by
 unfold maxLen at hc
 by_cases hl : 2000 < l
 ·obtain ⟨b, off, rfl, hbw, hx⟩ := hb (by omega)
  have HB := Lib.hid (show Bytes w (some ⟨b, off, none⟩) 2000 from fun _ => ⟨b, off, rfl, hbw, fun i hi => hx i (by omega)⟩)
  clear hb hx hbw
  go_enter Tryz.func69, Tryz.ntmps69
  go_wp2_with fail
  go_ret
  exact ⟨rfl, rd_new HB.out (by omega) (by omega) _, by simp, (Below.refl _ _).alloc (Nat.le_refl _) _⟩
 ·have HB := Lib.hid hb
  clear hb
  go_enter Tryz.func69, Tryz.ntmps69
  go_wp2_with fail
  go_ret
  exact ⟨rfl, rd_new HB.out (by omega) hlc _, by simp, (Below.refl _ _).alloc (Nat.le_refl _) _⟩
end Go.Proofs.YtjcaiecapapceaaGreat.Draw6
