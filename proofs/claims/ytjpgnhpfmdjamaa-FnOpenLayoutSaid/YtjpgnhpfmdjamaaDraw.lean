/-
  What the model's source of drawn numbers comes to: some number below the bound; only its own counter is written.
-/
import Derived.Test.YtjpgnhpfmdjamaaDocs
import Derived.Test.YtjpgnhpfmdjamaaChecked
import Derived.Deep.QuietTactic
import Derived.BigQuiet
import Derived.Deep.Slices
import Derived.IntWalk
namespace Go.Proofs.Ytjpgnhpfmdjamaa.Draw
open Go.RowKit
set_option linter.unusedVariables false
set_option linter.unusedSimpArgs false

theorem xor_pos (X Y : Int) (h1 : 0 ≤ X) (h2 : X < 4611686018427387904) (h3 : 0 ≤ Y) (h4 : Y < 4611686018427387904) : 0 ≤ bits .xor .i64 X Y := by
  obtain ⟨a, rfl⟩ := Int.eq_ofNat_of_zero_le h1
  obtain ⟨b, rfl⟩ := Int.eq_ofNat_of_zero_le h3
  have hx : a ^^^ b < 2 ^ 62 := Nat.xor_lt_two_pow (by omega) (by omega)
  have e1 : (BitVec.ofInt 64 (a : Int)).toNat = a := by
    rw [BitVec.ofInt_natCast, BitVec.toNat_ofNat]; exact Nat.mod_eq_of_lt (by omega)
  have e2 : (BitVec.ofInt 64 (b : Int)).toNat = b := by
    rw [BitVec.ofInt_natCast, BitVec.toNat_ofNat]; exact Nat.mod_eq_of_lt (by omega)
  show 0 ≤ IntKind.i64.wrap ((BitVec.ofInt 64 (a : Int) ^^^ BitVec.ofInt 64 (b : Int)).toNat : Int)
  rw [BitVec.toNat_xor, e1, e2, IntWalk.i64_in _ (by omega)]
  omega

/-- A reader at block x: its bytes lie elsewhere, below lo; p numbers have been drawn. -/
def Rd (w : World) (x lo p : Nat) : Prop := ∃ (a : Option Addr) (l c : Nat), w.cell? ⟨x, 0, none⟩ = some (.slice a l c) ∧ w.cell? ⟨x, 1, none⟩ = some (.int .i64 p) ∧ w.frozen? ⟨x, 1, none⟩ = false ∧ l ≤ 2000 ∧ l ≤ c ∧ lo ≤ x ∧
  (0 < l → ∃ b off, a = some ⟨b, off, none⟩ ∧ b < lo ∧ ∀ i, i < l → ∃ v : Nat, v ≤ 255 ∧ w.cell? ⟨b, off + i, none⟩ = some (.int .u8 v))

/-- what a draw comes to: a number below n, and one more drawn -/
def Pick (w : World) (x lo p : Nat) (n : Int) (e : Ending) (w' : World) : Prop := ∃ r : Int, e = .returned (.int .i64 r) ∧ 0 ≤ r ∧ (r < n ∨ r = 0) ∧ Rd w' x lo (p + 1) ∧ But w.heap.size x w w'

theorem Rd.step {w : World} {x lo p : Nat} (h : Rd w x lo p) : Rd (w.setCell ⟨x, 1, none⟩ (.int .i64 ((p : Int) + 1))) x lo (p + 1) := by
  obtain ⟨a, l, c, h0, h1, h2, h3, h4, h5, h6⟩ := h
  refine ⟨a, l, c, ?_, ?_, by rw [World.frozen?_setCell]; exact h2, h3, h4, h5, fun hl => ?_⟩
  · rw [World.cell?_setCell_other _ _ _ _ (by simp)]; exact h0
  · rw [World.cell?_setCell_same w _ _ h1]; simp
  · obtain ⟨b, off, ha, hb, hc⟩ := h6 hl
    refine ⟨b, off, ha, hb, fun i hi => ?_⟩
    obtain ⟨v, hv, hcell⟩ := hc i hi
    exact ⟨v, hv, by rw [World.cell?_setCell_other _ _ _ _ (by intro e; injection e with e1; omega)]; exact hcell⟩

theorem Rd.drewN {w : World} {x lo p : Nat} (h : Rd w x lo p) (n : Nat) : Rd (w.drewN n) x lo p := by
  induction n with
  | zero => exact h
  | succ n ih => exact ih

theorem butDrewN {B x : Nat} {a w : World} (h : But B x a w) (n : Nat) : But B x a (w.drewN n) := by
  induction n with
  | zero => exact h
  | succ n ih => exact ih.drew

set_option maxRecDepth 100000 in
set_option maxHeartbeats 1600000 in
theorem pick (w : World) (x lo p : Nat) (n : Int) (hrd : Rd w x lo p) (hp : p ≤ 1073741824) :
    Calls Try.prog 66 #[.pointer (some ⟨x, 0, none⟩), .int .i64 n] w (Pick w x lo p n) := by
  have hstep := hrd.step
  have hbut : But w.heap.size x w (w.setCell ⟨x, 1, none⟩ (.int .i64 ((p : Int) + 1))) := (But.refl _ _ _).setCell (p := ⟨x, 1, none⟩) (Or.inl rfl) _
  have HST := Lib.hid (And.intro hstep hbut)
  obtain ⟨a, l, c, h0, h1, h2, h3, h4, h5, h6⟩ := hrd
  have hS0 : ∀ v, (w.setCell ⟨x, 1, none⟩ v).cell? ⟨x, 0, none⟩ = some (.slice a l c) := fun v => by rw [World.cell?_setCell_other _ _ _ _ (by simp)]; exact h0
  have hS1 : ∀ v, (w.setCell ⟨x, 1, none⟩ v).cell? ⟨x, 1, none⟩ = some v := fun v => World.cell?_setCell_same w _ _ h1
  clear hstep hbut
  by_cases hn : n < 1
  · clear h6
    go_enter Try.func66, Try.ntmps66
    go_wp2_with fail
    go_ret
    exact ⟨0, rfl, by omega, Or.inr rfl, HST.out.1, HST.out.2⟩
  · have hn1 : 1 ≤ n := by omega
    by_cases hl : l = 0
    · subst hl
      clear h6
      go_enter Try.func66, Try.ntmps66
      go_wp2_with fail
      go_ret
      exact ⟨0, rfl, by omega, Or.inr rfl, HST.out.1, HST.out.2⟩
    · have hl1 : 1 ≤ l := by omega
      have hl2 : ((l : Int) == 0) = false := by rw [beq_eq_false_iff_ne]; omega
      obtain ⟨b, off, rfl, hb, hbytes⟩ := h6 (by omega)
      obtain ⟨f, hf⟩ := Deep.choose_lt (α := Nat) hbytes
      have hSb : ∀ v i, i < l → (w.setCell ⟨x, 1, none⟩ v).cell? ⟨b, off + i, none⟩ = some (.int .u8 (f i : Int)) := fun v i hi => by rw [World.cell?_setCell_other _ _ _ _ (by intro e; injection e with e1; omega)]; exact (hf i hi).2
      clear h6 hbytes
      by_cases hk : p < l
      · have hfk : (f p : Int) ≤ 255 := by have := (hf p hk).1; omega
        have hck := hSb (.int .i64 ((p : Int) + 1)) p hk
        have hr0 : 0 ≤ (f p : Int) % n := Int.emod_nonneg _ (by omega)
        have hr1 : (f p : Int) % n < n := Int.emod_lt_of_pos _ (by omega)
        have HR := Lib.hid (And.intro hr0 hr1)
        clear hr0 hr1 hf hSb hl
        go_enter Try.func66, Try.ntmps66
        go_wp2_with fail
        go_ret
        exact ⟨_, rfl, HR.out.1, Or.inl HR.out.2, HST.out.1, HST.out.2⟩
      · obtain ⟨m1, hm1⟩ : ∃ m1, p % l = m1 := ⟨_, rfl⟩
        obtain ⟨m2, hm2⟩ : ∃ m2, (p * 7 + 3) % l = m2 := ⟨_, rfl⟩
        obtain ⟨q, hq⟩ : ∃ q, p / l = q := ⟨_, rfl⟩
        have hlt1 : m1 < l := hm1 ▸ Nat.mod_lt _ (by omega)
        have hlt2 : m2 < l := hm2 ▸ Nat.mod_lt _ (by omega)
        have hqp : q ≤ p := hq ▸ Nat.div_le_self _ _
        have ht1 : (p : Int).tmod (l : Int) = (m1 : Int) := by rw [← hm1]; rfl
        have ht2 : ((p : Int) * 7 + 3).tmod (l : Int) = (m2 : Int) := by rw [← hm2]; rfl
        have ht3 : (p : Int).tdiv (l : Int) = (q : Int) := by rw [← hq]; rfl
        obtain ⟨v1, hv1⟩ : ∃ v1, f m1 = v1 := ⟨_, rfl⟩
        obtain ⟨v2, hv2⟩ : ∃ v2, f m2 = v2 := ⟨_, rfl⟩
        have hf1 : v1 ≤ 255 := hv1 ▸ (hf _ hlt1).1
        have hf2 : v2 ≤ 255 := hv2 ▸ (hf _ hlt2).1
        have hc1 := hSb (.int .i64 ((p : Int) + 1)) _ hlt1
        have hc2 := hSb (.int .i64 ((p : Int) + 1)) _ hlt2
        rw [hv1] at hc1
        rw [hv2] at hc2
        have w1 : IntKind.i64.wrap ((p : Int) * 7) = (p : Int) * 7 := IntWalk.i64_in _ (by omega)
        have w2 : IntKind.i64.wrap ((p : Int) * 7 + 3) = (p : Int) * 7 + 3 := IntWalk.i64_in _ (by omega)
        have w3 : IntKind.i64.wrap (v1 : Int) = (v1 : Int) := IntWalk.i64_in _ (by omega)
        have w4 : IntKind.i64.wrap (v2 : Int) = (v2 : Int) := IntWalk.i64_in _ (by omega)
        have w5 : IntKind.i64.wrap ((v1 : Int) * 131) = (v1 : Int) * 131 := IntWalk.i64_in _ (by omega)
        have w6 : IntKind.i64.wrap ((v2 : Int) * 1117) = (v2 : Int) * 1117 := IntWalk.i64_in _ (by omega)
        have w7 : IntKind.i64.wrap ((v1 : Int) * 131 + (v2 : Int) * 1117) = (v1 : Int) * 131 + (v2 : Int) * 1117 := IntWalk.i64_in _ (by omega)
        have w8 : IntKind.i64.wrap ((p : Int) * 29) = (p : Int) * 29 := IntWalk.i64_in _ (by omega)
        have w9 : IntKind.i64.wrap ((v1 : Int) * 131 + (v2 : Int) * 1117 + (p : Int) * 29) = (v1 : Int) * 131 + (v2 : Int) * 1117 + (p : Int) * 29 := IntWalk.i64_in _ (by omega)
        have w10 : IntKind.i64.wrap (q : Int) = (q : Int) := IntWalk.i64_in _ (by omega)
        have w11 : IntKind.i64.wrap ((q : Int) * 53) = (q : Int) * 53 := IntWalk.i64_in _ (by omega)
        obtain ⟨X, hX⟩ : ∃ X : Int, (v1 : Int) * 131 + (v2 : Int) * 1117 + (p : Int) * 29 + (q : Int) * 53 = X := ⟨_, rfl⟩
        have w12 : IntKind.i64.wrap ((v1 : Int) * 131 + (v2 : Int) * 1117 + (p : Int) * 29 + (q : Int) * 53) = X := by rw [← hX]; exact IntWalk.i64_in _ (by omega)
        have hX0 : 0 ≤ X := by omega
        have hX1 : X ≤ 109951162777600 := by omega
        have hl3 : ¬ (l : Int) = 0 := by omega
        have i1 : (m1 : Int) < (l : Int) := by omega
        have i2 : (m2 : Int) < (l : Int) := by omega
        clear hf hSb hm1 hm2 hq hv1 hv2 hX
        go_enter Try.func66, Try.ntmps66
        go_wp2_with fail
        go_quiet (fail)
        clear w1 w2 w3 w4 w5 w6 w7 w8 w9 w10 w11 w12
        have hx := xor_pos X (X / 64) hX0 (by omega) (by omega) (by omega)
        go_wp2_with fail
        go_ret
        exact ⟨_, rfl, Int.emod_nonneg _ (by omega), Or.inl (Int.emod_lt_of_pos _ (by omega)), HST.out.1.drewN _, butDrewN HST.out.2 _⟩

/-- The numbers of a []int that lies there. -/
def Ints (w : World) (b off : Nat) (xs : List Int) : Prop := ∀ i (h : i < xs.length), w.cell? ⟨b, off + i, none⟩ = some (.int .i64 xs[i])
def Strs (w : World) (b off : Nat) (xs : List ByteArray) : Prop := ∀ i (h : i < xs.length), w.cell? ⟨b, off + i, none⟩ = some (.string xs[i])

def NumOut (w : World) (x lo p : Nat) (xs : List Int) (e : Ending) (w' : World) : Prop := ∃ r ∈ xs, e = .returned (.int .i64 r) ∧ Rd w' x lo (p + 1) ∧ But w.heap.size x w w'
def OfOut (w : World) (x lo p : Nat) (xs : List ByteArray) (e : Ending) (w' : World) : Prop := ∃ r ∈ xs, e = .returned (.string r) ∧ Rd w' x lo (p + 1) ∧ But w.heap.size x w w'

set_option maxRecDepth 100000 in
set_option maxHeartbeats 800000 in
theorem num (w : World) (x lo p b off cap : Nat) (xs : List Int) (hrd : Rd w x lo p) (hp : p ≤ 1073741824) (hx : Ints w b off xs) (h0 : 0 < xs.length) (hcap : xs.length ≤ cap) (hm : xs.length ≤ 1000) (hb : b < w.heap.size) (hbx : b ≠ x) :
    Calls Try.prog 62 #[.pointer (some ⟨x, 0, none⟩), .slice (some ⟨b, off, none⟩) xs.length cap] w (NumOut w x lo p xs) := by
  obtain ⟨L, hL⟩ : ∃ L, xs.length = L := ⟨_, rfl⟩
  have hpk := pick w x lo p xs.length hrd hp
  rw [hL] at h0 hcap hm hpk ⊢
  have HP := Lib.hid hpk
  have HX := Lib.hid hx
  have HL := Lib.hid hL
  clear hpk hx hrd hL
  go_enter Try.func62, Try.ntmps62
  go_wp2_with fail
  refine HP.out.mono ?_
  rintro e1 w1 ⟨r, rfl, hr0, hr1, hrd1, hbut⟩
  obtain ⟨k, rfl⟩ := Int.eq_ofNat_of_zero_le hr0
  have hkL : k < L := by omega
  have hk' : k < xs.length := by rw [HL.out]; exact hkL
  have hc : w1.cell? ⟨b, off + k, none⟩ = some (.int .i64 xs[k]) := by rw [hbut.cell hb hbx]; exact HX.out k hk'
  have HR := Lib.hid (And.intro hrd1 hbut)
  have i1 : (k : Int) < (L : Int) := by omega
  clear hr1 hrd1 hbut
  go_wp2_with fail
  go_ret
  exact ⟨xs[k], List.getElem_mem _, rfl, HR.out.1, HR.out.2⟩

set_option maxRecDepth 100000 in
set_option maxHeartbeats 800000 in
theorem of (w : World) (x lo p b off cap : Nat) (xs : List ByteArray) (hrd : Rd w x lo p) (hp : p ≤ 1073741824) (hx : Strs w b off xs) (h0 : 0 < xs.length) (hcap : xs.length ≤ cap) (hm : xs.length ≤ 1000) (hb : b < w.heap.size) (hbx : b ≠ x) :
    Calls Try.prog 83 #[.pointer (some ⟨x, 0, none⟩), .slice (some ⟨b, off, none⟩) xs.length cap] w (OfOut w x lo p xs) := by
  obtain ⟨L, hL⟩ : ∃ L, xs.length = L := ⟨_, rfl⟩
  have hpk := pick w x lo p xs.length hrd hp
  rw [hL] at h0 hcap hm hpk ⊢
  have HP := Lib.hid hpk
  have HX := Lib.hid hx
  have HL := Lib.hid hL
  clear hpk hx hrd hL
  go_enter Try.func83, Try.ntmps83
  go_wp2_with fail
  refine HP.out.mono ?_
  rintro e1 w1 ⟨r, rfl, hr0, hr1, hrd1, hbut⟩
  obtain ⟨k, rfl⟩ := Int.eq_ofNat_of_zero_le hr0
  have hkL : k < L := by omega
  have hk' : k < xs.length := by rw [HL.out]; exact hkL
  have hc : w1.cell? ⟨b, off + k, none⟩ = some (.string xs[k]) := by rw [hbut.cell hb hbx]; exact HX.out k hk'
  have HR := Lib.hid (And.intro hrd1 hbut)
  have i1 : (k : Int) < (L : Int) := by omega
  clear hr1 hrd1 hbut
  go_wp2_with fail
  go_ret
  exact ⟨xs[k], List.getElem_mem _, rfl, HR.out.1, HR.out.2⟩

end Go.Proofs.Ytjpgnhpfmdjamaa.Draw
