/-
  What OpenLayout of the program and of the model come to.
-/
import Derived.Test.YtgnpcfafdjebeaaOpenS
import Derived.Test.YtgnpcfafdjebeaaOpenI
import Derived.Test.YtgnpcfafdjebeaaSpecC
import Derived.Test.YtgnpcfafdjebeaaPartV
set_option linter.unusedVariables false
set_option linter.unusedSimpArgs false
namespace Go.Proofs.Ytgnpcfafdjebeaa.OpenR
open Go.RowKit P1 LayL LayV LayM LayN LayC

/-- what OpenLayout comes to -/
def openRes (o n : Int) (t : ByteArray) (k : F) : List (Int × ByteArray) × Bool := if validD o n t k = true then (openD o n t k, true) else ([], false)
theorem openRes_yes {o n : Int} {t : ByteArray} {k : F} (h : validD o n t k = true) : openRes o n t k = (openD o n t k, true) := by unfold openRes; rw [if_pos h]
theorem openRes_no {o n : Int} {t : ByteArray} {k : F} (h : validD o n t k = false) : openRes o n t k = ([], false) := by unfold openRes; rw [if_neg (by simp [h])]
theorem valid_open {o n : Int} {t : ByteArray} {k : F} (h : validD o n t k = true) : okD 40 o n t k = true ∧ 1 + k.cnt ≤ 80 := by simpa [validD] using h
theorem valid_lv {o n : Int} {t : ByteArray} {k : F} (h : validD o n t k = true) : lv (openD o n t k) = true := (open_good 40 o n t k (valid_open h).1).lv (valid_open h).2 (by omega)
theorem openRes_len (o n : Int) (t : ByteArray) (k : F) : (openRes o n t k).1.length ≤ 1048576 := by
  cases h : validD o n t k with
  | true => rw [openRes_yes h]; have := lv_len (valid_lv h); show (openD o n t k).length ≤ _; omega
  | false => rw [openRes_no h]; simp

set_option maxRecDepth 100000 in
set_option maxHeartbeats 1600000 in
theorem specOpenLayout (w : World) (o n : Int) (t : ByteArray) (k : F) (a : Option Addr) (cap : Nat) (fs : List Nat) (hs : SubAt w a k fs) (hfs : ∀ c ∈ fs, c < w.heap.size) (hc : k.len ≤ cap) (hsz : k.size ≤ 4194304) (hft : k.Fits) (ht : t.size ≤ maxLen) :
    Calls Try.prog 34 #[.agg #[.int .i64 o, .int .i64 n, .string t, .slice a k.len cap]] w (LayRes w (openRes o n t k)) := by
  have B1 := Lib.hid (show ∀ ob, Below w.heap.size w (w.alloc ob) from fun ob => (Below.refl _ _).alloc (Nat.le_refl _) _)
  have HA := Lib.hid (show ∀ (W : World) ob, Below w.heap.size w W → Below w.heap.size w (W.alloc ob) from fun W ob h => h.alloc h.size ob)
  have hv := fun (W : World) (hW : Below w.heap.size w W) => SpecC.docValid W o n t k a cap fs (hs.below hfs hW) (fun c hc => Nat.lt_of_lt_of_le (hfs c hc) hW.size) hc hsz hft ht
  cases hvd : validD o n t k with
  | false =>
    rw [openRes_no hvd]
    rw [hvd] at hv
    have HV := Lib.hid hv
    clear hv hvd hs hfs hft
    go_enter Try.func34, Try.ntmps34
    go_wp2_with fail
    refine (HV.out _ (B1.out _)).mono ?_
    rintro e1 w1 ⟨rfl, hb1⟩
    have HB := Lib.hid ((B1.out _).trans (hb1.mono (B1.out _).size))
    clear hb1
    go_wp2_with fail
    go_ret2
    exact LayRes.none' (HA.out _ _ HB.out)
  | true =>
    rw [openRes_yes hvd]
    rw [hvd] at hv
    have hop := fun (W : World) (hW : Below w.heap.size w W) => specS_all 40 (by omega) o n t k (valid_open hvd).1 (valid_open hvd).2 W a cap fs (hs.below hfs hW) (fun c hc => Nat.lt_of_lt_of_le (hfs c hc) hW.size) hc
    obtain ⟨X, hX⟩ : ∃ X, openD o n t k = X := ⟨_, rfl⟩
    rw [hX] at hop ⊢
    have HV := Lib.hid hv
    have HO := Lib.hid hop
    clear hv hop hX hvd hs hfs hft
    go_enter Try.func34, Try.ntmps34
    go_wp2_with fail
    refine (HV.out _ (B1.out _)).mono ?_
    rintro e1 w1 ⟨rfl, hb1⟩
    have hx0 : w1.cell? ⟨w.heap.size, 0, none⟩ = some (.int .i64 o) := (hb1.cell (p := ⟨_, _, _⟩) (by simp)).trans (by rw [World.cell?_alloc_new]; rfl)
    have hx1 : w1.cell? ⟨w.heap.size, 1, none⟩ = some (.int .i64 n) := (hb1.cell (p := ⟨_, _, _⟩) (by simp)).trans (by rw [World.cell?_alloc_new]; rfl)
    have hx2 : w1.cell? ⟨w.heap.size, 2, none⟩ = some (.string t) := (hb1.cell (p := ⟨_, _, _⟩) (by simp)).trans (by rw [World.cell?_alloc_new]; rfl)
    have hx3 : w1.cell? ⟨w.heap.size, 3, none⟩ = some (.slice a k.len cap) := (hb1.cell (p := ⟨_, _, _⟩) (by simp)).trans (by rw [World.cell?_alloc_new]; rfl)
    have HB := Lib.hid ((B1.out _).trans (hb1.mono (B1.out _).size))
    clear hb1
    go_wp2_with fail
    refine (HO.out _ HB.out).mono ?_
    rintro e1 w2 ⟨a2, c2, f2, rfl, hc2, hs2, hf2, hb2⟩
    have H2 := Lib.hid (And.intro hc2 (And.intro hs2 (And.intro (hf2.mono HB.out.size) (HB.out.trans (hb2.mono HB.out.size)))))
    clear hc2 hs2 hf2 hb2 hx0 hx1 hx2 hx3
    go_wp2_with fail
    go_ret2
    exact ⟨a2, c2, f2, rfl, H2.out.1, H2.out.2.1, H2.out.2.2.1, H2.out.2.2.2⟩

set_option maxRecDepth 100000 in
set_option maxHeartbeats 1600000 in
theorem implOpenLayout (w : World) (o n : Int) (t : ByteArray) (k : F) (a : Option Addr) (cap : Nat) (fs : List Nat) (hs : SubAt w a k fs) (hfs : ∀ c ∈ fs, c < w.heap.size) (hc : k.len ≤ cap) (hsz : k.size ≤ 4194304) (hft : k.Fits) (ht : t.size ≤ maxLen) :
    Calls Try.prog 33 #[.agg #[.int .i64 o, .int .i64 n, .string t, .slice a k.len cap]] w (LayRes w (openRes o n t k)) := by
  have B1 := Lib.hid (show ∀ ob, Below w.heap.size w (w.alloc ob) from fun ob => (Below.refl _ _).alloc (Nat.le_refl _) _)
  have HA := Lib.hid (show ∀ (W : World) ob, Below w.heap.size w W → Below w.heap.size w (W.alloc ob) from fun W ob h => h.alloc h.size ob)
  have hv := fun (W : World) (hW : Below w.heap.size w W) => PartV.docValid W o n t k a cap fs (hs.below hfs hW) (fun c hc => Nat.lt_of_lt_of_le (hfs c hc) hW.size) hc (by have := F.len_le_size k; unfold maxLen; omega) hft ht
  cases hvd : validD o n t k with
  | false =>
    rw [openRes_no hvd]
    rw [hvd] at hv
    have HV := Lib.hid hv
    clear hv hvd hs hfs hft
    go_enter Try.func33, Try.ntmps33
    go_wp2_with fail
    refine (HV.out _ (B1.out _)).mono ?_
    rintro e1 w1 ⟨rfl, hb1⟩
    have HB := Lib.hid ((B1.out _).trans (hb1.mono (B1.out _).size))
    clear hb1
    go_wp2_with fail
    go_ret2
    exact LayRes.none' HB.out
  | true =>
    rw [openRes_yes hvd]
    rw [hvd] at hv
    have hop := fun (W : World) (hW : Below w.heap.size w W) => implS_all 40 (by omega) o n t k (valid_open hvd).1 (valid_open hvd).2 W a cap fs (hs.below hfs hW) (fun c hc => Nat.lt_of_lt_of_le (hfs c hc) hW.size) hc
    obtain ⟨X, hX⟩ : ∃ X, openD o n t k = X := ⟨_, rfl⟩
    rw [hX] at hop ⊢
    have HV := Lib.hid hv
    have HO := Lib.hid hop
    clear hv hop hX hvd hs hfs hft
    go_enter Try.func33, Try.ntmps33
    go_wp2_with fail
    refine (HV.out _ (B1.out _)).mono ?_
    rintro e1 w1 ⟨rfl, hb1⟩
    have hx0 : w1.cell? ⟨w.heap.size, 0, none⟩ = some (.int .i64 o) := (hb1.cell (p := ⟨_, _, _⟩) (by simp)).trans (by rw [World.cell?_alloc_new]; rfl)
    have hx1 : w1.cell? ⟨w.heap.size, 1, none⟩ = some (.int .i64 n) := (hb1.cell (p := ⟨_, _, _⟩) (by simp)).trans (by rw [World.cell?_alloc_new]; rfl)
    have hx2 : w1.cell? ⟨w.heap.size, 2, none⟩ = some (.string t) := (hb1.cell (p := ⟨_, _, _⟩) (by simp)).trans (by rw [World.cell?_alloc_new]; rfl)
    have hx3 : w1.cell? ⟨w.heap.size, 3, none⟩ = some (.slice a k.len cap) := (hb1.cell (p := ⟨_, _, _⟩) (by simp)).trans (by rw [World.cell?_alloc_new]; rfl)
    have HB := Lib.hid ((B1.out _).trans (hb1.mono (B1.out _).size))
    clear hb1
    go_wp2_with fail
    refine (HO.out _ HB.out).mono ?_
    rintro e1 w2 ⟨a2, c2, f2, rfl, hc2, hs2, hf2, hb2⟩
    have H2 := Lib.hid (And.intro hc2 (And.intro hs2 (And.intro (hf2.mono HB.out.size) (HB.out.trans (hb2.mono HB.out.size)))))
    clear hc2 hs2 hf2 hb2 hx0 hx1 hx2 hx3
    go_wp2_with fail
    go_ret2
    exact ⟨a2, c2, f2, rfl, H2.out.1, H2.out.2.1, H2.out.2.2.1, H2.out.2.2.2⟩

end Go.Proofs.Ytgnpcfafdjebeaa.OpenR
