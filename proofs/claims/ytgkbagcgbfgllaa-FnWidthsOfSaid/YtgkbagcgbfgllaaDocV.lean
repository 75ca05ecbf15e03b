import Derived.Test.YtgkbagcgbfgllaaDocF
import Derived.Test.YtgkbagcgbfgllaaRnV
import Derived.BigQuiet
import Derived.Deep.QuietTactic
/-
  WidthsOf at a document that stays; daInts; what the widths of change are.
-/
set_option linter.unusedVariables false
set_option linter.unusedSimpArgs false
namespace Go.Proofs.Ytgkbagcgbfgllaa.DocR
open Go.RowKit P1 CntC Wid LayN OpenR ChP Rn VsI

/-- numbers, and whether there are some -/
def IOut (w : World) (X : List Int) (V : Bool) (e : Ending) (w' : World) : Prop := ∃ (a : Option Addr) (c : Nat), e = .returned (.tuple #[.slice a X.length c, .bool V]) ∧ VIs w' (X.map (fun x => Value.int .i64 x)) a c ∧ Ext w w'
theorem IOut.of {w w' : World} {r : List Int × Bool} {e : Ending} (h : IRes w r e w') (g : r.1.length ≤ 1048576) : IOut w r.1 r.2 e w' := by
  obtain ⟨l, ok⟩ := r
  obtain ⟨a, c, fs, rfl, h1, h2, _, h4⟩ := h
  exact ⟨a, c, rfl, ⟨⟨fs, h2⟩, by simpa using h1, by simpa using g⟩, h4⟩
section
variable {w w' : World} {o n : Int} {t : ByteArray} {k : F} {a : Option Addr} {cap : Nat} {fs : List Nat}
theorem implWidths (h : DocK.Doc0 w n t k a cap fs) (o : Int) : Calls Try.prog 24 #[.agg #[.int .i64 o, .int .i64 n, .string t, .slice a k.len cap]] w (IOut w (RnV.wdR o n t k).1 (RnV.wdR o n t k).2) :=
  (RnV.implWidthsOf w o n t k a cap fs h.sub h.ok h.cap_le (by have := h.size; omega) h.fits h.tfit).mono fun _ _ g => IOut.of g (RnV.wd_len o n t k)
theorem specWidths (h : DocK.Doc0 w n t k a cap fs) (o : Int) : Calls Try.prog 25 #[.agg #[.int .i64 o, .int .i64 n, .string t, .slice a k.len cap]] w (IOut w (RnV.wdR o n t k).1 (RnV.wdR o n t k).2) :=
  (RnV.specWidthsOf w o n t k a cap fs h.sub h.lt h.cap_le (by have := h.size; omega) h.fits h.tfit).mono fun _ _ g => IOut.of g (RnV.wd_len o n t k)
end
set_option maxRecDepth 100000 in
set_option maxHeartbeats 1600000 in
theorem daIntsS (bs : List Int) (w : World) (a a' : Option Addr) (cap cap' : Nat) (fs fs' : List Nat) (hs : ISub w a bs fs) (hs' : ISub w a' bs fs') (hc : bs.length ≤ cap) (hc' : bs.length ≤ cap') (hl : bs.length ≤ 1048576) :
    Calls Try.prog 26 #[.slice a bs.length cap, .slice a' bs.length cap'] w fun e w' => e = .returned (.bool true) ∧ Below w.heap.size w w' := by
  have HR := Lib.hid (show ∀ k, (h : k < bs.length) → ∃ b off b' off', a = some ⟨b, off, none⟩ ∧ a' = some ⟨b', off', none⟩ ∧ w.cell? ⟨b, off + k, none⟩ = some (.int .i64 bs[k]) ∧ w.cell? ⟨b', off' + k, none⟩ = some (.int .i64 bs[k]) from fun k h => by
    rcases hs with ⟨h0, _⟩ | ⟨b, off, rfl, _, _, hr⟩
    · rw [List.map_eq_nil_iff] at h0; subst h0; exact absurd h (by simp)
    · rcases hs' with ⟨h0, _⟩ | ⟨b', off', rfl, _, _, hr'⟩
      · rw [List.map_eq_nil_iff] at h0; subst h0; exact absurd h (by simp)
      · have h1 := hr k (by simpa using h)
        have h2 := hr' k (by simpa using h)
        simp only [List.getElem_map] at h1 h2
        exact ⟨b, off, b', off', rfl, rfl, h1, h2⟩)
  obtain ⟨m, hm⟩ : ∃ m, bs.length = m := ⟨_, rfl⟩
  have HM := Lib.hid hm
  rw [hm] at hc hc' hl ⊢
  clear hm hs hs'
  go_enter Try.func26, Try.ntmps26
  go_wp2_with fail
  go_loopw [5] (fun i wr => ∃ (k : Nat), k ≤ m ∧ i = .int .i64 k ∧ ∀ b o, wr.cell? ⟨b, o, none⟩ = w.cell? ⟨b, o, none⟩ ∧ Below w.heap.size w wr) (fun i _ => m - (intOf i).toNat)
  case atStart => exact ⟨0, Nat.zero_le _, rfl, fun _ _ => ⟨rfl, Below.refl _ _⟩⟩
  case round =>
    obtain ⟨k, hk, rfl, hcl⟩ := hrel
    by_cases hkm : k < m
    · obtain ⟨b, off, b', off', rfl, rfl, h1, h2⟩ := HR.out k (by rw [HM.out]; exact hkm)
      rw [← (hcl _ _).1] at h1 h2
      have HCL := Lib.hid hcl
      obtain ⟨x, hx⟩ : ∃ x, bs[k]'(by rw [HM.out]; exact hkm) = x := ⟨_, rfl⟩
      rw [hx] at h1 h2
      have i0 : (0 : Int) ≤ (k : Int) := Int.natCast_nonneg _
      have i1 : (k : Int) < (m : Int) := by omega
      have hxx : (x != x) = false := by simp
      clear hcl hx
      go_wp2_with fail
      go_quiet (fail)
      go_wp2_with fail
      go_roundw
      case rel => exact ⟨k + 1, by omega, by go_num, fun b o => ⟨(HCL.out b o).1, below_drewN (HCL.out b o).2 _⟩⟩
      case measure => simp [intOf]; omega
    · have HCL := Lib.hid hcl
      clear hcl
      go_wp2_with fail
      go_ret
      exact ⟨rfl, (HCL.out 0 0).2⟩


theorem daInts {w : World} {X : List Int} {a a' : Option Addr} {c c' : Nat} (h : VIs w (X.map (fun x => Value.int .i64 x)) a c) (h' : VIs w (X.map (fun x => Value.int .i64 x)) a' c') :
    Calls Try.prog 26 #[.slice a X.length c, .slice a' X.length c'] w fun e w' => e = .returned (.bool true) ∧ Ext w w' := by
  obtain ⟨fs, hs⟩ := h.sub
  obtain ⟨fs', hs'⟩ := h'.sub
  exact daIntsS X w a a' c c' fs fs' hs hs' (by simpa using h.cap_le) (by simpa using h'.cap_le) (by simpa using h.few)

/-! ### the widths of change -/
theorem wd_at {L : Nat → Lay} {X : List Int} (h : X = (wdL L 200).map (fun x : Nat => (x : Int))) {j : Nat} (hj : j < X.length) : ∃ u : Nat, X[j] = (u : Int) + 1 ∧ u + 1 ≤ 200 ∧ L (u + 1) ≠ L u := by
  subst h
  have hj' : j < (wdL L 200).length := by simpa using hj
  have hm := wdL_mem.1 (List.getElem_mem hj')
  refine ⟨(wdL L 200)[j] - 1, ?_, by omega, ?_⟩
  · rw [List.getElem_map]; omega
  · rw [show (wdL L 200)[j] - 1 + 1 = (wdL L 200)[j] by omega]; exact hm.2
theorem wd_lt {L : Nat → Lay} {X : List Int} (h : X = (wdL L 200).map (fun x : Nat => (x : Int))) {j : Nat} (hj : j < X.length) (h0 : 0 < j) : X[j - 1]'(by omega) < X[j] := by
  subst h
  have hj' : j < (wdL L 200).length := by simpa using hj
  rw [List.getElem_map, List.getElem_map]
  exact Int.ofNat_lt.2 (List.pairwise_iff_getElem.1 (wdL_sorted L 200) (j - 1) j (by omega) hj' (by omega))
theorem wd_none {L : Nat → Lay} (h : ([] : List Int) = (wdL L 200).map (fun x : Nat => (x : Int))) : L 200 = L 0 := by
  have h0 : wdL L 200 = [] := List.map_eq_nil_iff.1 h.symm
  exact wdL_same (m := 200) (Nat.le_refl _) (fun w hw => by rw [h0] at hw; simp at hw)
theorem wd_first {L : Nat → Lay} {X : List Int} (h : X = (wdL L 200).map (fun x : Nat => (x : Int))) (hj : 0 < X.length) {u : Nat} (hu : X[0] = (u : Int) + 1) (hu2 : u + 1 ≤ 200) : L u = L 0 := by
  subst h
  have hj' : 0 < (wdL L 200).length := by simpa using hj
  rw [List.getElem_map] at hu
  have hu' : (wdL L 200)[0] = u + 1 := by omega
  refine wdL_same (m := 200) (by omega) (fun w hw => ?_)
  obtain ⟨i, hi, rfl⟩ := List.getElem_of_mem hw
  by_cases h0 : i = 0
  · subst h0; omega
  · have := List.pairwise_iff_getElem.1 (wdL_sorted L 200) 0 i hj' hi (by omega)
    omega

end Go.Proofs.Ytgkbagcgbfgllaa.DocR

