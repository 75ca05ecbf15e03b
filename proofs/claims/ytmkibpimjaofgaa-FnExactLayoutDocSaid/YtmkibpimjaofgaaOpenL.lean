import Derived.Test.YtmkibpimjaofgaaPl
import Derived.Test.YtmkibpimjaofgaaChecked
import Derived.ProofKit
import Derived.Lib.SmallJoins
import Derived.Deep.Slices
/-
  A layout that comes in as an argument, opened: its lines, as they lie in memory.
-/
set_option linter.unusedVariables false
set_option linter.unusedSimpArgs false
namespace Go.Proofs.Ytmkibpimjaofgaa.OpenL
open Go.RowKit Go.ChangeShapes Go.WideShapes Go.ChangeAt

variable {H : Type} {enc : TypeId × Value → H} {w : World} {base : Nat} {spare : Nat → Bool} {held : Bool}

theorem cells2 : Try.prog.cellsOf 78 = 2 := by kernel_rfl

theorem spot_none {a : Addr} {v : Value} (h : w.cell? a = some v) : a.spot = none := by
  unfold World.cell? at h
  split at h
  · split at h
    · cases h
    · rename_i hs; simpa using hs
  · cases h

set_option maxRecDepth 100000 in
theorem open_row2 {fuel : Nat} {cs : List Value} {x : DataW H × List MemPlace} (h : DataW.trod enc Try.prog w base spare held fuel 78 cs = some x) : ∃ (n : Int) (t : ByteArray), cs = [.int .i64 n, .string t] ∧ t.size ≤ maxLen := by
  obtain ⟨xs, n, hn, _, hlen, hxs, hf⟩ := DataW.trod_struct Try.underlying78 h
  rw [cells2] at hlen
  match cs, hlen with
  | [c0, c1], _ =>
  match xs, hxs with
  | [x0, x1], _ =>
  have e3 : Try.prog.cellsOf 3 = 1 := by kernel_rfl
  have e9 : Try.prog.cellsOf 9 = 1 := by kernel_rfl
  have h0 : DataW.trod enc Try.prog w base spare held n 3 (([c0, c1].drop 0).take (Try.prog.cellsOf 3)) = some x0 := hf 0 _ rfl
  rw [e3] at h0
  have h0 : DataW.trod enc Try.prog w base spare held n 3 [c0] = some x0 := h0
  have h1 : DataW.trod enc Try.prog w base spare held n 9 (([c0, c1].drop 1).take (Try.prog.cellsOf 9)) = some x1 := hf 1 _ rfl
  rw [e9] at h1
  have h1 : DataW.trod enc Try.prog w base spare held n 9 [c1] = some x1 := h1
  obtain ⟨o, q0, _, _⟩ := DataW.trod_int Try.underlying3 h0
  obtain ⟨t, q1, _, ht⟩ := DataW.trod_string Try.underlying9 h1
  simp only [List.cons.injEq, and_true] at q0 q1
  subst q0 q1
  exact ⟨o, t, rfl, ht⟩

theorem rows_of {b off len : Nat} (h : ∀ i, i < len → ∃ (n : Int) (t : ByteArray), w.cell? ⟨b, off + i * 2, none⟩ = some (.int .i64 n) ∧ w.cell? ⟨b, off + i * 2 + 1, none⟩ = some (.string t) ∧ t.size ≤ maxLen) :
    ∀ m, m ≤ len → ∃ l : List (Int × ByteArray), l.length = m ∧ L.Fits l ∧ LayAt w l b off := by
  intro m
  induction m with
  | zero => intro _; exact ⟨[], rfl, fun r hr => by simp at hr, LayAt.nil _ _ _⟩
  | succ m ih =>
    intro hm
    obtain ⟨l, h1, h2, h3⟩ := ih (by omega)
    obtain ⟨n, t, c0, c1, ht⟩ := h m (by omega)
    refine ⟨l ++ [(n, t)], by simp [h1], fun r hr => ?_, h3.app fun i hi => ?_⟩
    · rcases List.mem_append.1 hr with hr | hr
      · exact h2 r hr
      · simp only [List.mem_singleton] at hr; subst hr; exact ht
    · obtain rfl : i = 0 := by simpa using hi
      rw [h1]
      exact ⟨by simpa using c0, by simpa using c1⟩

set_option maxRecDepth 100000 in
/-- A layout that came in. -/
theorem open_rows {r : Reach} {b0 : Nat} {v : Value} {d : DataW H} {p : List MemPlace} (hv : Value.okWide Try.prog w r b0 43 v) (h : DataW.Trod enc Try.prog w base spare held 43 v d p) :
    ∃ (l : List (Int × ByteArray)) (a : Option Addr) (cap : Nat) (fs : List Nat), v = .slice a l.length cap ∧ L.Fits l ∧ l.length ≤ maxLen ∧ l.length ≤ cap ∧ LaySub w a l fs := by
  obtain ⟨a0, len0, cap0, rfl⟩ := okWide_slice Try.underlying43 hv
  obtain ⟨fuel, hf⟩ := h
  have hf : DataW.trod enc Try.prog w base spare held fuel 43 [.slice a0 len0 cap0] = some (d, p) := hf
  rcases DataW.trod_slice Try.underlying43 hf with ⟨q3, _⟩ | ⟨a, len, cap, elems, rest, n', hn', q3, _, _, hlc, hcm, hel, hall, _, _⟩
  · simp only [List.cons.injEq, and_true, Value.slice.injEq] at q3
    obtain ⟨rfl, rfl, rfl⟩ := q3
    exact ⟨[], none, 0, [], rfl, fun r hr => by simp at hr, by simp, by simp, .inl ⟨rfl, rfl⟩⟩
  · simp only [List.cons.injEq, and_true, Value.slice.injEq] at q3
    obtain ⟨rfl, rfl, rfl⟩ := q3
    have one : ∀ i, i < len0 → ∃ (n : Int) (t : ByteArray), w.cell? ((a.add (i * 2)).add 0) = some (.int .i64 n) ∧ w.cell? ((a.add (i * 2)).add 1) = some (.string t) ∧ t.size ≤ maxLen := by
      intro i hi
      have hb := hall i hi
      rw [cells2, List.getElem?_eq_getElem (by omega)] at hb
      obtain ⟨cs, g1, g2⟩ := Option.bind_eq_some_iff.1 hb
      obtain ⟨_, g3, g4⟩ := World.cells?_some g1
      obtain ⟨n, t, rfl, ht⟩ := open_row2 g2
      exact ⟨n, t, g4 0 (by omega), g4 1 (by omega), ht⟩
    cases len0 with
    | zero => exact ⟨[], some a, cap0, [], rfl, fun r hr => by simp at hr, by simp, by simp, .inl ⟨rfl, rfl⟩⟩
    | succ len =>
      have hsp : a.spot = none := by
        obtain ⟨n, t, g1, _⟩ := one 0 (by omega)
        exact spot_none (w := w) (by simpa [Addr.add] using g1)
      obtain ⟨b, off, sp⟩ := a
      simp only at hsp
      subst hsp
      obtain ⟨l, g1, g2, g3⟩ := rows_of (w := w) (b := b) (off := off) (len := len + 1) (fun i hi => by
        obtain ⟨n, t, q1, q2, q3⟩ := one i hi
        rw [Addr.add_mid, Addr.add_mid] at q1 q2
        exact ⟨n, t, q1, q2, q3⟩) (len + 1) (Nat.le_refl _)
      exact ⟨l, some ⟨b, off, none⟩, cap0, [b], by rw [g1], g2, by omega, by omega, .inr ⟨b, off, rfl, fun e => by rw [e] at g1; simp at g1, rfl, g3⟩⟩

set_option maxRecDepth 100000 in
/-- An int that came in. -/
theorem open_int {r : Reach} {b0 : Nat} {v : Value} {d : DataW H} {p : List MemPlace} (hv : Value.okWide Try.prog w r b0 3 v) (h : DataW.Trod enc Try.prog w base spare held 3 v d p) :
    ∃ x : Int, v = .int .i64 x ∧ (-9223372036854775808 ≤ x ∧ x ≤ 9223372036854775807) := by
  obtain ⟨x, rfl⟩ := okWide_int Try.underlying3 hv
  obtain ⟨fuel, hf⟩ := h
  have hf : DataW.trod enc Try.prog w base spare held fuel 3 [.int .i64 x] = some (d, p) := hf
  obtain ⟨n, q0, _, hw⟩ := DataW.trod_int Try.underlying3 hf
  simp only [List.cons.injEq, and_true, Value.int.injEq, true_and] at q0
  subst q0
  have h1 : IntKind.i64.min = -9223372036854775808 := rfl
  have h3 : IntKind.i64.max = 9223372036854775807 := rfl
  simp only [Lit.wf, Bool.and_eq_true, decide_eq_true_eq] at hw
  exact ⟨x, rfl, by omega⟩

end Go.Proofs.Ytmkibpimjaofgaa.OpenL

