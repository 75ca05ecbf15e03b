import Derived.Test.YtclifbjnooilmaaGreatPl
import Derived.Test.YtclifbjnooilmaaGreatChecked
import Derived.ProofKit
import Derived.Lib.SmallJoins
import Derived.Deep.Slices
/-
 A document that comes in as an argument, opened: its fields, and its Kids as a list that lies in memory.
-/
set_option linter.unusedVariables false
set_option linter.unusedSimpArgs false
set_option maxRecDepth 100000
namespace Go.Proofs.YtclifbjnooilmaaGreat.Open
open Go.RowKit Go.ChangeShapes Go.WideShapes Go.ChangeAt
variable {H : Type} {enc : TypeId × Value → H} {w : World} {base : Nat} {spare : Nat → Bool} {held : Bool}
theorem cells44 : Tryz.prog.cellsOf 52 = 4 := by kernel_rfl
theorem spot_none {a : Addr} {v : Value} (h : w.cell? a = some v) : a.spot = none := by
 unfold World.cell? at h
 split at h
 ·split at h
  ·cases h
  ·rename_i hs; simpa using hs
 ·cases h
def Doc4 (w : World) (cs : List Value) : Prop := ∃ (o n : Int) (t : ByteArray) (k : F) (a : Option Addr) (cap : Nat) (fs : List Nat), cs = [.int .i64 o, .int .i64 n, .string t, .slice a k.len cap] ∧ t.size ≤ maxLen ∧ k.len ≤ maxLen ∧ k.Fits ∧ k.len ≤ cap ∧ SubAt w a k fs ∧ ∀ c ∈ fs, c < w.heap.size
theorem row_of {b off len : Nat} (h : ∀ i, i < len → ∃ cs, (∀ j, j < 4 → w.cell? ⟨b, off + i * 4 + j, none⟩ = cs[j]?) ∧ Doc4 w cs) :
  ∀ m i, i + m = len → ∃ (f : F) (fs : List Nat), f.len = m ∧ f.Fits ∧ RowAt w f b (off + i * 4) fs ∧ ∀ c ∈ fs, c < w.heap.size := by
 intro m
 induction m with
 | zero => intro i _; exact ⟨.nil, [], rfl, trivial, rfl, fun c hc => by cases hc⟩
 | succ m ih =>
   intro i hi
   obtain ⟨r, gs, hr1, hr2, hr3, hr4⟩ := ih (i + 1) (by omega)
   obtain ⟨cs, hc, o, n, t, k, a, cap, fs, rfl, h1, h2, h3, h4, h5, h6⟩ := h i (by omega)
   refine ⟨.cons o n t k r, fs ++ gs, by simp [F.len, hr1], ⟨h1, h2, h3, hr2⟩, RowAt.cons_iff.2 ⟨a, cap, fs, gs, hc 0 (by omega), hc 1 (by omega), hc 2 (by omega), hc 3 (by omega), h4, h5, ?_, rfl⟩, fun c hc => ?_⟩
   ·rw [show off + i * 4 + 4 = off + (i + 1) * 4 by omega]; exact hr3
   ·rcases List.mem_append.1 hc with hc | hc
    ·exact h6 c hc
    ·exact hr4 c hc
theorem open_doc4 : ∀ (fuel : Nat) (cs : List Value) (x : DataW H × List MemPlace), DataW.trod enc Tryz.prog w base spare held fuel 52 cs = some x → Doc4 w cs := by
 intro fuel
 induction fuel with
 | zero => intro cs x h; simp [DataW.trod] at h
 | succ fuel ih =>
   intro cs x h
   obtain ⟨xs, n, hn, _, hlen, hxs, hf⟩ := DataW.trod_struct Tryz.underlying52 h
   obtain rfl : n = fuel := by omega
   rw [cells44] at hlen
   match cs, hlen with
   | [c0, c1, c2, c3], _ =>
   match xs, hxs with
   | [x0, x1, x2, x3], _ =>
   have e3 : Tryz.prog.cellsOf 3 = 1 := by kernel_rfl
   have e9 : Tryz.prog.cellsOf 9 = 1 := by kernel_rfl
   have e42 : Tryz.prog.cellsOf 50 = 1 := by kernel_rfl
   have h0 : DataW.trod enc Tryz.prog w base spare held n 3 (([c0, c1, c2, c3].drop 0).take (Tryz.prog.cellsOf 3)) = some x0 := hf 0 _ rfl
   rw [e3] at h0
   have h0 : DataW.trod enc Tryz.prog w base spare held n 3 [c0] = some x0 := h0
   have h1 : DataW.trod enc Tryz.prog w base spare held n 3 (([c0, c1, c2, c3].drop 1).take (Tryz.prog.cellsOf 3)) = some x1 := hf 1 _ rfl
   rw [e3] at h1
   have h1 : DataW.trod enc Tryz.prog w base spare held n 3 [c1] = some x1 := h1
   have h2 : DataW.trod enc Tryz.prog w base spare held n 9 (([c0, c1, c2, c3].drop 2).take (Tryz.prog.cellsOf 9)) = some x2 := hf 2 _ rfl
   rw [e9] at h2
   have h2 : DataW.trod enc Tryz.prog w base spare held n 9 [c2] = some x2 := h2
   have h3 : DataW.trod enc Tryz.prog w base spare held n 50 (([c0, c1, c2, c3].drop 3).take (Tryz.prog.cellsOf 50)) = some x3 := hf 3 _ rfl
   rw [e42] at h3
   have h3 : DataW.trod enc Tryz.prog w base spare held n 50 [c3] = some x3 := h3
   obtain ⟨o, q0, _, _⟩ := DataW.trod_int Tryz.underlying3 h0
   obtain ⟨nn, q1, _, _⟩ := DataW.trod_int Tryz.underlying3 h1
   obtain ⟨t, q2, _, ht⟩ := DataW.trod_string Tryz.underlying9 h2
   simp only [List.cons.injEq, and_true] at q0 q1 q2
   subst q0 q1 q2
   rcases DataW.trod_slice Tryz.underlying50 h3 with ⟨q3, _⟩ | ⟨a, len, cap, elems, rest, n', hn', q3, _, _, hlc, hcm, hel, hall, _, _⟩
   ·obtain rfl := (List.cons.inj q3).1
    exact ⟨o, nn, t, .nil, none, 0, [], rfl, ht, by simp [F.len], trivial, by simp [F.len], .inl ⟨rfl, rfl⟩, fun c hc => by cases hc⟩
   ·obtain rfl := (List.cons.inj q3).1
    obtain ⟨m', hm'⟩ : ∃ m', n = m' + 1 := ⟨n', by omega⟩
    have one : ∀ i, i < len → ∃ cs, (∀ j, j < 4 → w.cell? ((a.add (i * 4)).add j) = cs[j]?) ∧ cs.length = 4 ∧ Doc4 w cs := by
     intro i hi
     have hb := hall i hi
     rw [cells44, List.getElem?_eq_getElem (by omega)] at hb
     obtain ⟨cs, g1, g2⟩ := Option.bind_eq_some_iff.1 hb
     obtain ⟨_, g3, g4⟩ := World.cells?_some g1
     refine ⟨cs, g4, g3, ?_⟩
     have : DataW.trod enc Tryz.prog w base spare held n 52 cs = some elems[i] := DataW.trod_le (by omega) g2
     exact ih cs _ this
    cases len with
    | zero => exact ⟨o, nn, t, .nil, some a, cap, [], rfl, ht, by simp [F.len], trivial, by simp [F.len], .inl ⟨rfl, rfl⟩, fun c hc => by cases hc⟩
    | succ len =>
      have hsp : a.spot = none := by
       obtain ⟨cs, g1, g2, _⟩ := one 0 (by omega)
       have := g1 0 (by omega)
       rw [List.getElem?_eq_getElem (by omega)] at this
       exact spot_none (w := w) (by simpa [Addr.add] using this)
      obtain ⟨b, off, sp⟩ := a
      simp only at hsp
      subst hsp
      have hb : b < w.heap.size := by
       obtain ⟨cs, g1, g2, _⟩ := one 0 (by omega)
       have := g1 0 (by omega)
       rw [List.getElem?_eq_getElem (by omega)] at this
       exact World.block_lt_of_cell? w ⟨b, off, none⟩ (by simpa [Addr.add] using this)
      obtain ⟨f, fs, g1, g2, g3, g4⟩ := row_of (w := w) (b := b) (off := off) (len := len + 1) (fun i hi => by
       obtain ⟨cs, q1, _, q3⟩ := one i hi
       refine ⟨cs, fun j hj => ?_, q3⟩
       have := q1 j hj
       rwa [Addr.add_mid, Addr.add_mid] at this) (len + 1) 0 (by omega)
      refine ⟨o, nn, t, f, some ⟨b, off, none⟩, cap, b :: fs, by rw [g1], ht, by omega, g2, by omega, .inr ⟨b, off, fs, rfl, fun e => by rw [e] at g1; simp [F.len] at g1, rfl, by simpa using g3⟩, fun c hc => ?_⟩
      rcases List.mem_cons.1 hc with rfl | hc
      ·exact hb
      ·exact g4 c hc
theorem open_doc {r : Reach} {b0 : Nat} {v : Value} {d : DataW H} {p : List MemPlace} (hv : Value.okWide Tryz.prog w r b0 52 v) (h : DataW.Trod enc Tryz.prog w base spare held 52 v d p) :
  ∃ (o n : Int) (t : ByteArray) (k : F) (a : Option Addr) (cap : Nat) (fs : List Nat), v = .agg #[.int .i64 o, .int .i64 n, .string t, .slice a k.len cap] ∧ t.size ≤ maxLen ∧ k.len ≤ maxLen ∧ k.Fits ∧ k.len ≤ cap ∧ SubAt w a k fs ∧ ∀ c ∈ fs, c < w.heap.size := by
 obtain ⟨cs, rfl, hsz⟩ := okWide_struct Tryz.underlying52 hv
 obtain ⟨fuel, hf⟩ := h
 obtain ⟨o, n, t, k, a, cap, fs, he, h1⟩ := open_doc4 fuel _ _ hf
 refine ⟨o, n, t, k, a, cap, fs, ?_, h1⟩
 have : cs.toList = [.int .i64 o, .int .i64 n, .string t, .slice a k.len cap] := by simpa [Value.cells] using he
 rw [← Array.toArray_toList (xs := cs), this]
end Go.Proofs.YtclifbjnooilmaaGreat.Open
