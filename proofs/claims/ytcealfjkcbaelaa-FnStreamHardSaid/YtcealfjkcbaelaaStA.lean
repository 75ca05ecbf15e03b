import Derived.Test.YtcealfjkcbaelaaFl
import Derived.Test.YtcealfjkcbaelaaRnD
import Derived.Lib.FrozenHead2
import Derived.Test.YtcealfjkcbaelaaRnM
import Derived.Test.YtcealfjkcbaelaaPl
import Derived.Test.YtcealfjkcbaelaaLyB
import Derived.Deep.AppendLies
import Derived.Shelf.RegionOpen
import Derived.Deep.RegionHeld3
/-
  What the methods of strings.Builder do at a builder that is a field of a streamer, by the bytes that it holds.
-/
set_option linter.unusedVariables false
set_option linter.unusedSimpArgs false
namespace Go.Proofs.Ytcealfjkcbaelaa.BufS
open Go.RowKit Go.Shelf P1

/-- the other fields of a renderer: width, rest, rows, indent, flags -/
structure Fs where
  a : Value
  r : Value
  l : Value
  i : Value
  g : Value
/-- a renderer's cells -/
def cs (F : Fs) (p v : Value) : Array Value := #[F.a, F.l, F.i, p, v, F.r]
abbrev self (b : Nat) : Value := .pointer (some ⟨b, 3, none⟩)
/-- the renderer lies at block b; its builder's buffer holds these cells -/
def At (B b : Nat) (F : Fs) (p : Value) (bs : List Value) (w : World) : Prop := B ≤ b ∧ ∃ v, w.heap[b]? = some (.cells (cs F p v) 86 (0, 0)) ∧ w.ownsRowF B 5 1 v bs.length bs ∧ v.ownBlock ≠ some b ∧ (bs = [] → v = .slice none 0 0)
/-- the renderer's builder holds these bytes; what it writes lies behind block B -/
def Holds (B b : Nat) (F : Fs) (l : List UInt8) (w : World) : Prop := At B b F (.pointer none) (Lib.byteCells l) w ∨ At B b F (self b) (Lib.byteCells l) w
def Wrote (B b : Nat) (F : Fs) (l : List UInt8) (w w' : World) : Prop := Holds B b F l w' ∧ Below B w w' ∧ Lib.OthersKept 5 (some b) w w'

theorem At.lt {B b : Nat} {F : Fs} {p : Value} {bs : List Value} {w : World} (h : At B b F p bs w) : b < w.heap.size := by
  obtain ⟨_, v, hb, _⟩ := h
  exact (Array.getElem?_eq_some_iff.1 hb).1
theorem Holds.lt {B b : Nat} {F : Fs} {l : List UInt8} {w : World} (h : Holds B b F l w) : b < w.heap.size := h.elim At.lt At.lt
theorem At.cell {B b : Nat} {F : Fs} {p : Value} {bs : List Value} {w : World} (h : At B b F p bs w) : ∃ v, w.cell? ⟨b, 0, none⟩ = some F.a ∧ w.cell? ⟨b, 5, none⟩ = some F.r ∧ w.cell? ⟨b, 1, none⟩ = some F.l ∧ w.cell? ⟨b, 2, none⟩ = some F.i ∧ w.cell? ⟨b, 3, none⟩ = some p ∧ w.cell? ⟨b, 4, none⟩ = some v ∧ True := by
  obtain ⟨_, v, hb, _⟩ := h
  refine ⟨v, ?_, ?_, ?_, ?_, ?_, ?_, trivial⟩ <;> (simp only [World.cell?, hb, cs]; rfl)
theorem heap_frozen {w : World} {b : Nat} {c : Array Value} {T : TypeId} (hb : w.heap[b]? = some (.cells c T (0, 0))) (o : Nat) : w.frozen? ⟨b, o, none⟩ = false := Lib.frozen_of_heap hb o
theorem heap_set {w : World} {b : Nat} {c : Array Value} {T : TypeId} {z : Nat × Nat} (hb : w.heap[b]? = some (.cells c T z)) (o : Nat) (u : Value) : (w.setCell ⟨b, o, none⟩ u).heap[b]? = some (.cells (c.setIfInBounds o u) T z) := by
  simp [World.setCell, Array.getElem?_modify, hb]
theorem owns_set {w : World} {B b : Nat} {e : TypeId} {v : Value} {n : Nat} {xs : List Value} (h : w.ownsRowF B e 1 v n xs) (hne : v.ownBlock ≠ some b) (o : Nat) (u : Value) : (w.setCell ⟨b, o, none⟩ u).ownsRowF B e 1 v n xs :=
  h.kept (row := some b) ⟨rfl, rfl, rfl, by simp [World.setCell], fun k _ hk => Below.heap_setCell _ _ _ _ (fun e => hk (by simp [e]))⟩ (Or.inr hne)
/-- another field is stored to -/
theorem At.put {B b : Nat} {F : Fs} {p : Value} {bs : List Value} {w : World} (h : At B b F p bs w) (o : Nat) (u : Value) (F' : Fs) (p' : Value) (hc : ∀ v, (cs F p v).setIfInBounds o u = cs F' p' v) : At B b F' p' bs (w.setCell ⟨b, o, none⟩ u) := by
  obtain ⟨hB, v, hb, hown, hne, hnn⟩ := h
  exact ⟨hB, v, by rw [heap_set hb, hc], owns_set hown hne o u, hne, hnn⟩
theorem Holds.put {B b : Nat} {F : Fs} {l : List UInt8} {w : World} (h : Holds B b F l w) (o : Nat) (u : Value) (F' : Fs) (hc : ∀ p v, (cs F p v).setIfInBounds o u = cs F' p v) : Holds B b F' l (w.setCell ⟨b, o, none⟩ u) :=
  h.elim (fun x => .inl (x.put o u F' _ (hc _))) (fun x => .inr (x.put o u F' _ (hc _)))
theorem own_ne {w : World} {B : Nat} {e T : TypeId} {v : Value} {n : Nat} {xs : List Value} {b : Nat} {c : Array Value} {fr : Nat × Nat} (hown : w.ownsRowF B e 1 v n xs) (hb : w.heap[b]? = some (.cells c T fr)) (hTe : T ≠ e) : v.ownBlock ≠ some b := Lib.ownBlock_neF hown hb hTe
theorem ne_byte : 86 ≠ 5 := by decide
theorem At.drew {B b : Nat} {F : Fs} {p : Value} {bs : List Value} {w : World} (h : At B b F p bs w) : At B b F p bs w.drew := h
theorem At.grown {B b : Nat} {F : Fs} {p : Value} {bs : List Value} {w w' : World} (h : At B b F p bs w) {row : Option Nat} (hg : w.grownBy w' row) (hr : row ≠ some b) (hk : ∀ g, row = some g → ∃ c T fz, w.heap[g]? = some (.cells c T fz) ∧ T ≠ 5) : At B b F p bs w' := by
  have hlt := h.lt
  obtain ⟨hB, v, hb, hown, hne, hnn⟩ := h
  refine ⟨hB, v, (hg.block b hlt (fun e => hr e.symm)).trans hb, hown.kept hg ?_, hne, hnn⟩
  cases hv : v.ownBlock with
  | none => exact .inl rfl
  | some g =>
    refine .inr fun e => ?_
    obtain ⟨c, T, fz, hc, hT⟩ := hk g e.symm
    exact own_ne hown hc hT hv
theorem Holds.grown {B b : Nat} {F : Fs} {l : List UInt8} {w w' : World} (h : Holds B b F l w) {row : Option Nat} (hg : w.grownBy w' row) (hr : row ≠ some b) (hk : ∀ g, row = some g → ∃ c T fz, w.heap[g]? = some (.cells c T fz) ∧ T ≠ 5) : Holds B b F l w' :=
  h.elim (fun x => .inl (x.grown hg hr hk)) (fun x => .inr (x.grown hg hr hk))
theorem grown_below {w w' : World} (k : Below w.heap.size w w') : w.grownBy w' none := ⟨k.os, k.tape, k.output, k.size, fun i hi _ => k.block i hi⟩
theorem Holds.below {B b : Nat} {F : Fs} {l : List UInt8} {w w' : World} (h : Holds B b F l w) (k : Below w.heap.size w w') : Holds B b F l w' := h.grown (grown_below k) (by simp) (by simp)
theorem Holds.alloc {B b : Nat} {F : Fs} {l : List UInt8} {w : World} (h : Holds B b F l w) (o : Obj) : Holds B b F l (w.alloc o) := h.below ((Below.refl _ _).alloc (Nat.le_refl _) o)
theorem Wrote.refl {B b : Nat} {F : Fs} {l : List UInt8} {w : World} (h : Holds B b F l w) : Wrote B b F l w w := ⟨h, Below.refl _ _, Lib.OthersKept.refl _ _ _⟩
theorem Wrote.trans {B b : Nat} {F F' : Fs} {l l' : List UInt8} {w w1 w2 : World} (h : Wrote B b F l w w1) (k : Wrote B b F' l' w1 w2) : Wrote B b F' l' w w2 := ⟨k.1, h.2.1.trans k.2.1, h.2.2.trans k.2.2⟩
theorem Wrote.below {B b : Nat} {F : Fs} {l : List UInt8} {w w1 w2 : World} (h : Wrote B b F l w w1) (hB : B ≤ w.heap.size) (k : Below w1.heap.size w1 w2) : Wrote B b F l w w2 :=
  ⟨h.1.below k, h.2.1.trans (k.mono (Nat.le_trans hB h.2.1.size)), fun i o hi hb ho => by
    have h1 := h.2.2 i o hi hb ho
    exact (k.block i (Array.getElem?_eq_some_iff.1 h1).1).trans h1⟩
theorem Wrote.alloc {B b : Nat} {F : Fs} {l : List UInt8} {w : World} (h : Holds B b F l w) (hB : B ≤ w.heap.size) (o : Obj) : Wrote B b F l w (w.alloc o) :=
  (Wrote.refl h).below hB ((Below.refl _ _).alloc (Nat.le_refl _) _)
theorem Wrote.cell {B b : Nat} {F : Fs} {l : List UInt8} {w w' : World} (h : Wrote B b F l w w') {k o : Nat} {c : Array Value} {T : TypeId} {fz : Nat × Nat} (hk : w.heap[k]? = some (.cells c T fz)) (hT : T ≠ 5) (hb : k ≠ b) : w'.cell? ⟨k, o, none⟩ = w.cell? ⟨k, o, none⟩ :=
  World.cell?_of_block (w := w) ((h.2.2 k _ hk (by simpa using hb) (fun c' fz' e => hT (by cases e; rfl))).trans hk.symm)

theorem infoB : (Try.prog.info? 82).map (·.size) = some 2 := by kernel_rfl
theorem liesB : liesAt Try.prog Try.prog.depth 86 (6 / Try.prog.cellsOf 86) 3 82 1 = true := by kernel_rfl
theorem infoU : (Try.prog.info? 5).map (fun i => (i.zero, i.size, i.bytes)) = some (some (.int .u8 0), 1, 1) := by kernel_rfl
theorem cellsU : Try.prog.cellsOf 5 = 1 := by kernel_rfl

set_option maxHeartbeats 1000000 in
set_option maxRecDepth 100000 in
theorem copyCheck_used (b : Nat) (w : World) (h0 : w.cell? ⟨b, 3, none⟩ = some (self b)) :
    Calls Try.prog 140 #[self b] w fun e w' => e = .returned (.tuple #[]) ∧ w' = w := by
  obtain ⟨j, hj, _⟩ := Option.map_eq_some_iff.1 infoB
  go_enter Try.func140, Try.ntmps140
  go_wp2
  rw [Lib.run_neq_ptr_same w _ Try.underlying80 hj]
  go_wp2
  go_end0
  exact ⟨rfl, rfl⟩

set_option maxHeartbeats 1000000 in
set_option maxRecDepth 100000 in
theorem copyCheck_fresh (b : Nat) (w : World) (c : Array Value) (hc : c.size = 6) (hb : w.heap[b]? = some (.cells c 86 (0, 0))) (h0 : w.cell? ⟨b, 3, none⟩ = some (.pointer none)) :
    Calls Try.prog 140 #[self b] w fun e w' => e = .returned (.tuple #[]) ∧ w' = w.setCell ⟨b, 3, none⟩ (self b) := by
  obtain ⟨j, hj, hjs⟩ := Option.map_eq_some_iff.1 infoB
  have hsh : w.shape? b = some (86, 6) := by simp [World.shape?, hb, hc]
  have hfz : w.frozen? ⟨b, 3, none⟩ = false := heap_frozen hb 3
  go_enter Try.func140, Try.ntmps140
  go_wp2
  rw [Lib.run_to_unsafe w ⟨b, 3, none⟩ Try.underlying80 Try.underlying196 hj (by rw [hjs]; decide) hsh (by show 3 < 6; omega)]
  simp only [Result.andThen]
  rw [Oper.upon_value]
  go_wp2
  rw [run_callFunc_extern Try.func154 (by kernel_rfl) (by kernel_rfl) (by kernel_rfl) (e := Extern.AbiNoEscape.same) (by kernel_rfl)]
  rw [Lib.run_noEscape]
  simp only [Result.andThen]
  rw [Oper.upon_value]
  go_wp2
  rw [Lib.run_from_unsafe w ⟨b, 3, none⟩ Try.underlying196 Try.underlying80 hj hsh liesB]
  simp only [Result.andThen]
  rw [Oper.upon_value]
  go_wp2
  go_end0
  exact ⟨rfl, rfl⟩

theorem copyCheck (B b : Nat) (F : Fs) (bs : List Value) (w : World) (h : At B b F (.pointer none) bs w ∨ At B b F (self b) bs w) :
    Calls Try.prog 140 #[self b] w fun e w' => e = .returned (.tuple #[]) ∧ (At B b F (self b) bs w' ∧ Below B w w' ∧ Lib.OthersKept 5 (some b) w w') := by
  rcases h with h | h
  · have h2 := h
    obtain ⟨hB, v, hb, hown, hne, hnn⟩ := h2
    obtain ⟨v', _, _, _, _, c4, _⟩ := h.cell
    refine (copyCheck_fresh b w _ rfl hb c4).mono ?_
    rintro e w' ⟨rfl, rfl⟩
    exact ⟨rfl, h.put 3 _ F _ (fun v => rfl), (Below.refl B w).setCell (p := ⟨b, 3, none⟩) hB _, (Lib.OthersKept.refl _ _ w).setCell ⟨b, 3, none⟩ rfl _⟩
  · obtain ⟨v', _, _, _, _, c4, _⟩ := h.cell
    refine (copyCheck_used b w c4).mono ?_
    rintro e w' ⟨rfl, rfl⟩
    exact ⟨rfl, h, Below.refl B _, Lib.OthersKept.refl _ _ _⟩

set_option maxHeartbeats 2000000 in
set_option maxRecDepth 100000 in
theorem writeString (B b : Nat) (F : Fs) (l : List UInt8) (s : ByteArray) (w : World) (h : Holds B b F l w) (hl : l.length ≤ 100000000) (hs : s.size ≤ 100000000) (hB : B ≤ w.heap.size) :
    Calls Try.prog 112 #[self b, .string s] w fun e w' => e = .returned (.tuple #[.int .i64 s.size, .nilIface]) ∧ Wrote B b F (l ++ s.data.toList) w w' := by
  obtain ⟨i0, hi, hz0, hz1, hz2⟩ := info_parts infoU
  have HC := Lib.hid (copyCheck B b F (Lib.byteCells l) w h)
  have hl2 : (Lib.byteCells l).length = l.length := Lib.byteCells_length l
  clear h
  go_enter Try.func112, Try.ntmps112
  go_wp2_with fail
  refine HC.out.mono ?_
  rintro e w1 ⟨rfl, hh1⟩
  obtain ⟨h1, hb1, hk1⟩ := hh1
  obtain ⟨v, d0, d1, d2, d3, c0, c1, d6⟩ := h1.cell
  have hlt := h1.lt
  obtain ⟨hBb, v', hbk, hown, hne, hnn⟩ := h1
  obtain rfl : v' = v := by
    have : w1.cell? ⟨b, 4, none⟩ = some v' := by simp only [World.cell?, hbk, cs]; rfl
    rw [c1] at this; injection this with e; exact e.symm
  clear d0 d1 d2 d3 d6
  go_wp2_with (at_builtin; refine Lib.wpList_append_own_stringF _ rfl _ _ 22 9 rfl B 5 i0 Try.underlying22 Try.underlying9 hi hz0 hz1 hz2 _ _ _ rfl hown s rfl ?c3 ?c4 ?c5 ?_)
  case c3 => unfold maxLen; omega
  case c4 => omega
  case c5 => have := hb1.size; omega
  intro v2 w2 hown' hgrow hnil
  have hb2 : w2.heap[b]? = some (.cells (cs F (self b) v') 86 (0, 0)) := by
    rw [hgrow.block b hlt (fun e => hne e.symm)]
    exact hbk
  have e0 : w2.cell? ⟨b, 3, none⟩ = some (self b) := by simp only [World.cell?, hb2, cs]; rfl
  have e1 : w2.cell? ⟨b, 4, none⟩ = some v' := by simp only [World.cell?, hb2, cs]; rfl
  have f1 : w2.frozen? ⟨b, 4, none⟩ = false := heap_frozen hb2 4
  obtain ⟨ao, n', cap, rfl⟩ : ∃ ao n' cap, v2 = .slice ao n' cap := by
    rcases hown'.2 with ⟨hv, _⟩ | ⟨g, cap, cur, fz, hv, _⟩
    · exact ⟨_, _, _, hv⟩
    · exact ⟨_, _, _, hv⟩
  have HNN := Lib.hid (And.intro hnil hnn)
  clear hnil hnn
  go_wp2
  go_ret2
  have hne2 := own_ne hown' hb2 ne_byte
  have hown3 : w2.ownsRowF B 5 1 (.slice ao n' cap) (Lib.byteCells (l ++ s.data.toList)).length (Lib.byteCells (l ++ s.data.toList)) := by
    have e : Lib.byteCells (l ++ s.data.toList) = Lib.byteCells l ++ Lib.strCells s := by rw [Lib.byteCells_append]; rfl
    rw [e, List.length_append, Lib.strCells_length, Lib.byteCells_length]; exact hown'
  have hn3 : Lib.byteCells (l ++ s.data.toList) = [] → (Value.slice ao n' cap) = .slice none 0 0 := by
    intro e
    have e1 : (l ++ s.data.toList).length = 0 := by rw [← Lib.byteCells_length, e]; rfl
    rw [List.length_append] at e1
    have e2 : s.size = 0 := by have : s.data.toList.length = s.size := Array.length_toList; omega
    have e3 : l = [] := List.length_eq_zero_iff.1 (by omega)
    exact HNN.out.1.2 ⟨HNN.out.2 (by rw [e3]; rfl), by first | exact e2 | exact ByteArray.size_eq_zero_iff.1 e2⟩
  exact ⟨rfl, .inr ⟨hBb, _, by rw [heap_set hb2]; rfl, owns_set hown3 hne2 4 _, hne2, hn3⟩, (hb1.grown hgrow (by have := hb1.size; omega) (fun k hk => (hown.lt k hk).1)).setCell (p := ⟨b, 4, none⟩) hBb _, (hk1.grown hgrow (Lib.ownsRowF_kind hown)).setCell ⟨b, 4, none⟩ rfl _⟩

set_option maxHeartbeats 2000000 in
set_option maxRecDepth 100000 in
theorem writeByte (B b : Nat) (F : Fs) (l : List UInt8) (c : UInt8) (x : Int) (hv : Lib.byteCells [c] = [.int .u8 x]) (w : World) (h : Holds B b F l w) (hl : l.length ≤ 100000000) (hB : B ≤ w.heap.size) :
    Calls Try.prog 142 #[self b, .int .u8 x] w fun e w' => e = .returned .nilIface ∧ Wrote B b F (l ++ [c]) w w' := by
  obtain ⟨i0, hi, hz0, hz1, hz2⟩ := info_parts infoU
  have HC := Lib.hid (copyCheck B b F (Lib.byteCells l) w h)
  have hl2 : (Lib.byteCells l).length = l.length := Lib.byteCells_length l
  clear h
  go_enter Try.func142, Try.ntmps142
  go_wp2_with (go_at_call 140; refine HC.out.mono ?_)
  rintro e w1 ⟨rfl, hh1⟩
  obtain ⟨h1, hb1, hk1⟩ := hh1
  obtain ⟨v, d0, d1, d2, d3, c0, c1, d6⟩ := h1.cell
  have hlt := h1.lt
  obtain ⟨hBb, v', hbk, hown, hne, hnn⟩ := h1
  obtain rfl : v' = v := by
    have : w1.cell? ⟨b, 4, none⟩ = some v' := by simp only [World.cell?, hbk, cs]; rfl
    rw [c1] at this; injection this with e; exact e.symm
  clear d0 d1 d2 d3 d6
  go_wp2_with (at_builtin; refine wpList_append_ownF _ rfl _ _ 22 rfl B 5 i0 (.int .u8 0) 1 1 Try.underlying22 hi hz0 hz1 hz2 rfl (by decide) _ _ _ rfl (hown.alloc _) ⟨w1.heap.size, 0, none⟩ 1 1 [.int .u8 x] rfl rfl ?c1 ?c2 ?c3 ?c4 ?c5 ?_)
  case c1 =>
    intro j u hj
    match j, hj with
    | 0, hj => simp at hj; subst hj; simp [Addr.add]
  case c2 => intro u hu; simp at hu; subst hu; rfl
  case c3 => unfold maxLen; omega
  case c4 => omega
  case c5 => have := hb1.size; simp; omega
  intro v2 w2 hown' hgrow _
  have hb2 : w2.heap[b]? = some (.cells (cs F (self b) v') 86 (0, 0)) := by
    rw [hgrow.block b (by simp; omega) (fun e => hne e.symm), Lib.alloc_old w1 _ b hlt]
    exact hbk
  have e0 : w2.cell? ⟨b, 3, none⟩ = some (self b) := by simp only [World.cell?, hb2, cs]; rfl
  have e1 : w2.cell? ⟨b, 4, none⟩ = some v' := by simp only [World.cell?, hb2, cs]; rfl
  have f1 : w2.frozen? ⟨b, 4, none⟩ = false := heap_frozen hb2 4
  obtain ⟨ao, n', cap, rfl⟩ : ∃ ao n' cap, v2 = .slice ao n' cap := by
    rcases hown'.2 with ⟨hv, _⟩ | ⟨g, cap, cur, fz, hv, _⟩
    · exact ⟨_, _, _, hv⟩
    · exact ⟨_, _, _, hv⟩
  go_wp2
  go_ret
  have hne2 := own_ne hown' hb2 ne_byte
  have hown3 : w2.ownsRowF B 5 1 (.slice ao n' cap) (Lib.byteCells (l ++ [c])).length (Lib.byteCells (l ++ [c])) := by
    have e : Lib.byteCells (l ++ [c]) = Lib.byteCells l ++ [.int .u8 x] := by rw [Lib.byteCells_append, hv]
    rw [e, List.length_append, Lib.byteCells_length]; exact hown'
  exact ⟨rfl, .inr ⟨hBb, _, by rw [heap_set hb2]; rfl, owns_set hown3 hne2 4 _, hne2, fun e => by have e1 := congrArg List.length e; rw [Lib.byteCells_length] at e1; simp at e1⟩, ((hb1.alloc (by have := hb1.size; omega) _).grown hgrow (by have := hb1.size; simp; omega) (fun k hk => (hown.lt k hk).1)).setCell (p := ⟨b, 4, none⟩) hBb _, ((hk1.alloc _).grown hgrow (Lib.ownsRowF_kind (hown.alloc _))).setCell ⟨b, 4, none⟩ rfl _⟩

set_option maxHeartbeats 1000000 in
set_option maxRecDepth 100000 in
/-- Len: the number of bytes -/
theorem len (B b : Nat) (F : Fs) (l : List UInt8) (w : World) (h : Holds B b F l w) :
    Calls Try.prog 141 #[self b] w fun e w' => e = .returned (.int .i64 l.length) ∧ w' = w := by
  obtain ⟨v, c5, n, hv, rfl⟩ : ∃ v, w.cell? ⟨b, 4, none⟩ = some v ∧ ∃ (a : Option Addr) (cap : Nat), v = .slice a l.length cap := by
    have q : ∀ p, At B b F p (Lib.byteCells l) w → ∃ v, w.cell? ⟨b, 4, none⟩ = some v ∧ ∃ (a : Option Addr) (cap : Nat), v = .slice a l.length cap := by
      rintro p ⟨_, v, hb, hown, _⟩
      refine ⟨v, by simp only [World.cell?, hb, cs]; rfl, ?_⟩
      rw [Lib.byteCells_length] at hown
      rcases hown.2 with ⟨hv, h0⟩ | ⟨g, cap, cur, fz, hv, _⟩
      · rw [h0]; exact ⟨_, _, hv⟩
      · exact ⟨_, _, hv⟩
    exact h.elim (q _) (q _)
  clear h
  go_enter Try.func141, Try.ntmps141
  go_wp2
  go_ret
  exact ⟨rfl, rfl⟩

set_option maxHeartbeats 1000000 in
set_option maxRecDepth 100000 in
/-- Reset: no bytes any more; those that there were are left -/
theorem reset (B b : Nat) (F : Fs) (l : List UInt8) (w : World) (h : Holds B b F l w) :
    Calls Try.prog 117 #[self b] w fun e w' => e = .returned (.tuple #[]) ∧ Wrote B b F [] w w' := by
  have q : ∀ p, At B b F p (Lib.byteCells l) w → ∃ v p, B ≤ b ∧ w.heap[b]? = some (.cells (cs F p v) 86 (0, 0)) := by
    rintro p ⟨hB, v, hb, _⟩; exact ⟨v, p, hB, hb⟩
  obtain ⟨v, p, hB, hb⟩ := h.elim (q _) (q _)
  have hlt := (Array.getElem?_eq_some_iff.1 hb).1
  have e0 : w.cell? ⟨b, 3, none⟩ = some p := by simp only [World.cell?, hb, cs]; rfl
  have e1 : w.cell? ⟨b, 4, none⟩ = some v := by simp only [World.cell?, hb, cs]; rfl
  have f0 : w.frozen? ⟨b, 3, none⟩ = false := heap_frozen hb 3
  have f1 : w.frozen? ⟨b, 4, none⟩ = false := heap_frozen hb 4
  have HH := Lib.hid (And.intro hB hb)
  clear h hb hB q
  go_enter Try.func117, Try.ntmps117
  go_wp2
  go_end0
  obtain ⟨hB, hb⟩ := HH.out
  refine ⟨rfl, .inl ⟨hB, .slice none 0 0, by rw [heap_set (heap_set hb 3 _) 4 _]; rfl, World.ownsRowF_nil _ _ _ _, by simp [Value.ownBlock], fun _ => rfl⟩, ((Below.refl B w).setCell (p := ⟨b, 3, none⟩) hB _).setCell (p := ⟨b, 4, none⟩) hB _, ((Lib.OthersKept.refl _ _ w).setCell ⟨b, 3, none⟩ rfl _).setCell ⟨b, 4, none⟩ rfl _⟩

theorem Holds.at {B b : Nat} {F : Fs} {l : List UInt8} {w : World} (h : Holds B b F l w) : ∃ p, (p = .pointer none ∨ p = self b) ∧ At B b F p (Lib.byteCells l) w :=
  h.elim (fun x => ⟨_, .inl rfl, x⟩) (fun x => ⟨_, .inr rfl, x⟩)
theorem At.holds {B b : Nat} {F : Fs} {p : Value} {l : List UInt8} {w : World} (h : At B b F p (Lib.byteCells l) w) (hp : p = .pointer none ∨ p = self b) : Holds B b F l w := by
  rcases hp with rfl | rfl
  · exact .inl h
  · exact .inr h
theorem froze_other (w : World) (g n b : Nat) (h : g ≠ b) : (w.freeze ⟨g, 0, none⟩ n).heap[b]? = w.heap[b]? := by
  unfold World.freeze
  split
  · rfl
  · simp only [Array.getElem?_modify]; rw [if_neg h]
theorem froze_own {w : World} {B g cap n : Nat} {e : TypeId} {xs : List Value} (hown : w.ownsRowF B e 1 (.slice (some ⟨g, 0, none⟩) n cap) n xs) : (w.freeze ⟨g, 0, none⟩ n).ownsRowF B e 1 (.slice (some ⟨g, 0, none⟩) n cap) n xs := by
  obtain ⟨h1, h2⟩ := hown
  refine ⟨h1, ?_⟩
  rcases h2 with h2 | ⟨g2, c2, cur, fz, h2, h3, h4, h5, rest⟩
  · exact absurd h2.1 (by simp)
  · injection h2 with q1 q2 q3
    injection q1 with q1
    injection q1 with q1
    subst q1 q3
    unfold World.freeze
    split
    · exact .inr ⟨g, _, cur, fz, rfl, h3, h4, h5, rest⟩
    · obtain ⟨lo, hi⟩ := fz
      refine .inr ⟨g, _, cur, (if lo == hi then (0, 0 + n) else (min lo 0, max hi (0 + n))), rfl, h3, by simp [Array.getElem?_modify, h4], ?_, rest⟩
      simp only at h5
      split <;> simp <;> omega
set_option maxHeartbeats 2000000 in
set_option maxRecDepth 100000 in
theorem string_nil (B b : Nat) (F : Fs) (w : World) (h : Holds B b F [] w) :
    Calls Try.prog 116 #[self b] w fun e w' => e = .returned (.string ⟨#[]⟩) ∧ Wrote B b F [] w w' := by
  obtain ⟨p, hp, hA⟩ := h.at
  have c1 : w.cell? ⟨b, 4, none⟩ = some (.slice none 0 0) := by
    obtain ⟨_, v, hb, _, _, hnn⟩ := hA
    obtain rfl := hnn rfl
    simp only [World.cell?, hb, cs]; rfl
  have hSD : ∀ W : World, (Builtin.unsafeSliceData_ #[22] 185 #[.slice none 0 0]).run Try.prog W = .ok (.pointer none) W := fun _ => rfl
  have hUS := fun (W : World) => Lib.run_unsafeString_none (P := Try.prog) W 185 3 9 none
  have HH := Lib.hid h
  clear h hA hp
  go_enter Try.func116, Try.ntmps116
  go_wp2
  go_region
  all_goals (go_wp2; go_ret; exact ⟨rfl, HH.out, Below.drew (Below.refl B w), (Lib.OthersKept.refl _ _ w).drew⟩)

set_option maxHeartbeats 2000000 in
set_option maxRecDepth 100000 in
theorem string_some (B b : Nat) (F : Fs) (l : List UInt8) (h0 : l ≠ []) (w : World) (h : Holds B b F l w) :
    Calls Try.prog 116 #[self b] w fun e w' => e = .returned (.string ⟨l.toArray⟩) ∧ Wrote B b F l w w' := by
  obtain ⟨p, hp, hA⟩ := h.at
  obtain ⟨i0, hi, hz0, hz1, hz2⟩ := info_parts infoU
  obtain ⟨hB, v, hbk, hown, hne, hnn⟩ := hA
  have hl0 : l.length ≠ 0 := by simpa using h0
  rw [Lib.byteCells_length] at hown
  obtain ⟨g, cap, cur, fz, rfl, hbg, hg, hfz, hnc, hcm, hcs, htake⟩ : ∃ g cap cur fz, v = .slice (some ⟨g, 0, none⟩) l.length cap ∧ B ≤ g ∧ w.heap[g]? = some (.cells cur 5 fz) ∧ fz.2 ≤ l.length * 1 ∧ l.length ≤ cap ∧ cap ≤ maxLen ∧ cur.size = cap * 1 ∧ cur.toList.take (l.length * 1) = Lib.byteCells l := by
    rcases hown.2 with ⟨_, hz⟩ | ⟨g, cap, cur, fz, hv, r⟩
    · exact absurd hz hl0
    · exact ⟨g, cap, cur, fz, hv, r⟩
  have c1 : w.cell? ⟨b, 4, none⟩ = some (.slice (some ⟨g, 0, none⟩) l.length cap) := by simp only [World.cell?, hbk, cs]; rfl
  have hSD : (Builtin.unsafeSliceData_ #[22] 185 #[.slice (some ⟨g, 0, none⟩) l.length cap]).run Try.prog w.drew = .ok (.pointer (some ⟨g, 0, none⟩)) w.drew :=
    Lib.run_unsafeSliceData_row _ _ _ _ _ _ (by omega)
  have hUS : (Builtin.unsafeString_ #[185, 3] 9 #[.pointer (some ⟨g, 0, none⟩), .int .i64 l.length]).run Try.prog w.drew = .ok (.string ⟨l.toArray⟩) (w.drew.freeze ⟨g, 0, none⟩ l.length) := by
    refine Lib.run_unsafeString_row w.drew 185 3 9 5 Try.underlying185 cellsU g cur.size (by have hg' : w.drew.heap[g]? = some (.cells cur 5 fz) := hg; simp [World.shape?, hg']) l h0 (by omega) (by unfold maxLen at hcm; omega) ?_
    intro j x hx
    exact hown.cells (g := g) rfl j (.int .u8 x.toNat) (by simp [Lib.byteCells, hx])
  have hgb : g ≠ b := fun e => hne (by simp [Value.ownBlock, e])
  have hkeep : Holds B b F l (w.drew.freeze ⟨g, 0, none⟩ l.length) := by
    refine At.holds (p := p) ⟨hB, .slice (some ⟨g, 0, none⟩) l.length cap, ?_, ?_, hne, fun e => absurd (by have := congrArg List.length e; rw [Lib.byteCells_length] at this; exact this) hl0⟩ hp
    · exact (froze_other w.drew g _ b hgb).trans hbk
    · rw [Lib.byteCells_length]; exact froze_own (w := w.drew) hown
  have HH := Lib.hid (And.intro hkeep (And.intro hbg hg))
  clear h hp hkeep hfz hcs htake hown hne hnn hbk hbg hg
  go_enter Try.func116, Try.ntmps116
  go_wp2
  go_region
  all_goals (go_wp2; go_ret; exact ⟨rfl, HH.out.1, Lib.below_freeze (Below.drew (Below.refl B w)) (p := ⟨g, 0, none⟩) HH.out.2.1 _, ((Lib.OthersKept.refl _ _ w).drew).freeze ⟨g, 0, none⟩ _ ⟨cur, fz, HH.out.2.2⟩⟩)

/-- String: the bytes, which are frozen from then on -/
theorem string (B b : Nat) (F : Fs) (l : List UInt8) (w : World) (h : Holds B b F l w) :
    Calls Try.prog 116 #[self b] w fun e w' => e = .returned (.string ⟨l.toArray⟩) ∧ Wrote B b F l w w' := by
  by_cases h0 : l = []
  · subst h0; exact string_nil B b F w h
  · exact string_some B b F l h0 w h

end Go.Proofs.Ytcealfjkcbaelaa.BufS

/-
  A streamer of the program in memory: what is left of the document, the lines, the line that is not complete, the flags.
-/
set_option linter.unusedVariables false
set_option linter.unusedSimpArgs false
namespace Go.Proofs.Ytcealfjkcbaelaa.StM
open Go.RowKit Go.Shelf P1 Cnt CntC Flat Wid ChP Rn Bwd BufS
open LayN (cells2 cells2_len cells2_one)
open LayC (cells2_app)

/-- a sum of nests in a stack -/
def NV (x : Int) (c : List Value) : Prop := c = [.int .i64 x]
theorem info2 : (Try.prog.info? 91).map (fun i => (i.zero.map (fun z => z.cells.size), i.size, i.bytes)) = some (some 2, 2, 24) := by kernel_rfl
theorem info_some {P : Program} {T : TypeId} {n b : Nat} (h : (P.info? T).map (fun i => (i.zero.map (fun z => z.cells.size), i.size, i.bytes)) = some (some n, n, b)) : ∃ i z, P.info? T = some i ∧ i.zero = some z ∧ i.size = n ∧ i.bytes = b ∧ z.cells.size = n := by
  obtain ⟨i, h1, h2⟩ := Option.map_eq_some_iff.1 h
  simp only [Prod.mk.injEq] at h2
  obtain ⟨z, hz, hzs⟩ := Option.map_eq_some_iff.1 h2.1
  exact ⟨i, z, h1, hz, h2.2.1, h2.2.2, hzs⟩

/-! ### rows of the call's own, told apart by what they hold -/
theorem own_block {w : World} {B : Nat} {T : TypeId} {n m : Nat} {v : Value} {xs : List Value} (h : w.ownsRow B T n v m xs) : ∀ g, v.ownBlock = some g → ∃ c, w.heap[g]? = some (.cells c T (0, 0)) := by
  intro g hg
  rcases h.2 with ⟨rfl, _⟩ | ⟨g', cap, cur, rfl, _, hgg, _⟩
  · simp [Value.ownBlock] at hg
  · simp only [Value.ownBlock, Option.some.injEq] at hg; subst hg; exact ⟨_, hgg⟩
theorem own_ne {w : World} {B : Nat} {T : TypeId} {n m : Nat} {v : Value} {xs : List Value} (h : w.ownsRow B T n v m xs) {g : Nat} {c : Array Value} {T' : TypeId} {z : Nat × Nat} (hg : w.heap[g]? = some (.cells c T' z)) (hT : T ≠ T') : v.ownBlock ≠ some g := by
  intro e
  obtain ⟨c', hc⟩ := own_block h g e
  rw [hg] at hc
  injection hc with hc
  injection hc with _ hc
  exact hT hc.symm
theorem own_or {v : Value} {g : Option Nat} (h : ∀ k, g = some k → v.ownBlock ≠ some k) : v.ownBlock = none ∨ v.ownBlock ≠ g := by
  cases hv : v.ownBlock with
  | none => exact .inl rfl
  | some k => exact .inr fun e => h k e.symm hv
/-- a row that holds no bytes stands when the builder is written to -/
theorem own_wrote {w w' : World} {B b : Nat} {F : Fs} {l : List UInt8} {T : TypeId} {n m : Nat} {v : Value} {xs : List Value} (h : w.ownsRow B T n v m xs) (hT : T ≠ 5) (hR : T ≠ 86) (hb : Holds B b F l w) (k : Lib.OthersKept 5 (some b) w w') : w'.ownsRow B T n v m xs := by
  obtain ⟨h1, h2⟩ := h
  refine ⟨h1, ?_⟩
  rcases h2 with h2 | ⟨g, cap, cur, rfl, h3, h4, h5⟩
  · exact .inl h2
  · refine .inr ⟨g, cap, cur, rfl, h3, k g _ h4 ?_ (fun c fz e => hT (by cases e; rfl)), h5⟩
    intro e
    injection e with e
    subst e
    obtain ⟨p, _, _, v, hbk, _⟩ := hb.at
    rw [h4] at hbk
    injection hbk with hbk
    injection hbk with _ hbk
    exact hR hbk
theorem stack_wrote {w w' : World} {B b lo n : Nat} {α : Type} {CV : α → List Value → Prop} {F : Fs} {l : List UInt8} {T : TypeId} {v : Value} {st : List α} (h : StackG CV n w T B v st) (hT : T ≠ 5) (hR : T ≠ 86) (hb : Holds B b F l w) (k : Lib.OthersKept 5 (some b) w w') : StackG CV n w' T B v st := by
  obtain ⟨xs, h1, h2⟩ := h
  exact ⟨xs, own_wrote h1 hT hR hb k, h2⟩

theorem ne1 : 3 ≠ 5 := by decide
theorem ne2 : 91 ≠ 5 := by decide
theorem ne3 : 4 ≠ 5 := by decide
theorem ne4 : 3 ≠ 86 := by decide
theorem ne5 : 91 ≠ 86 := by decide
theorem ne6 : 4 ≠ 86 := by decide
theorem ne7 : 3 ≠ 91 := by decide
theorem ne8 : 3 ≠ 4 := by decide
theorem ne9 : 91 ≠ 4 := by decide

/-- every block of cells stands but b and those of these types -/
def KeptBut (ts : List TypeId) (b : Nat) (w w' : World) : Prop := ∀ k c T z, w.heap[k]? = some (.cells c T z) → k ≠ b → T ∉ ts → w'.heap[k]? = some (.cells c T z)
theorem KeptBut.refl (ts : List TypeId) (b : Nat) (w : World) : KeptBut ts b w w := fun _ _ _ _ h _ _ => h
theorem KeptBut.trans {ts : List TypeId} {b : Nat} {w w1 w2 : World} (h : KeptBut ts b w w1) (k : KeptBut ts b w1 w2) : KeptBut ts b w w2 := fun i c T z h1 h2 h3 => k i c T z (h i c T z h1 h2 h3) h2 h3
theorem KeptBut.mono {ts us : List TypeId} {b : Nat} {w w' : World} (h : KeptBut ts b w w') (hs : ∀ t ∈ ts, t ∈ us) : KeptBut us b w w' := fun k c T z h1 h2 h3 => h k c T z h1 h2 (fun e => h3 (hs T e))
theorem kept_others {ts : List TypeId} {b : Nat} {w w' : World} (h : Lib.OthersKept 5 (some b) w w') (ht : 5 ∈ ts) : KeptBut ts b w w' := fun k c T z h1 h2 h3 => h k _ h1 (by simpa using h2) (fun c' z' e => h3 (by cases e; exact ht))
theorem kept_ext {ts : List TypeId} {b : Nat} {w w' : World} (h : Below w.heap.size w w') : KeptBut ts b w w' := fun k c T z h1 _ _ => (h.block k (Array.getElem?_eq_some_iff.1 h1).1).trans h1
theorem kept_set (ts : List TypeId) (b o : Nat) (w : World) (u : Value) : KeptBut ts b w (w.setCell ⟨b, o, none⟩ u) := fun k c T z h1 h2 _ => (Below.heap_setCell _ _ _ _ (fun e => h2 e)).trans h1
theorem kept_append {ts : List TypeId} {b : Nat} {w w' : World} {B : Nat} {T : TypeId} {n m : Nat} {v : Value} {xs : List Value} {o : Obj} (hg : (w.alloc o).grownBy w' v.ownBlock) (h : w.ownsRow B T n v m xs) (ht : T ∈ ts) : KeptBut ts b w w' := fun k c T' z h1 h2 h3 => by
  have hk := (Array.getElem?_eq_some_iff.1 h1).1
  refine (hg.block k (by simp; omega) (fun e => ?_)).trans ((Below.heap_alloc _ _ _ hk).trans h1)
  obtain ⟨c', hc⟩ := own_block h k e.symm
  rw [h1] at hc
  injection hc with hc
  injection hc with _ hc
  exact h3 (hc ▸ ht)
theorem KeptBut.cell {ts : List TypeId} {b : Nat} {w w' : World} (h : KeptBut ts b w w') {k o : Nat} {c : Array Value} {T : TypeId} {z : Nat × Nat} (hk : w.heap[k]? = some (.cells c T z)) (hb : k ≠ b) (hT : T ∉ ts) : w'.cell? ⟨k, o, none⟩ = w.cell? ⟨k, o, none⟩ :=
  World.cell?_of_block (w := w) ((h k c T z hk hb hT).trans hk.symm)

/-- the renderer at block b: the fields F, what is left, and the layout so far -/
structure RF (w0 : World) (B b : Nat) (W : Int) (its : List Int) (s : St) (F : Fs) (w : World) : Prop where
  hold : Holds B b F s.txt.data.toList w
  rest : StackG NV 1 w 3 B F.r its
  rows : w.ownsRow B 91 2 F.l s.rows.length (cells2 s.rows)
  flags : w.ownsRow B 4 1 F.g s.flags.length (s.flags.map Value.bool)
  ind : F.i = .int .i64 s.ind
  wid : F.a = .int .i64 W
def RS (w0 : World) (B b : Nat) (W : Int) (its : List Int) (s : St) (w : World) : Prop := ∃ F, RF w0 B b W its s F w

section
variable {w0 w w' : World} {B b : Nat} {W : Int} {its : List Int} {s : St} {F : Fs}
theorem RF.grown_none (h : RF w0 B b W its s F w) (k : w.grownBy w' none) : RF w0 B b W its s F w' :=
  ⟨h.hold.grown k (by simp) (by simp), h.rest.kept k (own_or (by simp)), h.rows.kept k (own_or (by simp)), h.flags.kept k (own_or (by simp)), h.ind, h.wid⟩
theorem RF.below (h : RF w0 B b W its s F w) (k : Below w.heap.size w w') : RF w0 B b W its s F w' := h.grown_none (grown_below k)
theorem RS.below (h : RS w0 B b W its s w) (k : Below w.heap.size w w') : RS w0 B b W its s w' := by obtain ⟨F, h⟩ := h; exact ⟨F, h.below k⟩
/-- the builder is written to -/
theorem RF.wrote (h : RF w0 B b W its s F w) {l : List UInt8} (k : Wrote B b F l w w') {t : ByteArray} (ht : t.data.toList = l) : RF w0 B b W its { s with txt := t } F w' :=
  ⟨by rw [show ({ s with txt := t } : St).txt = t from rfl, ht]; exact k.1, stack_wrote (lo := B) h.rest ne1 ne4 h.hold k.2.2, own_wrote h.rows ne2 ne5 h.hold k.2.2, own_wrote h.flags ne3 ne6 h.hold k.2.2, h.ind, h.wid⟩
theorem RF.block (h : RF w0 B b W its s F w) : ∃ c, w.heap[b]? = some (.cells c 86 (0, 0)) := by
  obtain ⟨p, _, _, v, hb, _⟩ := h.hold.at
  exact ⟨_, hb⟩
theorem RF.cells (h : RF w0 B b W its s F w) : w.cell? ⟨b, 0, none⟩ = some (.int .i64 W) ∧ w.cell? ⟨b, 5, none⟩ = some F.r ∧ w.cell? ⟨b, 1, none⟩ = some F.l ∧ w.cell? ⟨b, 2, none⟩ = some (.int .i64 s.ind) ∧ True ∧ (∀ o, w.frozen? ⟨b, o, none⟩ = false) ∧ b < w.heap.size ∧ B ≤ b := by
  obtain ⟨p, hp, hA⟩ := h.hold.at
  obtain ⟨v, c0, c1, c2, c3, _, _, c6⟩ := hA.cell
  obtain ⟨c, hc⟩ := h.block
  exact ⟨by rw [c0, h.wid], c1, c2, by rw [c3, h.ind], trivial, heap_frozen hc, (Array.getElem?_eq_some_iff.1 hc).1, hA.1⟩
theorem grown_set (w : World) (b o : Nat) (u : Value) : w.grownBy (w.setCell ⟨b, o, none⟩ u) (some b) := ⟨rfl, rfl, rfl, by simp [World.setCell], fun k _ hk => Below.heap_setCell _ _ _ _ (fun e => hk (by simp [e]))⟩
/-- a row of the renderer has grown, and its field is stored to -/
theorem RF.set (h : RF w0 B b W its s F w) {row : Option Nat} {w1 : World} (hg : w.grownBy w1 row) (hrow : ∀ g, row = some g → ∃ c T, w.heap[g]? = some (.cells c T (0, 0)) ∧ T ≠ 5 ∧ T ≠ 86)
    (o : Nat) (u : Value) (F' : Fs) (hc : ∀ p v, (cs F p v).setIfInBounds o u = cs F' p v) (its' : List Int) (s' : St) (hs : s'.txt = s.txt)
    (hrest : StackG NV 1 w1 3 B F'.r its') (hrows : w1.ownsRow B 91 2 F'.l s'.rows.length (cells2 s'.rows)) (hflags : w1.ownsRow B 4 1 F'.g s'.flags.length (s'.flags.map Value.bool)) (hi : F'.i = .int .i64 s'.ind) (hw : F'.a = .int .i64 W) :
    RF w0 B b W its' s' F' (w1.setCell ⟨b, o, none⟩ u) := by
  obtain ⟨c, hcb⟩ := h.block
  have hbl := (Array.getElem?_eq_some_iff.1 hcb).1
  have hrb : row ≠ some b := fun e => by
    obtain ⟨c', T, h1, h2, h3⟩ := hrow b e
    rw [hcb] at h1; injection h1 with h1; injection h1 with _ h1; exact h3 h1.symm
  have hH := h.hold.grown hg hrb (fun g e => by obtain ⟨c', T, h1, h2, h3⟩ := hrow g e; exact ⟨c', T, _, h1, h2⟩)
  have hcb1 : w1.heap[b]? = some (.cells c 86 (0, 0)) := (hg.block b hbl (fun e => hrb e.symm)).trans hcb
  have hk := grown_set w1 b o u
  have q : ∀ {T : TypeId} {n m : Nat} {v : Value} {xs : List Value}, w1.ownsRow B T n v m xs → T ≠ 86 → (w1.setCell ⟨b, o, none⟩ u).ownsRow B T n v m xs := fun h1 hT =>
    h1.kept hk (own_or (fun k e => by cases e; exact own_ne h1 hcb1 hT))
  obtain ⟨xs, x1, x2⟩ := hrest
  exact ⟨by rw [hs]; exact hH.put o u F' hc, ⟨xs, q x1 ne4, x2⟩, q hrows ne5, q hflags ne6, hi, hw⟩
end

end Go.Proofs.Ytcealfjkcbaelaa.StM

/-
  endLine of the program.
-/

set_option linter.unusedVariables false
set_option linter.unusedSimpArgs false
namespace Go.Proofs.Ytcealfjkcbaelaa.StM
open Go.RowKit Go.Shelf P1 Cnt CntC Flat Wid ChP Rn Bwd BufS
open LayN (cells2 cells2_len cells2_one)
open LayC (cells2_app)

def St.ended (s : St) : St := { s with rows := s.fin, txt := ⟨#[]⟩ }
theorem two_news (w : World) (i : Int) (t : ByteArray) (T : TypeId) : ∀ j u, [Value.int .i64 i, .string t][j]? = some u → (w.alloc (.cells #[.int .i64 i, .string t] T)).cell? ((⟨w.heap.size, 0, none⟩ : Addr).add j) = some u := by
  intro j u hu
  rw [add_at, Nat.zero_add, World.cell?_alloc_new]
  simpa using hu
theorem cells2_snoc (R : List (Int × ByteArray)) (i : Int) (t : ByteArray) : cells2 R ++ [.int .i64 i, .string t] = cells2 (R ++ [(i, t)]) := by rw [cells2_app]; rfl
theorem own_slice {w : World} {B : Nat} {T : TypeId} {n m : Nat} {v : Value} {xs : List Value} (h : w.ownsRow B T n v m xs) : ∃ a cap, v = .slice a m cap ∧ m ≤ cap := by
  rcases h.2 with ⟨rfl, h0⟩ | ⟨g, cap, cur, rfl, _, _, h1, _⟩
  · exact ⟨none, 0, by rw [h0], by omega⟩
  · exact ⟨_, cap, rfl, h1⟩
theorem below_append {w w' : World} {B : Nat} {T : TypeId} {n m : Nat} {v : Value} {xs : List Value} {o : Obj} (hg : (w.alloc o).grownBy w' v.ownBlock) (h : w.ownsRow B T n v m xs) (hB : B ≤ w.heap.size) : Below B w w' :=
  ((Below.refl B w).alloc hB o).grown hg (by simp; omega) (fun k e => (h.lt k e).1)
/-- a line is appended, and the field is not yet stored to -/
theorem RF.append_row {w0 w w3 : World} {B b : Nat} {W : Int} {its : List Int} {s : St} {fa fr fl fi fg : Value} (h : RF w0 B b W its s ⟨fa, fr, fl, fi, fg⟩ w) {R : List (Int × ByteArray)} {xs : List Value} (hR : xs = cells2 R) {o : Obj} (hg : (w.alloc o).grownBy w3 fl.ownBlock) {g cap n : Nat} (hown : w3.ownsRow B 91 2 (.slice (some ⟨g, 0, none⟩) n cap) n xs) :
    w3.cell? ⟨b, 1, none⟩ = some fl ∧ w3.cell? ⟨b, 2, none⟩ = some (.int .i64 s.ind) ∧ (∀ u, (w3.setCell ⟨b, 1, none⟩ u).cell? ⟨b, 2, none⟩ = some (.int .i64 s.ind)) ∧ w3.frozen? ⟨b, 1, none⟩ = false ∧ (R.length = n → RF w0 B b W its { s with rows := R } ⟨fa, fr, .slice (some ⟨g, 0, none⟩) n cap, fi, fg⟩ (w3.setCell ⟨b, 1, none⟩ (.slice (some ⟨g, 0, none⟩) n cap))) := by
  have hl := h.below ((Below.refl w.heap.size w).alloc (Nat.le_refl _) o)
  obtain ⟨_, _, c2, c3, _, hz, hbl, _⟩ := hl.cells
  obtain ⟨c, hcb⟩ := hl.block
  have hne : fl.ownBlock ≠ some b := StM.own_ne hl.rows hcb ne5
  have hbk := hg.block b hbl (fun e => hne e.symm)
  refine ⟨(World.cell?_of_block (w := w.alloc o) hbk).trans c2, (World.cell?_of_block (w := w.alloc o) hbk).trans c3, fun u => (show (w3.setCell ⟨b, 1, none⟩ u).cell? ⟨b, 2, none⟩ = w3.cell? ⟨b, 2, none⟩ from World.cell?_setCell_other _ _ _ _ (by simp)).trans <| (World.cell?_of_block (w := w.alloc o) hbk).trans c3, (World.frozen?_of_block (w := w.alloc o) hbk).trans (hz 1), fun hRn => ?_⟩
  have hrow : ∀ k, fl.ownBlock = some k → ∃ c, (w.alloc o).heap[k]? = some (.cells c 91 (0, 0)) := own_block hl.rows
  refine hl.set hg (fun k e => by obtain ⟨c', h'⟩ := hrow k e; exact ⟨c', _, h', ne2, ne5⟩) 1 (.slice (some ⟨g, 0, none⟩) n cap) ⟨fa, fr, .slice (some ⟨g, 0, none⟩) n cap, fi, fg⟩ (fun p v => rfl) its { s with rows := R } rfl (hl.rest.kept hg (own_or (fun k e => ?_))) ?_ (hl.flags.kept hg (own_or (fun k e => ?_))) h.ind h.wid
  · obtain ⟨c', h'⟩ := hrow k e
    obtain ⟨ys, y1, _⟩ := hl.rest
    exact StM.own_ne y1 h' ne7
  · show w3.ownsRow B 91 2 (.slice (some ⟨g, 0, none⟩) n cap) R.length (cells2 R)
    rw [hRn, ← hR]; exact hown
  · obtain ⟨c', h'⟩ := hrow k e
    exact StM.own_ne hl.flags h' (Ne.symm ne9)

set_option maxRecDepth 100000 in
set_option maxHeartbeats 3200000 in
theorem endLine {w0 w : World} {B b : Nat} {W : Int} {its : List Int} {s : St} (hB : B ≤ w.heap.size) (h : RS w0 B b W its s w) (hn : s.rows.length ≤ 1000000) :
    Calls Try.prog 67 #[.pointer (some ⟨b, 0, none⟩)] w fun e w' => e = .returned (.tuple #[]) ∧ RS w0 B b W its (St.ended s) w' ∧ Below B w w' ∧ KeptBut [5, 91] b w w' := by
  obtain ⟨⟨fa, fr, fl, fi, fg⟩, hF⟩ := h
  obtain ⟨i0, z0, hi, hz, hz1, hz2, hz3⟩ := info_some info2
  have HI := Lib.hid (And.intro hi (And.intro hz (And.intro hz1 (And.intro hz2 hz3))))
  clear hi hz hz1 hz2 hz3
  obtain ⟨al, cl, rfl, hcl⟩ : ∃ a cap, fl = .slice a s.rows.length cap ∧ s.rows.length ≤ cap := own_slice hF.rows
  obtain ⟨n, hnn⟩ : ∃ n, s.rows.length = n := ⟨_, rfl⟩
  obtain ⟨ind, hind⟩ : ∃ i, s.ind = i := ⟨_, rfl⟩
  obtain ⟨T, hT⟩ : ∃ t, s.txt = t := ⟨_, rfl⟩
  obtain ⟨R, hR⟩ : ∃ r, s.rows = r := ⟨_, rfl⟩
  obtain ⟨G, hG⟩ : ∃ g, s.flags = g := ⟨_, rfl⟩
  obtain rfl : s = ⟨R, ind, T, G⟩ := by cases s; simp_all
  obtain rfl : fi = .int .i64 ind := hF.ind
  rw [hnn] at hF hn hcl
  have hFd : RF w0 B b W its ⟨R, ind, T, G⟩ ⟨fa, fr, .slice al n cl, .int .i64 ind, fg⟩ w.drew := hF.below (Below.refl _ _).drew
  obtain ⟨c0, c1, c2, c3, c6, hfz, hbl, hBb⟩ := hFd.cells
  have HSTR := Lib.hid (string B b _ _ w.drew hFd.hold)
  have HN := Lib.hid (show R.length = n from hnn)
  clear hnn hT hR hG hind
  go_enter Try.func67, Try.ntmps67
  go_wp2_with fail
  refine wp_region_held_drew (S := (fun w' => w'.cell? ⟨b, 2, none⟩ = some (.int .i64 ind))) (by kernel_rfl) ?_ (fun hHeld => ?_)
  · exact c3
  refine wpAnyH_take (i := 0) (oi := { dst := some 2, op := Op.move (Operand.tmp 0), type := 151, pos := "l4_greedy.go:35", after := #[], guard := none }) (v := ?_) rfl (by kernel_rfl) (by kernel_rfl) (by kernel_rfl) (fun _ _ _ h => h) (Or.inl ⟨by rfl, ?_⟩) (by assumption) ?_
  rotate_left
  · (intro w hSw; (try dsimp only at hSw); (go_simp <;> with_reducible rfl))
  try simp only [Act.put, List.setIfInBounds_toArray, List.set_cons_zero, List.set_cons_succ]
  refine wpAnyH_take (i := 1) (oi := { dst := some 3, op := Op.move (Operand.tmp 0), type := 151, pos := "l4_greedy.go:35", after := #[], guard := none }) (v := ?_) rfl (by kernel_rfl) (by kernel_rfl) (by kernel_rfl) (fun _ _ _ h => h) (Or.inl ⟨by rfl, ?_⟩) (by assumption) ?_
  rotate_left
  · (intro w hSw; (try dsimp only at hSw); (go_simp <;> with_reducible rfl))
  try simp only [Act.put, List.setIfInBounds_toArray, List.set_cons_zero, List.set_cons_succ]
  refine wpAnyH_take (i := 2) (oi := { dst := some 4, op := Op.nilCheck (Operand.tmp 3), type := 0, pos := "l4_greedy.go:35", after := #[{ on := 1, ground := Ground.data }], guard := none }) (v := ?_) rfl (by kernel_rfl) (by kernel_rfl) (by kernel_rfl) (fun _ _ _ h => h) (Or.inl ⟨by rfl, ?_⟩) (by assumption) ?_
  rotate_left
  · (intro w hSw; (try dsimp only at hSw); (go_simp <;> with_reducible rfl))
  try simp only [Act.put, List.setIfInBounds_toArray, List.set_cons_zero, List.set_cons_succ]
  refine wpAnyH_take (i := 3) (oi := { dst := some 5, op := Op.fieldAddr 84 (Operand.tmp 4) 1, type := 0, pos := "l4_greedy.go:35", after := #[{ on := 2, ground := Ground.data }], guard := none }) (v := ?_) rfl (by kernel_rfl) (by kernel_rfl) (by kernel_rfl) (fun _ _ _ h => h) (Or.inl ⟨by rfl, ?_⟩) (by assumption) ?_
  rotate_left
  · (intro w hSw; (try dsimp only at hSw); (go_simp <;> with_reducible rfl))
  try simp only [Act.put, List.setIfInBounds_toArray, List.set_cons_zero, List.set_cons_succ]
  refine wpAnyH_take (i := 5) (oi := { dst := some 7, op := Op.move (Operand.tmp 0), type := 151, pos := "l4_greedy.go:35", after := #[], guard := none }) (v := ?_) rfl (by kernel_rfl) (by kernel_rfl) (by kernel_rfl) (fun _ _ _ h => h) (Or.inl ⟨by rfl, ?_⟩) (by assumption) ?_
  rotate_left
  · (intro w hSw; (try dsimp only at hSw); (go_simp <;> with_reducible rfl))
  try simp only [Act.put, List.setIfInBounds_toArray, List.set_cons_zero, List.set_cons_succ]
  refine wpAnyH_take (i := 6) (oi := { dst := some 8, op := Op.nilCheck (Operand.tmp 7), type := 0, pos := "l4_greedy.go:35", after := #[{ on := 5, ground := Ground.data }], guard := none }) (v := ?_) rfl (by kernel_rfl) (by kernel_rfl) (by kernel_rfl) (fun _ _ _ h => h) (Or.inl ⟨by rfl, ?_⟩) (by assumption) ?_
  rotate_left
  · (intro w hSw; (try dsimp only at hSw); (go_simp <;> with_reducible rfl))
  try simp only [Act.put, List.setIfInBounds_toArray, List.set_cons_zero, List.set_cons_succ]
  refine wpAnyH_take (i := 7) (oi := { dst := some 9, op := Op.fieldAddr 84 (Operand.tmp 8) 2, type := 0, pos := "l4_greedy.go:35", after := #[{ on := 6, ground := Ground.data }], guard := none }) (v := ?_) rfl (by kernel_rfl) (by kernel_rfl) (by kernel_rfl) (fun _ _ _ h => h) (Or.inl ⟨by rfl, ?_⟩) (by assumption) ?_
  rotate_left
  · (intro w hSw; (try dsimp only at hSw); (go_simp <;> with_reducible rfl))
  try simp only [Act.put, List.setIfInBounds_toArray, List.set_cons_zero, List.set_cons_succ]
  refine wpAnyH_take (i := 8) (oi := { dst := some 10, op := Op.load 3 (Operand.tmp 9), type := 3, pos := "l4_greedy.go:35", after := #[{ on := 7, ground := Ground.data }], guard := none }) (v := ?_) rfl (by kernel_rfl) (by kernel_rfl) (by kernel_rfl) (fun _ _ _ h => h) (Or.inl ⟨by rfl, ?_⟩) (by assumption) ?_
  rotate_left
  · (intro w hSw; (try dsimp only at hSw); (go_simp <;> with_reducible rfl))
  try simp only [Act.put, List.setIfInBounds_toArray, List.set_cons_zero, List.set_cons_succ]
  refine wpAnyH_take (i := 9) (oi := { dst := some 11, op := Op.move (Operand.tmp 0), type := 151, pos := "l4_greedy.go:35", after := #[], guard := none }) (v := ?_) rfl (by kernel_rfl) (by kernel_rfl) (by kernel_rfl) (fun _ _ _ h => h) (Or.inl ⟨by rfl, ?_⟩) (by assumption) ?_
  rotate_left
  · (intro w hSw; (try dsimp only at hSw); (go_simp <;> with_reducible rfl))
  try simp only [Act.put, List.setIfInBounds_toArray, List.set_cons_zero, List.set_cons_succ]
  refine wpAnyH_take (i := 10) (oi := { dst := some 12, op := Op.nilCheck (Operand.tmp 11), type := 0, pos := "l4_greedy.go:35", after := #[{ on := 9, ground := Ground.data }], guard := none }) (v := ?_) rfl (by kernel_rfl) (by kernel_rfl) (by kernel_rfl) (fun _ _ _ h => h) (Or.inl ⟨by rfl, ?_⟩) (by assumption) ?_
  rotate_left
  · (intro w hSw; (try dsimp only at hSw); (go_simp <;> with_reducible rfl))
  try simp only [Act.put, List.setIfInBounds_toArray, List.set_cons_zero, List.set_cons_succ]
  refine wpAnyH_take (i := 11) (oi := { dst := some 13, op := Op.fieldAddr 84 (Operand.tmp 12) 3, type := 0, pos := "l4_greedy.go:35", after := #[{ on := 10, ground := Ground.data }], guard := none }) (v := ?_) rfl (by kernel_rfl) (by kernel_rfl) (by kernel_rfl) (fun _ _ _ h => h) (Or.inl ⟨by rfl, ?_⟩) (by assumption) ?_
  rotate_left
  · (intro w hSw; (try dsimp only at hSw); (go_simp <;> with_reducible rfl))
  try simp only [Act.put, List.setIfInBounds_toArray, List.set_cons_zero, List.set_cons_succ]
  refine wpAnyH_ready (rs := [4, 12]) (by kernel_rfl) (by simp) ?_
  refine AllReadyH.cons (o := { dst := some 6, op := Op.load 31 (Operand.tmp 5), type := 31, pos := "l4_greedy.go:35", after := #[{ on := 3, ground := Ground.data }], guard := none }) rfl (fun K hK => ?_) ?_
  · go_simp
    refine hK.out _ _ ?_ (fun hHeld4 => ?_)
    · exact c3
    clear hK K hHeld
    try simp only [Act.put, List.setIfInBounds_toArray, List.set_cons_zero, List.set_cons_succ]
    refine wpAnyH_ready (rs := [12]) (by kernel_rfl) (by simp) ?_
    refine AllReadyH.cons (o := { dst := some 14, op := Op.call { callee := Callee.value (Operand.func 116), args := #[Operand.tmp 13], argTypes := #[82] }, type := 9, pos := "l4_greedy.go:35", after := #[{ on := 11, ground := Ground.data }], guard := none }) rfl (fun K hK => ?_) AllReadyH.nil
    go_simp
    go_at_call 116
    refine HSTR.out.mono ?_
    rintro e1 w1 ⟨rfl, hw1⟩
    have hF1 := hFd.wrote hw1 rfl
    have hb1 := hw1.2.1
    obtain ⟨_, _, c2a, c3a, _, fza, hbla, _⟩ := hF1.cells
    have hown1 : w1.ownsRow B 91 2 (.slice al n cl) n (cells2 R) := by have := hF1.rows; simp only [HN.out] at this; exact this
    have hz1 : B ≤ w1.heap.size := Nat.le_trans hB hb1.size
    have H1 := Lib.hid (And.intro hF1 hb1)
    have HK1 := Lib.hid (kept_others (ts := [5, 91]) hw1.2.2 (by decide))
    clear hF1 hb1 hw1
    try go_wp2_with fail
    refine hK.out _ _ ?_ (fun hHeld12 => ?_)
    · exact c3a
    clear hK K hHeld4
    try simp only [Act.put, List.setIfInBounds_toArray, List.set_cons_zero, List.set_cons_succ]
    refine wpAnyH_take (i := 13) (oi := { dst := some 15, op := Op.build 91 #[(0, Operand.tmp 10), (1, Operand.tmp 14)], type := 91, pos := "l4_greedy.go:35", after := #[{ on := 8, ground := Ground.data }, { on := 12, ground := Ground.data }], guard := none }) (v := ?_) rfl (by kernel_rfl) (by kernel_rfl) (by kernel_rfl) (fun _ _ _ h => h) (Or.inl ⟨by rfl, ?_⟩) (by assumption) ?_
    rotate_left
    · (intro w hSw; (try dsimp only at hSw); (go_simp <;> with_reducible rfl))
    try simp only [Act.put, List.setIfInBounds_toArray, List.set_cons_zero, List.set_cons_succ]
    refine wpAnyH_ready (rs := [14]) (by kernel_rfl) (by simp) ?_
    refine AllReadyH.cons (o := { dst := some 16, op := Op.buildSlice 31 1 #[(0, Operand.tmp 15)], type := 31, pos := "l4_greedy.go:35", after := #[{ on := 13, ground := Ground.data }], guard := none }) rfl (fun K hK => ?_) AllReadyH.nil
    have c2b := fun (ob : Obj) => ((Ext.refl w1).alloc ob |>.cell hbla).trans c2a
    have c3b := fun (ob : Obj) => ((Ext.refl w1).alloc ob |>.cell hbla).trans c3a
    go_simp
    refine hK.out _ _ ?_ (fun hHeld14 => ?_)
    · exact c3b _
    clear hK K hHeld12
    try simp only [Act.put, List.setIfInBounds_toArray, List.set_cons_zero, List.set_cons_succ]
    refine wpAnyH_ready (rs := [15]) (by kernel_rfl) (by simp) ?_
    refine AllReadyH.cons (o := { dst := some 17, op := Op.call { callee := Callee.builtin Builtin.append, args := #[Operand.tmp 6, Operand.tmp 16], argTypes := #[31, 31] }, type := 31, pos := "l4_greedy.go:35", after := #[{ on := 4, ground := Ground.data }, { on := 14, ground := Ground.data }, { on := 12, ground := Ground.chain }], guard := none }) rfl (fun K hK => ?_) AllReadyH.nil
    refine wp_append_lies _ (.tmp 6) (.tmp 16) 31 (by rfl) B 91 i0 z0 2 24 Try.underlying31 HI.out.1 HI.out.2.1 HI.out.2.2.1 HI.out.2.2.2.1 HI.out.2.2.2.2 (by omega) (.slice al n cl) n (cells2 R) (by rfl) (hown1.alloc _) ⟨w1.heap.size, 0, none⟩ 1 1 [.int .i64 ind, .string T] (by rfl) rfl (two_news w1 ind T _) (by simp [Value.oneCell']) (by omega) (by unfold maxLen; omega) (by omega) (by simp; omega) (w1.heap.size + 1) (by simp) ?_
    intro g cap w3 hown3 hgrow3 hat3 hlt3
    obtain ⟨k2, k3, k4, kz, hset⟩ := H1.out.1.append_row (cells2_snoc R ind T) hgrow3 hown3
    have HSET := Lib.hid hset
    have HK3 := Lib.hid (kept_append (ts := [5, 91]) (b := b) hgrow3 H1.out.1.rows (by decide))
    have H3 := Lib.hid (below_append hgrow3 H1.out.1.rows (Nat.le_trans hB H1.out.2.size))
    clear hset hgrow3 hown3 hat3
    refine hK.out _ _ ?_ (fun hHeld15 => ?_)
    · exact k3
    clear hK K hHeld14
    try simp only [Act.put, List.setIfInBounds_toArray, List.set_cons_zero, List.set_cons_succ]
    refine wpAnyH_take (i := 16) (oi := { dst := some 18, op := Op.nilCheck (Operand.tmp 2), type := 0, pos := "l4_greedy.go:35", after := #[{ on := 0, ground := Ground.data }, { on := 0, ground := Ground.phase }, { on := 1, ground := Ground.phase }, { on := 2, ground := Ground.phase }, { on := 3, ground := Ground.phase }, { on := 4, ground := Ground.phase }, { on := 5, ground := Ground.phase }, { on := 6, ground := Ground.phase }, { on := 7, ground := Ground.phase }, { on := 8, ground := Ground.phase }, { on := 9, ground := Ground.phase }, { on := 10, ground := Ground.phase }, { on := 11, ground := Ground.phase }, { on := 12, ground := Ground.phase }, { on := 13, ground := Ground.phase }, { on := 14, ground := Ground.phase }, { on := 15, ground := Ground.phase }], guard := none }) (v := ?_) rfl (by kernel_rfl) (by kernel_rfl) (by kernel_rfl) (fun _ _ _ h => h) (Or.inl ⟨by rfl, ?_⟩) (by assumption) ?_
    rotate_left
    · (intro w hSw; (try dsimp only at hSw); (go_simp <;> with_reducible rfl))
    try simp only [Act.put, List.setIfInBounds_toArray, List.set_cons_zero, List.set_cons_succ]
    refine wpAnyH_take (i := 17) (oi := { dst := some 19, op := Op.fieldAddr 84 (Operand.tmp 18) 1, type := 0, pos := "l4_greedy.go:35", after := #[{ on := 16, ground := Ground.data }, { on := 0, ground := Ground.phase }, { on := 1, ground := Ground.phase }, { on := 2, ground := Ground.phase }, { on := 3, ground := Ground.phase }, { on := 4, ground := Ground.phase }, { on := 5, ground := Ground.phase }, { on := 6, ground := Ground.phase }, { on := 7, ground := Ground.phase }, { on := 8, ground := Ground.phase }, { on := 9, ground := Ground.phase }, { on := 10, ground := Ground.phase }, { on := 11, ground := Ground.phase }, { on := 12, ground := Ground.phase }, { on := 13, ground := Ground.phase }, { on := 14, ground := Ground.phase }, { on := 15, ground := Ground.phase }], guard := none }) (v := ?_) rfl (by kernel_rfl) (by kernel_rfl) (by kernel_rfl) (fun _ _ _ h => h) (Or.inl ⟨by rfl, ?_⟩) (by assumption) ?_
    rotate_left
    · (intro w hSw; (try dsimp only at hSw); (go_simp <;> with_reducible rfl))
    try simp only [Act.put, List.setIfInBounds_toArray, List.set_cons_zero, List.set_cons_succ]
    refine wpAnyH_ready (rs := [18]) (by kernel_rfl) (by simp) ?_
    refine AllReadyH.cons (o := { dst := none, op := Op.store 31 (Operand.tmp 19) (Operand.tmp 17), type := 0, pos := "l4_greedy.go:35", after := #[{ on := 17, ground := Ground.data }, { on := 15, ground := Ground.data }, { on := 15, ground := Ground.chain }, { on := 0, ground := Ground.phase }, { on := 1, ground := Ground.phase }, { on := 2, ground := Ground.phase }, { on := 3, ground := Ground.phase }, { on := 4, ground := Ground.phase }, { on := 5, ground := Ground.phase }, { on := 6, ground := Ground.phase }, { on := 7, ground := Ground.phase }, { on := 8, ground := Ground.phase }, { on := 9, ground := Ground.phase }, { on := 10, ground := Ground.phase }, { on := 11, ground := Ground.phase }, { on := 12, ground := Ground.phase }, { on := 13, ground := Ground.phase }, { on := 14, ground := Ground.phase }, { on := 15, ground := Ground.phase }], guard := none }) rfl (fun K hK => ?_) AllReadyH.nil
    go_simp
    refine hK.out _ _ ?_ (fun hHeld18 => ?_)
    · exact k4 _
    clear hK K hHeld15
    try simp only [Act.put, List.setIfInBounds_toArray, List.set_cons_zero, List.set_cons_succ]
    refine wpAnyH_done (by kernel_rfl) ?_ _
    have hset := HSET.out (by rw [List.length_append, HN.out]; rfl)
    have hb3 := (H1.out.2.trans H3.out).setCell (p := ⟨b, 1, none⟩) hBb (.slice (some ⟨g, 0, none⟩) (n + 1) cap)
    have hk3 := (HK1.out.trans HK3.out).trans (kept_set _ b 1 _ (.slice (some ⟨g, 0, none⟩) (n + 1) cap))
    obtain ⟨W3, hW3⟩ : ∃ W, w3.setCell ⟨b, 1, none⟩ (.slice (some ⟨g, 0, none⟩) (n + 1) cap) = W := ⟨_, rfl⟩
    rw [hW3] at hset hb3 hk3 ⊢
    have HR := Lib.hid (reset B b _ _ W3 hset.hold)
    have H4 := Lib.hid (And.intro hset hb3)
    have HK4 := Lib.hid hk3
    clear hset hb3 hk3 hW3 k2 k3 k4 kz
    go_wp2_with fail
    refine HR.out.mono ?_
    rintro e4 w4 ⟨rfl, hw4⟩
    go_wp2_with fail
    go_end0
    refine ⟨rfl, ⟨_, H4.out.1.wrote (t := ⟨#[]⟩) hw4 rfl⟩, ((Below.refl B w).drew.trans H4.out.2).trans hw4.2.1, ((kept_ext (w' := w.drew) (Below.refl _ _).drew).trans HK4.out).trans (kept_others hw4.2.2 (by decide))⟩
  refine AllReadyH.cons (o := { dst := some 14, op := Op.call { callee := Callee.value (Operand.func 116), args := #[Operand.tmp 13], argTypes := #[82] }, type := 9, pos := "l4_greedy.go:35", after := #[{ on := 11, ground := Ground.data }], guard := none }) rfl (fun K hK => ?_) AllReadyH.nil
  go_simp
  go_at_call 116
  refine HSTR.out.mono ?_
  rintro e1 w1 ⟨rfl, hw1⟩
  have hF1 := hFd.wrote hw1 rfl
  have hb1 := hw1.2.1
  obtain ⟨_, _, c2a, c3a, _, fza, hbla, _⟩ := hF1.cells
  have hown1 : w1.ownsRow B 91 2 (.slice al n cl) n (cells2 R) := by have := hF1.rows; simp only [HN.out] at this; exact this
  have hz1 : B ≤ w1.heap.size := Nat.le_trans hB hb1.size
  have H1 := Lib.hid (And.intro hF1 hb1)
  have HK1 := Lib.hid (kept_others (ts := [5, 91]) hw1.2.2 (by decide))
  clear hF1 hb1 hw1
  try go_wp2_with fail
  refine hK.out _ _ ?_ (fun hHeld12 => ?_)
  · exact c3a
  clear hK K hHeld
  try simp only [Act.put, List.setIfInBounds_toArray, List.set_cons_zero, List.set_cons_succ]
  refine wpAnyH_take (i := 13) (oi := { dst := some 15, op := Op.build 91 #[(0, Operand.tmp 10), (1, Operand.tmp 14)], type := 91, pos := "l4_greedy.go:35", after := #[{ on := 8, ground := Ground.data }, { on := 12, ground := Ground.data }], guard := none }) (v := ?_) rfl (by kernel_rfl) (by kernel_rfl) (by kernel_rfl) (fun _ _ _ h => h) (Or.inl ⟨by rfl, ?_⟩) (by assumption) ?_
  rotate_left
  · (intro w hSw; (try dsimp only at hSw); (go_simp <;> with_reducible rfl))
  try simp only [Act.put, List.setIfInBounds_toArray, List.set_cons_zero, List.set_cons_succ]
  refine wpAnyH_ready (rs := [4, 14]) (by kernel_rfl) (by simp) ?_
  refine AllReadyH.cons (o := { dst := some 6, op := Op.load 31 (Operand.tmp 5), type := 31, pos := "l4_greedy.go:35", after := #[{ on := 3, ground := Ground.data }], guard := none }) rfl (fun K hK => ?_) ?_
  · go_simp
    refine hK.out _ _ ?_ (fun hHeld4 => ?_)
    · exact c3a
    clear hK K hHeld12
    try simp only [Act.put, List.setIfInBounds_toArray, List.set_cons_zero, List.set_cons_succ]
    refine wpAnyH_ready (rs := [14]) (by kernel_rfl) (by simp) ?_
    refine AllReadyH.cons (o := { dst := some 16, op := Op.buildSlice 31 1 #[(0, Operand.tmp 15)], type := 31, pos := "l4_greedy.go:35", after := #[{ on := 13, ground := Ground.data }], guard := none }) rfl (fun K hK => ?_) AllReadyH.nil
    have c2b := fun (ob : Obj) => ((Ext.refl w1).alloc ob |>.cell hbla).trans c2a
    have c3b := fun (ob : Obj) => ((Ext.refl w1).alloc ob |>.cell hbla).trans c3a
    go_simp
    refine hK.out _ _ ?_ (fun hHeld14 => ?_)
    · exact c3b _
    clear hK K hHeld4
    try simp only [Act.put, List.setIfInBounds_toArray, List.set_cons_zero, List.set_cons_succ]
    refine wpAnyH_ready (rs := [15]) (by kernel_rfl) (by simp) ?_
    refine AllReadyH.cons (o := { dst := some 17, op := Op.call { callee := Callee.builtin Builtin.append, args := #[Operand.tmp 6, Operand.tmp 16], argTypes := #[31, 31] }, type := 31, pos := "l4_greedy.go:35", after := #[{ on := 4, ground := Ground.data }, { on := 14, ground := Ground.data }, { on := 12, ground := Ground.chain }], guard := none }) rfl (fun K hK => ?_) AllReadyH.nil
    refine wp_append_lies _ (.tmp 6) (.tmp 16) 31 (by rfl) B 91 i0 z0 2 24 Try.underlying31 HI.out.1 HI.out.2.1 HI.out.2.2.1 HI.out.2.2.2.1 HI.out.2.2.2.2 (by omega) (.slice al n cl) n (cells2 R) (by rfl) (hown1.alloc _) ⟨w1.heap.size, 0, none⟩ 1 1 [.int .i64 ind, .string T] (by rfl) rfl (two_news w1 ind T _) (by simp [Value.oneCell']) (by omega) (by unfold maxLen; omega) (by omega) (by simp; omega) (w1.heap.size + 1) (by simp) ?_
    intro g cap w3 hown3 hgrow3 hat3 hlt3
    obtain ⟨k2, k3, k4, kz, hset⟩ := H1.out.1.append_row (cells2_snoc R ind T) hgrow3 hown3
    have HSET := Lib.hid hset
    have HK3 := Lib.hid (kept_append (ts := [5, 91]) (b := b) hgrow3 H1.out.1.rows (by decide))
    have H3 := Lib.hid (below_append hgrow3 H1.out.1.rows (Nat.le_trans hB H1.out.2.size))
    clear hset hgrow3 hown3 hat3
    refine hK.out _ _ ?_ (fun hHeld15 => ?_)
    · exact k3
    clear hK K hHeld14
    try simp only [Act.put, List.setIfInBounds_toArray, List.set_cons_zero, List.set_cons_succ]
    refine wpAnyH_take (i := 16) (oi := { dst := some 18, op := Op.nilCheck (Operand.tmp 2), type := 0, pos := "l4_greedy.go:35", after := #[{ on := 0, ground := Ground.data }, { on := 0, ground := Ground.phase }, { on := 1, ground := Ground.phase }, { on := 2, ground := Ground.phase }, { on := 3, ground := Ground.phase }, { on := 4, ground := Ground.phase }, { on := 5, ground := Ground.phase }, { on := 6, ground := Ground.phase }, { on := 7, ground := Ground.phase }, { on := 8, ground := Ground.phase }, { on := 9, ground := Ground.phase }, { on := 10, ground := Ground.phase }, { on := 11, ground := Ground.phase }, { on := 12, ground := Ground.phase }, { on := 13, ground := Ground.phase }, { on := 14, ground := Ground.phase }, { on := 15, ground := Ground.phase }], guard := none }) (v := ?_) rfl (by kernel_rfl) (by kernel_rfl) (by kernel_rfl) (fun _ _ _ h => h) (Or.inl ⟨by rfl, ?_⟩) (by assumption) ?_
    rotate_left
    · (intro w hSw; (try dsimp only at hSw); (go_simp <;> with_reducible rfl))
    try simp only [Act.put, List.setIfInBounds_toArray, List.set_cons_zero, List.set_cons_succ]
    refine wpAnyH_take (i := 17) (oi := { dst := some 19, op := Op.fieldAddr 84 (Operand.tmp 18) 1, type := 0, pos := "l4_greedy.go:35", after := #[{ on := 16, ground := Ground.data }, { on := 0, ground := Ground.phase }, { on := 1, ground := Ground.phase }, { on := 2, ground := Ground.phase }, { on := 3, ground := Ground.phase }, { on := 4, ground := Ground.phase }, { on := 5, ground := Ground.phase }, { on := 6, ground := Ground.phase }, { on := 7, ground := Ground.phase }, { on := 8, ground := Ground.phase }, { on := 9, ground := Ground.phase }, { on := 10, ground := Ground.phase }, { on := 11, ground := Ground.phase }, { on := 12, ground := Ground.phase }, { on := 13, ground := Ground.phase }, { on := 14, ground := Ground.phase }, { on := 15, ground := Ground.phase }], guard := none }) (v := ?_) rfl (by kernel_rfl) (by kernel_rfl) (by kernel_rfl) (fun _ _ _ h => h) (Or.inl ⟨by rfl, ?_⟩) (by assumption) ?_
    rotate_left
    · (intro w hSw; (try dsimp only at hSw); (go_simp <;> with_reducible rfl))
    try simp only [Act.put, List.setIfInBounds_toArray, List.set_cons_zero, List.set_cons_succ]
    refine wpAnyH_ready (rs := [18]) (by kernel_rfl) (by simp) ?_
    refine AllReadyH.cons (o := { dst := none, op := Op.store 31 (Operand.tmp 19) (Operand.tmp 17), type := 0, pos := "l4_greedy.go:35", after := #[{ on := 17, ground := Ground.data }, { on := 15, ground := Ground.data }, { on := 15, ground := Ground.chain }, { on := 0, ground := Ground.phase }, { on := 1, ground := Ground.phase }, { on := 2, ground := Ground.phase }, { on := 3, ground := Ground.phase }, { on := 4, ground := Ground.phase }, { on := 5, ground := Ground.phase }, { on := 6, ground := Ground.phase }, { on := 7, ground := Ground.phase }, { on := 8, ground := Ground.phase }, { on := 9, ground := Ground.phase }, { on := 10, ground := Ground.phase }, { on := 11, ground := Ground.phase }, { on := 12, ground := Ground.phase }, { on := 13, ground := Ground.phase }, { on := 14, ground := Ground.phase }, { on := 15, ground := Ground.phase }], guard := none }) rfl (fun K hK => ?_) AllReadyH.nil
    go_simp
    refine hK.out _ _ ?_ (fun hHeld18 => ?_)
    · exact k4 _
    clear hK K hHeld15
    try simp only [Act.put, List.setIfInBounds_toArray, List.set_cons_zero, List.set_cons_succ]
    refine wpAnyH_done (by kernel_rfl) ?_ _
    have hset := HSET.out (by rw [List.length_append, HN.out]; rfl)
    have hb3 := (H1.out.2.trans H3.out).setCell (p := ⟨b, 1, none⟩) hBb (.slice (some ⟨g, 0, none⟩) (n + 1) cap)
    have hk3 := (HK1.out.trans HK3.out).trans (kept_set _ b 1 _ (.slice (some ⟨g, 0, none⟩) (n + 1) cap))
    obtain ⟨W3, hW3⟩ : ∃ W, w3.setCell ⟨b, 1, none⟩ (.slice (some ⟨g, 0, none⟩) (n + 1) cap) = W := ⟨_, rfl⟩
    rw [hW3] at hset hb3 hk3 ⊢
    have HR := Lib.hid (reset B b _ _ W3 hset.hold)
    have H4 := Lib.hid (And.intro hset hb3)
    have HK4 := Lib.hid hk3
    clear hset hb3 hk3 hW3 k2 k3 k4 kz
    go_wp2_with fail
    refine HR.out.mono ?_
    rintro e4 w4 ⟨rfl, hw4⟩
    go_wp2_with fail
    go_end0
    refine ⟨rfl, ⟨_, H4.out.1.wrote (t := ⟨#[]⟩) hw4 rfl⟩, ((Below.refl B w).drew.trans H4.out.2).trans hw4.2.1, ((kept_ext (w' := w.drew) (Below.refl _ _).drew).trans HK4.out).trans (kept_others hw4.2.2 (by decide))⟩
  refine AllReadyH.cons (o := { dst := some 16, op := Op.buildSlice 31 1 #[(0, Operand.tmp 15)], type := 31, pos := "l4_greedy.go:35", after := #[{ on := 13, ground := Ground.data }], guard := none }) rfl (fun K hK => ?_) AllReadyH.nil
  have c2b := fun (ob : Obj) => ((Ext.refl w1).alloc ob |>.cell hbla).trans c2a
  have c3b := fun (ob : Obj) => ((Ext.refl w1).alloc ob |>.cell hbla).trans c3a
  go_simp
  refine hK.out _ _ ?_ (fun hHeld14 => ?_)
  · exact c3b _
  clear hK K hHeld12
  try simp only [Act.put, List.setIfInBounds_toArray, List.set_cons_zero, List.set_cons_succ]
  refine wpAnyH_ready (rs := [4]) (by kernel_rfl) (by simp) ?_
  refine AllReadyH.cons (o := { dst := some 6, op := Op.load 31 (Operand.tmp 5), type := 31, pos := "l4_greedy.go:35", after := #[{ on := 3, ground := Ground.data }], guard := none }) rfl (fun K hK => ?_) AllReadyH.nil
  go_simp
  refine hK.out _ _ ?_ (fun hHeld4 => ?_)
  · exact c3b _
  clear hK K hHeld14
  try simp only [Act.put, List.setIfInBounds_toArray, List.set_cons_zero, List.set_cons_succ]
  refine wpAnyH_ready (rs := [15]) (by kernel_rfl) (by simp) ?_
  refine AllReadyH.cons (o := { dst := some 17, op := Op.call { callee := Callee.builtin Builtin.append, args := #[Operand.tmp 6, Operand.tmp 16], argTypes := #[31, 31] }, type := 31, pos := "l4_greedy.go:35", after := #[{ on := 4, ground := Ground.data }, { on := 14, ground := Ground.data }, { on := 12, ground := Ground.chain }], guard := none }) rfl (fun K hK => ?_) AllReadyH.nil
  refine wp_append_lies _ (.tmp 6) (.tmp 16) 31 (by rfl) B 91 i0 z0 2 24 Try.underlying31 HI.out.1 HI.out.2.1 HI.out.2.2.1 HI.out.2.2.2.1 HI.out.2.2.2.2 (by omega) (.slice al n cl) n (cells2 R) (by rfl) (hown1.alloc _) ⟨w1.heap.size, 0, none⟩ 1 1 [.int .i64 ind, .string T] (by rfl) rfl (two_news w1 ind T _) (by simp [Value.oneCell']) (by omega) (by unfold maxLen; omega) (by omega) (by simp; omega) (w1.heap.size + 1) (by simp) ?_
  intro g cap w3 hown3 hgrow3 hat3 hlt3
  obtain ⟨k2, k3, k4, kz, hset⟩ := H1.out.1.append_row (cells2_snoc R ind T) hgrow3 hown3
  have HSET := Lib.hid hset
  have HK3 := Lib.hid (kept_append (ts := [5, 91]) (b := b) hgrow3 H1.out.1.rows (by decide))
  have H3 := Lib.hid (below_append hgrow3 H1.out.1.rows (Nat.le_trans hB H1.out.2.size))
  clear hset hgrow3 hown3 hat3
  refine hK.out _ _ ?_ (fun hHeld15 => ?_)
  · exact k3
  clear hK K hHeld4
  try simp only [Act.put, List.setIfInBounds_toArray, List.set_cons_zero, List.set_cons_succ]
  refine wpAnyH_take (i := 16) (oi := { dst := some 18, op := Op.nilCheck (Operand.tmp 2), type := 0, pos := "l4_greedy.go:35", after := #[{ on := 0, ground := Ground.data }, { on := 0, ground := Ground.phase }, { on := 1, ground := Ground.phase }, { on := 2, ground := Ground.phase }, { on := 3, ground := Ground.phase }, { on := 4, ground := Ground.phase }, { on := 5, ground := Ground.phase }, { on := 6, ground := Ground.phase }, { on := 7, ground := Ground.phase }, { on := 8, ground := Ground.phase }, { on := 9, ground := Ground.phase }, { on := 10, ground := Ground.phase }, { on := 11, ground := Ground.phase }, { on := 12, ground := Ground.phase }, { on := 13, ground := Ground.phase }, { on := 14, ground := Ground.phase }, { on := 15, ground := Ground.phase }], guard := none }) (v := ?_) rfl (by kernel_rfl) (by kernel_rfl) (by kernel_rfl) (fun _ _ _ h => h) (Or.inl ⟨by rfl, ?_⟩) (by assumption) ?_
  rotate_left
  · (intro w hSw; (try dsimp only at hSw); (go_simp <;> with_reducible rfl))
  try simp only [Act.put, List.setIfInBounds_toArray, List.set_cons_zero, List.set_cons_succ]
  refine wpAnyH_take (i := 17) (oi := { dst := some 19, op := Op.fieldAddr 84 (Operand.tmp 18) 1, type := 0, pos := "l4_greedy.go:35", after := #[{ on := 16, ground := Ground.data }, { on := 0, ground := Ground.phase }, { on := 1, ground := Ground.phase }, { on := 2, ground := Ground.phase }, { on := 3, ground := Ground.phase }, { on := 4, ground := Ground.phase }, { on := 5, ground := Ground.phase }, { on := 6, ground := Ground.phase }, { on := 7, ground := Ground.phase }, { on := 8, ground := Ground.phase }, { on := 9, ground := Ground.phase }, { on := 10, ground := Ground.phase }, { on := 11, ground := Ground.phase }, { on := 12, ground := Ground.phase }, { on := 13, ground := Ground.phase }, { on := 14, ground := Ground.phase }, { on := 15, ground := Ground.phase }], guard := none }) (v := ?_) rfl (by kernel_rfl) (by kernel_rfl) (by kernel_rfl) (fun _ _ _ h => h) (Or.inl ⟨by rfl, ?_⟩) (by assumption) ?_
  rotate_left
  · (intro w hSw; (try dsimp only at hSw); (go_simp <;> with_reducible rfl))
  try simp only [Act.put, List.setIfInBounds_toArray, List.set_cons_zero, List.set_cons_succ]
  refine wpAnyH_ready (rs := [18]) (by kernel_rfl) (by simp) ?_
  refine AllReadyH.cons (o := { dst := none, op := Op.store 31 (Operand.tmp 19) (Operand.tmp 17), type := 0, pos := "l4_greedy.go:35", after := #[{ on := 17, ground := Ground.data }, { on := 15, ground := Ground.data }, { on := 15, ground := Ground.chain }, { on := 0, ground := Ground.phase }, { on := 1, ground := Ground.phase }, { on := 2, ground := Ground.phase }, { on := 3, ground := Ground.phase }, { on := 4, ground := Ground.phase }, { on := 5, ground := Ground.phase }, { on := 6, ground := Ground.phase }, { on := 7, ground := Ground.phase }, { on := 8, ground := Ground.phase }, { on := 9, ground := Ground.phase }, { on := 10, ground := Ground.phase }, { on := 11, ground := Ground.phase }, { on := 12, ground := Ground.phase }, { on := 13, ground := Ground.phase }, { on := 14, ground := Ground.phase }, { on := 15, ground := Ground.phase }], guard := none }) rfl (fun K hK => ?_) AllReadyH.nil
  go_simp
  refine hK.out _ _ ?_ (fun hHeld18 => ?_)
  · exact k4 _
  clear hK K hHeld15
  try simp only [Act.put, List.setIfInBounds_toArray, List.set_cons_zero, List.set_cons_succ]
  refine wpAnyH_done (by kernel_rfl) ?_ _
  have hset := HSET.out (by rw [List.length_append, HN.out]; rfl)
  have hb3 := (H1.out.2.trans H3.out).setCell (p := ⟨b, 1, none⟩) hBb (.slice (some ⟨g, 0, none⟩) (n + 1) cap)
  have hk3 := (HK1.out.trans HK3.out).trans (kept_set _ b 1 _ (.slice (some ⟨g, 0, none⟩) (n + 1) cap))
  obtain ⟨W3, hW3⟩ : ∃ W, w3.setCell ⟨b, 1, none⟩ (.slice (some ⟨g, 0, none⟩) (n + 1) cap) = W := ⟨_, rfl⟩
  rw [hW3] at hset hb3 hk3 ⊢
  have HR := Lib.hid (reset B b _ _ W3 hset.hold)
  have H4 := Lib.hid (And.intro hset hb3)
  have HK4 := Lib.hid hk3
  clear hset hb3 hk3 hW3 k2 k3 k4 kz
  go_wp2_with fail
  refine HR.out.mono ?_
  rintro e4 w4 ⟨rfl, hw4⟩
  go_wp2_with fail
  go_end0
  refine ⟨rfl, ⟨_, H4.out.1.wrote (t := ⟨#[]⟩) hw4 rfl⟩, ((Below.refl B w).drew.trans H4.out.2).trans hw4.2.1, ((kept_ext (w' := w.drew) (Below.refl _ _).drew).trans HK4.out).trans (kept_others hw4.2.2 (by decide))⟩

end Go.Proofs.Ytcealfjkcbaelaa.StM

/-
  newLine and hasRoom of the program, at the page of a streamer.
-/
set_option linter.unusedVariables false
set_option linter.unusedSimpArgs false
namespace Go.Proofs.Ytcealfjkcbaelaa.StM
open Go.RowKit Go.Shelf P1 Cnt CntC Flat Wid ChP Rn Bwd BufS

theorem len_text (t : ByteArray) : t.data.toList.length = t.size := Array.length_toList
/-- a field that is a number is stored to -/
theorem RF.set_ind {w0 w : World} {B b : Nat} {W : Int} {its : List Int} {s : St} {fa fr fl fi fg : Value} (h : RF w0 B b W its s ⟨fa, fr, fl, fi, fg⟩ w) (i : Int) : RF w0 B b W its { s with ind := i } ⟨fa, fr, fl, .int .i64 i, fg⟩ (w.setCell ⟨b, 2, none⟩ (.int .i64 i)) :=
  h.set (row := none) ⟨rfl, rfl, rfl, Nat.le_refl _, fun _ _ _ => rfl⟩ (by simp) 2 (.int .i64 i) ⟨fa, fr, fl, .int .i64 i, fg⟩ (fun p v => rfl) its { s with ind := i } rfl h.rest h.rows h.flags rfl h.wid

set_option maxRecDepth 100000 in
set_option maxHeartbeats 3200000 in
theorem newLine {w0 w : World} {B b : Nat} {W : Int} {its : List Int} {s : St} (hB : B ≤ w.heap.size) (h : RS w0 B b W its s w) (hn : s.rows.length ≤ 1000000) (i : Int) :
    Calls Try.prog 113 #[.pointer (some ⟨b, 0, none⟩), .int .i64 i] w fun e w' => e = .returned (.tuple #[]) ∧ RS w0 B b W its (s.line i) w' ∧ Below B w w' ∧ KeptBut [5, 91] b w w' := by
  have hBb : B ≤ b := by obtain ⟨F, hF⟩ := h; exact hF.cells.2.2.2.2.2.2.2
  have HEL := Lib.hid (endLine hB h hn)
  have HB := Lib.hid hBb
  clear h hBb
  go_enter Try.func113, Try.ntmps113
  go_wp2_with fail
  refine HEL.out.mono ?_
  rintro e2 w2 ⟨rfl, ⟨⟨fa, fr, fl, fi, fg⟩, hF2⟩, hb2, hk2⟩
  obtain ⟨_, _, _, c3, _, fz, _, _⟩ := hF2.cells
  have f3 := fz 2
  have H2 := Lib.hid (And.intro hF2 (And.intro hb2 hk2))
  clear hF2 hb2 hk2 fz
  go_wp2_with fail
  go_end0
  exact ⟨rfl, ⟨⟨fa, fr, fl, .int .i64 i, fg⟩, H2.out.1.set_ind i⟩, H2.out.2.1.setCell (p := ⟨b, 2, none⟩) HB.out _, H2.out.2.2.trans (kept_set _ b 2 _ _)⟩

set_option maxRecDepth 100000 in
set_option maxHeartbeats 3200000 in
theorem hasRoom {w0 w : World} {B b : Nat} {W : Int} {its : List Int} {s : St} {F : Fs} (h : RF w0 B b W its s F w) (hi0 : 0 ≤ s.ind) (hi1 : s.ind ≤ 1000000) (ht : s.txt.size ≤ 4194304) (z : Int) (hz0 : 0 ≤ z) (hz1 : z ≤ 100000000) :
    Calls Try.prog 114 #[.pointer (some ⟨b, 0, none⟩), .int .i64 z] w fun e w' => e = .returned (.bool (decide (s.ind + (s.txt.size : Int) + z ≤ W))) ∧ w' = w.drew := by
  have hFd : RF w0 B b W its s F w.drew := h.below (Below.refl _ _).drew
  have HLEN := Lib.hid (len B b _ _ w.drew hFd.hold)
  simp only [len_text] at HLEN
  obtain ⟨c0, _, _, c3, _, _, hbl, _⟩ := hFd.cells
  obtain ⟨ind, hind⟩ : ∃ i, s.ind = i := ⟨_, rfl⟩
  obtain ⟨X, hX⟩ : ∃ t, s.txt = t := ⟨_, rfl⟩
  rw [hind] at hi0 hi1 c3 ⊢
  rw [hX] at ht HLEN ⊢
  clear h hFd hind hX
  go_enter Try.func114, Try.ntmps114
  go_wp2_with fail
  go_region_held3 (fun w' => w'.cell? ⟨b, 0, none⟩ = some (.int .i64 W) ∧ w'.cell? ⟨b, 2, none⟩ = some (.int .i64 ind))
    (first | go_keep | exact ⟨c0, c3⟩)
    (first | (go_at_call 141; refine HLEN.out.mono ?_; rintro e2 w2 ⟨rfl, rfl⟩))
  go_wp2_with fail
  go_ret
  refine ⟨?_, rfl⟩
  show Ending.returned (Value.bool (decide (IntKind.i64.wrap (IntKind.i64.wrap (ind + (X.size : Int)) + z) ≤ W))) = _
  rw [show IntKind.i64.wrap (ind + (X.size : Int)) = ind + (X.size : Int) by rw [IntKind.wrap_i64]; omega, show IntKind.i64.wrap (ind + (X.size : Int) + z) = ind + (X.size : Int) + z by rw [IntKind.wrap_i64]; omega]

end Go.Proofs.Ytcealfjkcbaelaa.StM

