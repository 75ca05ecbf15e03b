import Derived.Test.YtjcaiecapapceaaGreatFl
import Derived.Lib.FrozenHead2
/-
 What the methods of strings.Builder do at a builder that is a field of a renderer, by the bytes that it holds.
-/
set_option linter.unusedVariables false
set_option linter.unusedSimpArgs false
set_option maxRecDepth 100000
set_option maxHeartbeats 2000000
namespace Go.Proofs.YtjcaiecapapceaaGreat.BufQ
open Go.RowKit Go.Shelf P1
structure Fs where
 a : Value
 r : Value
 l : Value
 i : Value
 g : Value
def cs (F : Fs) (p v : Value) : Array Value := #[F.a, F.l, F.i, p, v, F.r, F.g]
abbrev self (b : Nat) : Value := .pointer (some ⟨b, 3, none⟩)
def At (B b : Nat) (F : Fs) (p : Value) (bs : List Value) (w : World) : Prop := B ≤ b ∧ ∃ v, w.heap[b]? = some (.cells (cs F p v) 61 (0, 0)) ∧ w.ownsRowF B 5 1 v bs.length bs ∧ v.ownBlock ≠ some b ∧ (bs = [] → v = .slice none 0 0)
def Holds (B b : Nat) (F : Fs) (l : List UInt8) (w : World) : Prop := At B b F (.pointer none) (Lib.byteCells l) w ∨ At B b F (self b) (Lib.byteCells l) w
def Wrote (B b : Nat) (F : Fs) (l : List UInt8) (w w' : World) : Prop := Holds B b F l w' ∧ Below B w w' ∧ Lib.OthersKept 5 (some b) w w'
theorem At.lt {B b : Nat} {F : Fs} {p : Value} {bs : List Value} {w : World} (h : At B b F p bs w) : b < w.heap.size := by
 obtain ⟨_, v, hb, _⟩ := h
 exact (Array.getElem?_eq_some_iff.1 hb).1
theorem Holds.lt {B b : Nat} {F : Fs} {l : List UInt8} {w : World} (h : Holds B b F l w) : b < w.heap.size := h.elim At.lt At.lt
theorem At.cell {B b : Nat} {F : Fs} {p : Value} {bs : List Value} {w : World} (h : At B b F p bs w) : ∃ v, w.cell? ⟨b, 0, none⟩ = some F.a ∧ w.cell? ⟨b, 5, none⟩ = some F.r ∧ w.cell? ⟨b, 1, none⟩ = some F.l ∧ w.cell? ⟨b, 2, none⟩ = some F.i ∧ w.cell? ⟨b, 3, none⟩ = some p ∧ w.cell? ⟨b, 4, none⟩ = some v ∧ w.cell? ⟨b, 6, none⟩ = some F.g := by
 obtain ⟨_, v, hb, _⟩ := h
 refine ⟨v, ?_, ?_, ?_, ?_, ?_, ?_, ?_⟩ <;> (simp only [World.cell?, hb, cs]; rfl)
theorem heap_frozen {w : World} {b : Nat} {c : Array Value} {T : TypeId} (hb : w.heap[b]? = some (.cells c T (0, 0))) (o : Nat) : w.frozen? ⟨b, o, none⟩ = false := Lib.frozen_of_heap hb o
theorem heap_set {w : World} {b : Nat} {c : Array Value} {T : TypeId} {z : Nat × Nat} (hb : w.heap[b]? = some (.cells c T z)) (o : Nat) (u : Value) : (w.setCell ⟨b, o, none⟩ u).heap[b]? = some (.cells (c.setIfInBounds o u) T z) := by
 simp [World.setCell, Array.getElem?_modify, hb]
theorem owns_set {w : World} {B b : Nat} {e : TypeId} {v : Value} {n : Nat} {xs : List Value} (h : w.ownsRowF B e 1 v n xs) (hne : v.ownBlock ≠ some b) (o : Nat) (u : Value) : (w.setCell ⟨b, o, none⟩ u).ownsRowF B e 1 v n xs :=
 h.kept (row := some b) ⟨rfl, rfl, rfl, by simp [World.setCell], fun k _ hk => Below.heap_setCell _ _ _ _ (fun e => hk (by simp [e]))⟩ (Or.inr hne)
theorem At.put {B b : Nat} {F : Fs} {p : Value} {bs : List Value} {w : World} (h : At B b F p bs w) (o : Nat) (u : Value) (F' : Fs) (p' : Value) (hc : ∀ v, (cs F p v).setIfInBounds o u = cs F' p' v) : At B b F' p' bs (w.setCell ⟨b, o, none⟩ u) := by
 obtain ⟨hB, v, hb, hown, hne, hnn⟩ := h
 exact ⟨hB, v, by rw [heap_set hb, hc], owns_set hown hne o u, hne, hnn⟩
theorem Holds.put {B b : Nat} {F : Fs} {l : List UInt8} {w : World} (h : Holds B b F l w) (o : Nat) (u : Value) (F' : Fs) (hc : ∀ p v, (cs F p v).setIfInBounds o u = cs F' p v) : Holds B b F' l (w.setCell ⟨b, o, none⟩ u) :=
 h.elim (fun x => .inl (x.put o u F' _ (hc _))) (fun x => .inr (x.put o u F' _ (hc _)))
theorem own_ne {w : World} {B : Nat} {e T : TypeId} {v : Value} {n : Nat} {xs : List Value} {b : Nat} {c : Array Value} {fr : Nat × Nat} (hown : w.ownsRowF B e 1 v n xs) (hb : w.heap[b]? = some (.cells c T fr)) (hTe : T ≠ e) : v.ownBlock ≠ some b := Lib.ownBlock_neF hown hb hTe
theorem ne_byte : 61 ≠ 5 := by decide
theorem At.grown {B b : Nat} {F : Fs} {p : Value} {bs : List Value} {w w' : World} (h : At B b F p bs w) {row : Option Nat} (hg : w.grownBy w' row) (hr : row ≠ some b) (hk : ∀ g, row = some g → ∃ c T fz, w.heap[g]? = some (.cells c T fz) ∧ T ≠ 5) : At B b F p bs w' := by
 have hlt := h.lt
 obtain ⟨hB, v, hb, hown, hne, hnn⟩ := h
 refine ⟨hB, v, (hg.block b hlt (fun e => hr e.symm)).trans hb, hown.kept hg ?_, hne, hnn⟩
 cases hv : v.ownBlock with
 | none => exact .inl rfl
 | some g =>
   refine .inr fun e => ?_
   obtain ⟨c, T, fz, hc, hT⟩ := hk g e.symm
   exact own_ne hown hc hT hv
theorem Holds.grown {B b : Nat} {F : Fs} {l : List UInt8} {w w' : World} (h : Holds B b F l w) {row : Option Nat} (hg : w.grownBy w' row) (hr : row ≠ some b) (hk : ∀ g, row = some g → ∃ c T fz, w.heap[g]? = some (.cells c T fz) ∧ T ≠ 5) : Holds B b F l w' :=
 h.elim (fun x => .inl (x.grown hg hr hk)) (fun x => .inr (x.grown hg hr hk))
theorem grown_below {w w' : World} (k : Below w.heap.size w w') : w.grownBy w' none := ⟨k.os, k.tape, k.output, k.size, fun i hi _ => k.block i hi⟩
theorem Holds.below {B b : Nat} {F : Fs} {l : List UInt8} {w w' : World} (h : Holds B b F l w) (k : Below w.heap.size w w') : Holds B b F l w' := h.grown (grown_below k) (by simp) (by simp)
theorem Holds.alloc {B b : Nat} {F : Fs} {l : List UInt8} {w : World} (h : Holds B b F l w) (o : Obj) : Holds B b F l (w.alloc o) := h.below ((Below.refl _ _).alloc (Nat.le_refl _) o)
theorem Wrote.refl {B b : Nat} {F : Fs} {l : List UInt8} {w : World} (h : Holds B b F l w) : Wrote B b F l w w := ⟨h, Below.refl _ _, Lib.OthersKept.refl _ _ _⟩
theorem Wrote.trans {B b : Nat} {F F' : Fs} {l l' : List UInt8} {w w1 w2 : World} (h : Wrote B b F l w w1) (k : Wrote B b F' l' w1 w2) : Wrote B b F' l' w w2 := ⟨k.1, h.2.1.trans k.2.1, h.2.2.trans k.2.2⟩
theorem Wrote.below {B b : Nat} {F : Fs} {l : List UInt8} {w w1 w2 : World} (h : Wrote B b F l w w1) (hB : B ≤ w.heap.size) (k : Below w1.heap.size w1 w2) : Wrote B b F l w w2 :=
 ⟨h.1.below k, h.2.1.trans (k.mono (Nat.le_trans hB h.2.1.size)), fun i o hi hb ho => by
  have h1 := h.2.2 i o hi hb ho
  exact (k.block i (Array.getElem?_eq_some_iff.1 h1).1).trans h1⟩
theorem Wrote.alloc {B b : Nat} {F : Fs} {l : List UInt8} {w : World} (h : Holds B b F l w) (hB : B ≤ w.heap.size) (o : Obj) : Wrote B b F l w (w.alloc o) :=
 (Wrote.refl h).below hB ((Below.refl _ _).alloc (Nat.le_refl _) _)
theorem Wrote.cell {B b : Nat} {F : Fs} {l : List UInt8} {w w' : World} (h : Wrote B b F l w w') {k o : Nat} {c : Array Value} {T : TypeId} {fz : Nat × Nat} (hk : w.heap[k]? = some (.cells c T fz)) (hT : T ≠ 5) (hb : k ≠ b) : w'.cell? ⟨k, o, none⟩ = w.cell? ⟨k, o, none⟩ :=
 World.cell?_of_block (w := w) ((h.2.2 k _ hk (by simpa using hb) (fun c' fz' e => hT (by cases e; rfl))).trans hk.symm)
theorem infoB : (Tryz.prog.info? 55).map (·.size) = some 2 := by kernel_rfl
theorem liesB : liesAt Tryz.prog Tryz.prog.depth 61 (7 / Tryz.prog.cellsOf 61) 3 55 1 = true := by kernel_rfl
theorem infoU : (Tryz.prog.info? 5).map (fun i => (i.zero, i.size, i.bytes)) = some (some (.int .u8 0), 1, 1) := by kernel_rfl
theorem cellsU : Tryz.prog.cellsOf 5 = 1 := by kernel_rfl
theorem copyCheck_used (b : Nat) (w : World) (h0 : w.cell? ⟨b, 3, none⟩ = some (self b)) :
  Calls Tryz.prog 97 #[self b] w fun e w' => e = .returned (.tuple #[]) ∧ w' = w := by
 obtain ⟨j, hj, _⟩ := Option.map_eq_some_iff.1 infoB
 go_enter Tryz.func97, Tryz.ntmps97
 go_wp2
 rw [Lib.run_neq_ptr_same w _ Tryz.underlying53 hj]
 go_wp2
 go_end0
 exact ⟨rfl, rfl⟩
theorem copyCheck_fresh (b : Nat) (w : World) (c : Array Value) (hc : c.size = 7) (hb : w.heap[b]? = some (.cells c 61 (0, 0))) (h0 : w.cell? ⟨b, 3, none⟩ = some (.pointer none)) :
  Calls Tryz.prog 97 #[self b] w fun e w' => e = .returned (.tuple #[]) ∧ w' = w.setCell ⟨b, 3, none⟩ (self b) := by
 obtain ⟨j, hj, hjs⟩ := Option.map_eq_some_iff.1 infoB
 have hsh : w.shape? b = some (61, 7) := by simp [World.shape?, hb, hc]
 have hfz : w.frozen? ⟨b, 3, none⟩ = false := heap_frozen hb 3
 go_enter Tryz.func97, Tryz.ntmps97
 go_wp2
 rw [Lib.run_to_unsafe w ⟨b, 3, none⟩ Tryz.underlying53 Tryz.underlying164 hj (by rw [hjs]; decide) hsh (by show 3 < 7; omega)]
 simp only [Result.andThen]
 rw [Oper.upon_value]
 go_wp2
 rw [run_callFunc_extern Tryz.func141 (by kernel_rfl) (by kernel_rfl) (by kernel_rfl) (e := Extern.AbiNoEscape.same) (by kernel_rfl)]
 rw [Lib.run_noEscape]
 simp only [Result.andThen]
 rw [Oper.upon_value]
 go_wp2
 rw [Lib.run_from_unsafe w ⟨b, 3, none⟩ Tryz.underlying164 Tryz.underlying53 hj hsh liesB]
 simp only [Result.andThen]
 rw [Oper.upon_value]
 go_wp2
 go_end0
 exact ⟨rfl, rfl⟩
theorem copyCheck (B b : Nat) (F : Fs) (bs : List Value) (w : World) (h : At B b F (.pointer none) bs w ∨ At B b F (self b) bs w) :
  Calls Tryz.prog 97 #[self b] w fun e w' => e = .returned (.tuple #[]) ∧ (At B b F (self b) bs w' ∧ Below B w w' ∧ Lib.OthersKept 5 (some b) w w') := by
 rcases h with h | h
 ·have h2 := h
  obtain ⟨hB, v, hb, hown, hne, hnn⟩ := h2
  obtain ⟨v', _, _, _, _, c4, _⟩ := h.cell
  refine (copyCheck_fresh b w _ rfl hb c4).mono ?_
  rintro e w' ⟨rfl, rfl⟩
  exact ⟨rfl, h.put 3 _ F _ (fun v => rfl), (Below.refl B w).setCell (p := ⟨b, 3, none⟩) hB _, (Lib.OthersKept.refl _ _ w).setCell ⟨b, 3, none⟩ rfl _⟩
 ·obtain ⟨v', _, _, _, _, c4, _⟩ := h.cell
  refine (copyCheck_used b w c4).mono ?_
  rintro e w' ⟨rfl, rfl⟩
  exact ⟨rfl, h, Below.refl B _, Lib.OthersKept.refl _ _ _⟩
theorem writeString (B b : Nat) (F : Fs) (l : List UInt8) (s : ByteArray) (w : World) (h : Holds B b F l w) (hl : l.length ≤ 100000000) (hs : s.size ≤ 100000000) (hB : B ≤ w.heap.size) :
  Calls Tryz.prog 98 #[self b, .string s] w fun e w' => e = .returned (.tuple #[.int .i64 s.size, .nilIface]) ∧ Wrote B b F (l ++ s.data.toList) w w' := by
 obtain ⟨i0, hi, hz0, hz1, hz2⟩ := info_parts infoU
 have HC := Lib.hid (copyCheck B b F (Lib.byteCells l) w h)
 have hl2 : (Lib.byteCells l).length = l.length := Lib.byteCells_length l
 clear h
 go_enter Tryz.func98, Tryz.ntmps98
 go_wp2_with fail
 refine HC.out.mono ?_
 rintro e w1 ⟨rfl, hh1⟩
 obtain ⟨h1, hb1, hk1⟩ := hh1
 obtain ⟨v, d0, d1, d2, d3, c0, c1, d6⟩ := h1.cell
 have hlt := h1.lt
 obtain ⟨hBb, v', hbk, hown, hne, hnn⟩ := h1
 obtain rfl : v' = v := by
  have : w1.cell? ⟨b, 4, none⟩ = some v' := by simp only [World.cell?, hbk, cs]; rfl
  rw [c1] at this; injection this with e; exact e.symm
 clear d0 d1 d2 d3 d6
 go_wp2_with (at_builtin; refine Lib.wpList_append_own_stringF _ rfl _ _ 22 9 rfl B 5 i0 Tryz.underlying22 Tryz.underlying9 hi hz0 hz1 hz2 _ _ _ rfl hown s rfl ?c3 ?c4 ?c5 ?_)
 case c3 => unfold maxLen; omega
 case c4 => omega
 case c5 => have := hb1.size; omega
 intro v2 w2 hown' hgrow hnil
 have hb2 : w2.heap[b]? = some (.cells (cs F (self b) v') 61 (0, 0)) := by
  rw [hgrow.block b hlt (fun e => hne e.symm)]
  exact hbk
 have e0 : w2.cell? ⟨b, 3, none⟩ = some (self b) := by simp only [World.cell?, hb2, cs]; rfl
 have e1 : w2.cell? ⟨b, 4, none⟩ = some v' := by simp only [World.cell?, hb2, cs]; rfl
 have f1 : w2.frozen? ⟨b, 4, none⟩ = false := heap_frozen hb2 4
 obtain ⟨ao, n', cap, rfl⟩ : ∃ ao n' cap, v2 = .slice ao n' cap := by
  rcases hown'.2 with ⟨hv, _⟩ | ⟨g, cap, cur, fz, hv, _⟩
  ·exact ⟨_, _, _, hv⟩
  ·exact ⟨_, _, _, hv⟩
 have HNN := Lib.hid (And.intro hnil hnn)
 clear hnil hnn
 go_wp2
 go_ret2
 have hne2 := own_ne hown' hb2 ne_byte
 have hown3 : w2.ownsRowF B 5 1 (.slice ao n' cap) (Lib.byteCells (l ++ s.data.toList)).length (Lib.byteCells (l ++ s.data.toList)) := by
  have e : Lib.byteCells (l ++ s.data.toList) = Lib.byteCells l ++ Lib.strCells s := by rw [Lib.byteCells_append]; rfl
  rw [e, List.length_append, Lib.strCells_length, Lib.byteCells_length]; exact hown'
 have hn3 : Lib.byteCells (l ++ s.data.toList) = [] → (Value.slice ao n' cap) = .slice none 0 0 := by
  intro e
  have e1 : (l ++ s.data.toList).length = 0 := by rw [← Lib.byteCells_length, e]; rfl
  rw [List.length_append] at e1
  have e2 : s.size = 0 := by have : s.data.toList.length = s.size := Array.length_toList; omega
  have e3 : l = [] := List.length_eq_zero_iff.1 (by omega)
  exact HNN.out.1.2 ⟨HNN.out.2 (by rw [e3]; rfl), by first | exact e2 | exact ByteArray.size_eq_zero_iff.1 e2⟩
 exact ⟨rfl, .inr ⟨hBb, _, by rw [heap_set hb2]; rfl, owns_set hown3 hne2 4 _, hne2, hn3⟩, (hb1.grown hgrow (by have := hb1.size; omega) (fun k hk => (hown.lt k hk).1)).setCell (p := ⟨b, 4, none⟩) hBb _, (hk1.grown hgrow (Lib.ownsRowF_kind hown)).setCell ⟨b, 4, none⟩ rfl _⟩
theorem writeByte (B b : Nat) (F : Fs) (l : List UInt8) (c : UInt8) (x : Int) (hv : Lib.byteCells [c] = [.int .u8 x]) (w : World) (h : Holds B b F l w) (hl : l.length ≤ 100000000) (hB : B ≤ w.heap.size) :
  Calls Tryz.prog 49 #[self b, .int .u8 x] w fun e w' => e = .returned .nilIface ∧ Wrote B b F (l ++ [c]) w w' := by
 obtain ⟨i0, hi, hz0, hz1, hz2⟩ := info_parts infoU
 have HC := Lib.hid (copyCheck B b F (Lib.byteCells l) w h)
 have hl2 : (Lib.byteCells l).length = l.length := Lib.byteCells_length l
 clear h
 go_enter Tryz.func49, Tryz.ntmps49
 go_wp2_with (go_at_call 97; refine HC.out.mono ?_)
 rintro e w1 ⟨rfl, hh1⟩
 obtain ⟨h1, hb1, hk1⟩ := hh1
 obtain ⟨v, d0, d1, d2, d3, c0, c1, d6⟩ := h1.cell
 have hlt := h1.lt
 obtain ⟨hBb, v', hbk, hown, hne, hnn⟩ := h1
 obtain rfl : v' = v := by
  have : w1.cell? ⟨b, 4, none⟩ = some v' := by simp only [World.cell?, hbk, cs]; rfl
  rw [c1] at this; injection this with e; exact e.symm
 clear d0 d1 d2 d3 d6
 go_wp2_with (at_builtin; refine wpList_append_ownF _ rfl _ _ 22 rfl B 5 i0 (.int .u8 0) 1 1 Tryz.underlying22 hi hz0 hz1 hz2 rfl (by decide) _ _ _ rfl (hown.alloc _) ⟨w1.heap.size, 0, none⟩ 1 1 [.int .u8 x] rfl rfl ?c1 ?c2 ?c3 ?c4 ?c5 ?_)
 case c1 =>
  intro j u hj
  match j, hj with
  | 0, hj => simp at hj; subst hj; simp [Addr.add]
 case c2 => intro u hu; simp at hu; subst hu; rfl
 case c3 => unfold maxLen; omega
 case c4 => omega
 case c5 => have := hb1.size; simp; omega
 intro v2 w2 hown' hgrow _
 have hb2 : w2.heap[b]? = some (.cells (cs F (self b) v') 61 (0, 0)) := by
  rw [hgrow.block b (by simp; omega) (fun e => hne e.symm), Lib.alloc_old w1 _ b hlt]
  exact hbk
 have e0 : w2.cell? ⟨b, 3, none⟩ = some (self b) := by simp only [World.cell?, hb2, cs]; rfl
 have e1 : w2.cell? ⟨b, 4, none⟩ = some v' := by simp only [World.cell?, hb2, cs]; rfl
 have f1 : w2.frozen? ⟨b, 4, none⟩ = false := heap_frozen hb2 4
 obtain ⟨ao, n', cap, rfl⟩ : ∃ ao n' cap, v2 = .slice ao n' cap := by
  rcases hown'.2 with ⟨hv, _⟩ | ⟨g, cap, cur, fz, hv, _⟩
  ·exact ⟨_, _, _, hv⟩
  ·exact ⟨_, _, _, hv⟩
 go_wp2
 go_ret
 have hne2 := own_ne hown' hb2 ne_byte
 have hown3 : w2.ownsRowF B 5 1 (.slice ao n' cap) (Lib.byteCells (l ++ [c])).length (Lib.byteCells (l ++ [c])) := by
  have e : Lib.byteCells (l ++ [c]) = Lib.byteCells l ++ [.int .u8 x] := by rw [Lib.byteCells_append, hv]
  rw [e, List.length_append, Lib.byteCells_length]; exact hown'
 exact ⟨rfl, .inr ⟨hBb, _, by rw [heap_set hb2]; rfl, owns_set hown3 hne2 4 _, hne2, fun e => by have e1 := congrArg List.length e; rw [Lib.byteCells_length] at e1; simp at e1⟩, ((hb1.alloc (by have := hb1.size; omega) _).grown hgrow (by have := hb1.size; simp; omega) (fun k hk => (hown.lt k hk).1)).setCell (p := ⟨b, 4, none⟩) hBb _, ((hk1.alloc _).grown hgrow (Lib.ownsRowF_kind (hown.alloc _))).setCell ⟨b, 4, none⟩ rfl _⟩
theorem len (B b : Nat) (F : Fs) (l : List UInt8) (w : World) (h : Holds B b F l w) :
  Calls Tryz.prog 145 #[self b] w fun e w' => e = .returned (.int .i64 l.length) ∧ w' = w := by
 obtain ⟨v, c5, n, hv, rfl⟩ : ∃ v, w.cell? ⟨b, 4, none⟩ = some v ∧ ∃ (a : Option Addr) (cap : Nat), v = .slice a l.length cap := by
  have q : ∀ p, At B b F p (Lib.byteCells l) w → ∃ v, w.cell? ⟨b, 4, none⟩ = some v ∧ ∃ (a : Option Addr) (cap : Nat), v = .slice a l.length cap := by
   rintro p ⟨_, v, hb, hown, _⟩
   refine ⟨v, by simp only [World.cell?, hb, cs]; rfl, ?_⟩
   rw [Lib.byteCells_length] at hown
   rcases hown.2 with ⟨hv, h0⟩ | ⟨g, cap, cur, fz, hv, _⟩
   ·rw [h0]; exact ⟨_, _, hv⟩
   ·exact ⟨_, _, hv⟩
  exact h.elim (q _) (q _)
 clear h
 go_enter Tryz.func145, Tryz.ntmps145
 go_wp2
 go_ret
 exact ⟨rfl, rfl⟩
theorem reset (B b : Nat) (F : Fs) (l : List UInt8) (w : World) (h : Holds B b F l w) :
  Calls Tryz.prog 134 #[self b] w fun e w' => e = .returned (.tuple #[]) ∧ Wrote B b F [] w w' := by
 have q : ∀ p, At B b F p (Lib.byteCells l) w → ∃ v p, B ≤ b ∧ w.heap[b]? = some (.cells (cs F p v) 61 (0, 0)) := by
  rintro p ⟨hB, v, hb, _⟩; exact ⟨v, p, hB, hb⟩
 obtain ⟨v, p, hB, hb⟩ := h.elim (q _) (q _)
 have hlt := (Array.getElem?_eq_some_iff.1 hb).1
 have e0 : w.cell? ⟨b, 3, none⟩ = some p := by simp only [World.cell?, hb, cs]; rfl
 have e1 : w.cell? ⟨b, 4, none⟩ = some v := by simp only [World.cell?, hb, cs]; rfl
 have f0 : w.frozen? ⟨b, 3, none⟩ = false := heap_frozen hb 3
 have f1 : w.frozen? ⟨b, 4, none⟩ = false := heap_frozen hb 4
 have HH := Lib.hid (And.intro hB hb)
 clear h hb hB q
 go_enter Tryz.func134, Tryz.ntmps134
 go_wp2
 go_end0
 obtain ⟨hB, hb⟩ := HH.out
 refine ⟨rfl, .inl ⟨hB, .slice none 0 0, by rw [heap_set (heap_set hb 3 _) 4 _]; rfl, World.ownsRowF_nil _ _ _ _, by simp [Value.ownBlock], fun _ => rfl⟩, ((Below.refl B w).setCell (p := ⟨b, 3, none⟩) hB _).setCell (p := ⟨b, 4, none⟩) hB _, ((Lib.OthersKept.refl _ _ w).setCell ⟨b, 3, none⟩ rfl _).setCell ⟨b, 4, none⟩ rfl _⟩
theorem Holds.at {B b : Nat} {F : Fs} {l : List UInt8} {w : World} (h : Holds B b F l w) : ∃ p, (p = .pointer none ∨ p = self b) ∧ At B b F p (Lib.byteCells l) w :=
 h.elim (fun x => ⟨_, .inl rfl, x⟩) (fun x => ⟨_, .inr rfl, x⟩)
theorem At.holds {B b : Nat} {F : Fs} {p : Value} {l : List UInt8} {w : World} (h : At B b F p (Lib.byteCells l) w) (hp : p = .pointer none ∨ p = self b) : Holds B b F l w := by
 rcases hp with rfl | rfl
 ·exact .inl h
 ·exact .inr h
theorem froze_other (w : World) (g n b : Nat) (h : g ≠ b) : (w.freeze ⟨g, 0, none⟩ n).heap[b]? = w.heap[b]? := by
 unfold World.freeze
 split
 ·rfl
 ·simp only [Array.getElem?_modify]; rw [if_neg h]
theorem froze_own {w : World} {B g cap n : Nat} {e : TypeId} {xs : List Value} (hown : w.ownsRowF B e 1 (.slice (some ⟨g, 0, none⟩) n cap) n xs) : (w.freeze ⟨g, 0, none⟩ n).ownsRowF B e 1 (.slice (some ⟨g, 0, none⟩) n cap) n xs := by
 obtain ⟨h1, h2⟩ := hown
 refine ⟨h1, ?_⟩
 rcases h2 with h2 | ⟨g2, c2, cur, fz, h2, h3, h4, h5, rest⟩
 ·exact absurd h2.1 (by simp)
 ·injection h2 with q1 q2 q3
  injection q1 with q1
  injection q1 with q1
  subst q1 q3
  unfold World.freeze
  split
  ·exact .inr ⟨g, _, cur, fz, rfl, h3, h4, h5, rest⟩
  ·obtain ⟨lo, hi⟩ := fz
   refine .inr ⟨g, _, cur, (if lo == hi then (0, 0 + n) else (min lo 0, max hi (0 + n))), rfl, h3, by simp [Array.getElem?_modify, h4], ?_, rest⟩
   simp only at h5
   split <;> simp <;> omega
theorem string_nil (B b : Nat) (F : Fs) (w : World) (h : Holds B b F [] w) :
  Calls Tryz.prog 51 #[self b] w fun e w' => e = .returned (.string ⟨#[]⟩) ∧ Wrote B b F [] w w' := by
 obtain ⟨p, hp, hA⟩ := h.at
 have c1 : w.cell? ⟨b, 4, none⟩ = some (.slice none 0 0) := by
  obtain ⟨_, v, hb, _, _, hnn⟩ := hA
  obtain rfl := hnn rfl
  simp only [World.cell?, hb, cs]; rfl
 have hSD : ∀ W : World, (Builtin.unsafeSliceData_ #[22] 130 #[.slice none 0 0]).run Tryz.prog W = .ok (.pointer none) W := fun _ => rfl
 have hUS := fun (W : World) => Lib.run_unsafeString_none (P := Tryz.prog) W 130 3 9 none
 have HH := Lib.hid h
 clear h hA hp
 go_enter Tryz.func51, Tryz.ntmps51
 go_wp2
 go_region
 all_goals (go_wp2; go_ret; exact ⟨rfl, HH.out, Below.drew (Below.refl B w), (Lib.OthersKept.refl _ _ w).drew⟩)
theorem string_some (B b : Nat) (F : Fs) (l : List UInt8) (h0 : l ≠ []) (w : World) (h : Holds B b F l w) :
  Calls Tryz.prog 51 #[self b] w fun e w' => e = .returned (.string ⟨l.toArray⟩) ∧ Wrote B b F l w w' := by
 obtain ⟨p, hp, hA⟩ := h.at
 obtain ⟨i0, hi, hz0, hz1, hz2⟩ := info_parts infoU
 obtain ⟨hB, v, hbk, hown, hne, hnn⟩ := hA
 have hl0 : l.length ≠ 0 := by simpa using h0
 rw [Lib.byteCells_length] at hown
 obtain ⟨g, cap, cur, fz, rfl, hbg, hg, hfz, hnc, hcm, hcs, htake⟩ : ∃ g cap cur fz, v = .slice (some ⟨g, 0, none⟩) l.length cap ∧ B ≤ g ∧ w.heap[g]? = some (.cells cur 5 fz) ∧ fz.2 ≤ l.length * 1 ∧ l.length ≤ cap ∧ cap ≤ maxLen ∧ cur.size = cap * 1 ∧ cur.toList.take (l.length * 1) = Lib.byteCells l := by
  rcases hown.2 with ⟨_, hz⟩ | ⟨g, cap, cur, fz, hv, r⟩
  ·exact absurd hz hl0
  ·exact ⟨g, cap, cur, fz, hv, r⟩
 have c1 : w.cell? ⟨b, 4, none⟩ = some (.slice (some ⟨g, 0, none⟩) l.length cap) := by simp only [World.cell?, hbk, cs]; rfl
 have hSD : (Builtin.unsafeSliceData_ #[22] 130 #[.slice (some ⟨g, 0, none⟩) l.length cap]).run Tryz.prog w.drew = .ok (.pointer (some ⟨g, 0, none⟩)) w.drew :=
  Lib.run_unsafeSliceData_row _ _ _ _ _ _ (by omega)
 have hUS : (Builtin.unsafeString_ #[130, 3] 9 #[.pointer (some ⟨g, 0, none⟩), .int .i64 l.length]).run Tryz.prog w.drew = .ok (.string ⟨l.toArray⟩) (w.drew.freeze ⟨g, 0, none⟩ l.length) := by
  refine Lib.run_unsafeString_row w.drew 130 3 9 5 Tryz.underlying130 cellsU g cur.size (by have hg' : w.drew.heap[g]? = some (.cells cur 5 fz) := hg; simp [World.shape?, hg']) l h0 (by omega) (by unfold maxLen at hcm; omega) ?_
  intro j x hx
  exact hown.cells (g := g) rfl j (.int .u8 x.toNat) (by simp [Lib.byteCells, hx])
 have hgb : g ≠ b := fun e => hne (by simp [Value.ownBlock, e])
 have hkeep : Holds B b F l (w.drew.freeze ⟨g, 0, none⟩ l.length) := by
  refine At.holds (p := p) ⟨hB, .slice (some ⟨g, 0, none⟩) l.length cap, ?_, ?_, hne, fun e => absurd (by have := congrArg List.length e; rw [Lib.byteCells_length] at this; exact this) hl0⟩ hp
  ·exact (froze_other w.drew g _ b hgb).trans hbk
  ·rw [Lib.byteCells_length]; exact froze_own (w := w.drew) hown
 have HH := Lib.hid (And.intro hkeep (And.intro hbg hg))
 clear h hp hkeep hfz hcs htake hown hne hnn hbk hbg hg
 go_enter Tryz.func51, Tryz.ntmps51
 go_wp2
 go_region
 all_goals (go_wp2; go_ret; exact ⟨rfl, HH.out.1, Lib.below_freeze (Below.drew (Below.refl B w)) (p := ⟨g, 0, none⟩) HH.out.2.1 _, ((Lib.OthersKept.refl _ _ w).drew).freeze ⟨g, 0, none⟩ _ ⟨cur, fz, HH.out.2.2⟩⟩)
theorem string (B b : Nat) (F : Fs) (l : List UInt8) (w : World) (h : Holds B b F l w) :
  Calls Tryz.prog 51 #[self b] w fun e w' => e = .returned (.string ⟨l.toArray⟩) ∧ Wrote B b F l w w' := by
 by_cases h0 : l = []
 ·subst h0; exact string_nil B b F w h
 ·exact string_some B b F l h0 w h
end Go.Proofs.YtjcaiecapapceaaGreat.BufQ
namespace Go.Proofs.YtjcaiecapapceaaGreat.FlatQ
open Go.RowKit P1 Cnt CntC Flat BufQ
open BufB (heap_new)
open FlatI (text_len)
def WriteI (B b : Nat) (Z : Fs) (f : F) : Prop := ∀ (w : World) (l : List UInt8) (o n : Int) (t : ByteArray) (k : F) (p r : F) (a : Option Addr) (cap : Nat) (fs : List Nat), f = p.app (.cons o n t k r) → SubAt w a k fs → (∀ c ∈ fs, c < B) → k.len ≤ cap → l.length + (1 + t.size + k.size) ≤ 50000000 → Holds B b Z l w → B ≤ w.heap.size → b < w.heap.size →
 Calls Tryz.prog 132 #[self b, .agg #[.int .i64 o, .int .i64 n, .string t, .slice a k.len cap]] w fun e w' => e = .returned (.tuple #[]) ∧ Wrote B b Z (l ++ wfD o t k) w w'
theorem write_step (B b : Nat) (Z : Fs) (w : World) (l : List UInt8) (o n : Int) (t : ByteArray) (k : F) (ih : WriteI B b Z k) (a : Option Addr) (cap : Nat) (fs : List Nat) (hs : SubAt w a k fs) (hfs : ∀ c ∈ fs, c < B) (hc : k.len ≤ cap) (hsz : l.length + (1 + t.size + k.size) ≤ 50000000) (hH : Holds B b Z l w) (hB : B ≤ w.heap.size) (hb : b < w.heap.size) :
  Calls Tryz.prog 132 #[self b, .agg #[.int .i64 o, .int .i64 n, .string t, .slice a k.len cap]] w fun e w' => e = .returned (.tuple #[]) ∧ Wrote B b Z (l ++ wfD o t k) w w' := by
 have hlc := F.len_le_size k
 obtain ⟨L, hL⟩ : ∃ L, k.len = L := ⟨_, rfl⟩
 rw [hL] at hc hlc ⊢
 have hL4 : L ≤ 50000000 := by omega
 have HL := Lib.hid hL
 clear hL
 have hsub : 0 < L → ∃ b off f', a = some ⟨b, off, none⟩ ∧ RowAt w k b off f' ∧ b < B ∧ ∀ c ∈ f', c < B := by
  intro h0
  rcases hs with ⟨rfl, rfl⟩ | ⟨b, off, f', rfl, hnil, rfl, hrow⟩
  ·have := HL.out; simp only [F.len] at this; omega
  ·exact ⟨b, off, f', rfl, hrow, hfs b (by simp), fun c hc => hfs c (by simp [hc])⟩
 have HSUB := Lib.hid hsub
 have IH := Lib.hid ih
 have HSZ := Lib.hid hsz
 have HBB := Lib.hid hB
 have HBW := Lib.hid hb
 have hts : t.size ≤ 50000000 := by omega
 have HA := Lib.hid (fun (ob : Obj) => Wrote.alloc hH hB ob)
 have HN := Lib.hid (heap_new w #[.int .i64 o, .int .i64 n, .string t, .slice a L cap] 25)
 have HNC : Hid (∀ T, (w.alloc (.cells #[.int .i64 o, .int .i64 n, .string t, .slice a L cap] T)).cell? ⟨w.heap.size, 2, none⟩ = some (.string t) ∧ (w.alloc (.cells #[.int .i64 o, .int .i64 n, .string t, .slice a L cap] T)).cell? ⟨w.heap.size, 3, none⟩ = some (.slice a L cap)) := Lib.hid (fun T => ⟨by rw [World.cell?_alloc_new]; rfl, by rw [World.cell?_alloc_new]; rfl⟩)
 have HLP := Lib.hid (show l.length + 1 ≤ 50000000 by omega)
 cases hoo : (o == 3) with
 | true =>
   have HT := Lib.hid (show wfD o t k = [32] ++ t.data.toList ++ wf k by simp [wfD, hoo])
   have HW := Lib.hid (fun ob => writeByte B b Z l 32 32 rfl (w.alloc ob) (hH.alloc ob) (by omega) (by simp; omega))
   clear hsub hs hfs ih hsz hH hB hb hlc
   go_enter Tryz.func132, Tryz.ntmps132
   go_wp2_with fail
   refine (HW.out _).mono ?_
   rintro e1 w1 ⟨rfl, hw1⟩
   have d2 := (hw1.cell (o := 2) HN.out (by decide) (Nat.ne_of_gt HBW.out)).trans (HNC.out _).1
   have d3 := (hw1.cell (o := 3) HN.out (by decide) (Nat.ne_of_gt HBW.out)).trans (HNC.out _).2
   have hw := (HA.out (.cells #[.int .i64 o, .int .i64 n, .string t, .slice a L cap] 25)).trans hw1
   have HWS := Lib.hid (writeString B b Z (l ++ [32]) t w1 hw.1 (by have := HLP.out; simp; omega) (by omega) (Nat.le_trans HBB.out hw.2.1.size))
   have HN1 := Lib.hid ((hw1.2.2 w.heap.size _ HN.out (by have := HBW.out; simp; omega) (fun c' fz' e => by cases e)))
   have H1 := Lib.hid hw
   clear hw hw1
   go_wp2_with fail
   refine HWS.out.mono ?_
   rintro e2 w2 ⟨rfl, hw2⟩
   have d3' := (hw2.cell (o := 3) HN1.out (by decide) (Nat.ne_of_gt HBW.out)).trans d3
   have H2 := Lib.hid (H1.out.trans hw2)
   clear hw2 d2 d3
   go_wp2_with fail
   go_loopw [18] (fun i wr => ∃ (j : Nat), j ≤ L ∧ i = .int .i64 j ∧ ∃ p g : F, k = p.app g ∧ p.len = j ∧ Wrote B b Z ((l ++ [32] ++ t.data.toList) ++ wf p) w wr) (fun i _ => L - (intOf i).toNat)
   case atStart => exact ⟨0, by omega, rfl, .nil, k, rfl, rfl, by show Wrote B b Z ((l ++ [32] ++ t.data.toList) ++ []) w _; rw [List.append_nil]; exact H2.out⟩
   case round =>
    obtain ⟨j, hj, rfl, p, g, h3, h5, h6⟩ := hrel
    have h7 : g.len = L - j := by have := HL.out; rw [h3, F.len_app, h5] at this; omega
    cases g with
    | nil =>
      have hjL : L ≤ j := by simp only [F.len] at h7; omega
      have H := Lib.hid (And.intro h3 h6)
      clear h3 h5 h6 h7
      go_wp2_with fail
      go_end0
      refine ⟨rfl, ?_⟩
      rw [HT.out, ← show l ++ [32] ++ t.data.toList ++ wf k = l ++ ([32] ++ t.data.toList ++ wf k) by simp only [List.append_assoc]]
      obtain ⟨h3, h6⟩ := H.out
      rw [F.app_nil] at h3
      rw [h3]; exact h6
    | cons o1 n1 t1 k1 r1 =>
      have hjL : j < L := by simp only [F.len] at h7; omega
      obtain ⟨b1, off, f', rfl, hrow, hbB, hfB⟩ := HSUB.out (by omega)
      rw [h3] at hrow
      obtain ⟨a1, cap1, f1, c0, c1, c2, c3, hc1', hsub1, hin⟩ := row_at hrow
      rw [h5] at c0 c1 c2 c3
      have hbw := h6.2.1
      rw [← hbw.cell (p := ⟨_, _, _⟩) hbB] at c0 c1 c2 c3
      have hwrs := hbw.size
      have hBB := HBB.out
      have hBW := HBW.out
      have hle : ((l ++ [32] ++ t.data.toList) ++ wf p).length + (1 + t1.size + k1.size) ≤ 50000000 := by
       have := HSZ.out
       have e1 := wf_size p
       rw [h3, F.size_app] at this; simp only [F.size] at this
       simp only [List.length_append, text_len, List.length_cons, List.length_nil]; omega
      have hd := fun (ob : Obj) => IH.out (wr.alloc ob) ((l ++ [32] ++ t.data.toList) ++ wf p) o1 n1 t1 k1 p r1 a1 cap1 f1 h3 (hsub1.below (fun c hc => hfB c (hin c hc)) (hbw.alloc (Nat.le_trans hBB hwrs) ob)) (fun c hc => hfB c (hin c hc)) hc1' hle (h6.1.alloc ob) (by simp; omega) (by simp; omega)
      have HAL := Lib.hid (fun ob => h6.trans (Wrote.alloc h6.1 (Nat.le_trans hBB hwrs) ob))
      have HD := Lib.hid hd
      have H := Lib.hid (And.intro h3 h5)
      clear hd h3 h5 h6 h7 hbw hrow hle hwrs hBB hBW
      go_wp2_with (go_at_call 132; refine (HD.out _).mono ?_; rintro e1 w3 ⟨rfl, hw3⟩)
      have H3 := Lib.hid hw3
      clear hw3
      go_roundw
      case rel =>
       obtain ⟨h3, h5⟩ := H.out
       refine ⟨j + 1, by omega, by go_num, p.app (.cons o1 n1 t1 k1 .nil), r1, by rw [h3, F.app_assoc]; rfl, by rw [F.len_app, h5]; rfl, ?_⟩
       have := (HAL.out _).trans H3.out
       rw [List.append_assoc] at this
       rw [wf_app, wf_one]; exact this
      case measure => simp [intOf]; omega
 | false =>
   have HT := Lib.hid (show wfD o t k = t.data.toList ++ wf k by simp [wfD, hoo])
   have HWS := Lib.hid (fun ob => writeString B b Z l t (w.alloc ob) (hH.alloc ob) (by omega) (by omega) (by simp; omega))
   clear hsub hs hfs ih hsz hH hB hb hlc
   go_enter Tryz.func132, Tryz.ntmps132
   go_wp2_with fail
   refine (HWS.out _).mono ?_
   rintro e2 w2 ⟨rfl, hw2⟩
   have d3' := (hw2.cell (o := 3) HN.out (by decide) (Nat.ne_of_gt HBW.out)).trans (HNC.out _).2
   have H2 := Lib.hid ((HA.out (.cells #[.int .i64 o, .int .i64 n, .string t, .slice a L cap] 25)).trans hw2)
   clear hw2
   go_wp2_with fail
   go_loopw [18] (fun i wr => ∃ (j : Nat), j ≤ L ∧ i = .int .i64 j ∧ ∃ p g : F, k = p.app g ∧ p.len = j ∧ Wrote B b Z ((l ++ t.data.toList) ++ wf p) w wr) (fun i _ => L - (intOf i).toNat)
   case atStart => exact ⟨0, by omega, rfl, .nil, k, rfl, rfl, by show Wrote B b Z ((l ++ t.data.toList) ++ []) w _; rw [List.append_nil]; exact H2.out⟩
   case round =>
    obtain ⟨j, hj, rfl, p, g, h3, h5, h6⟩ := hrel
    have h7 : g.len = L - j := by have := HL.out; rw [h3, F.len_app, h5] at this; omega
    cases g with
    | nil =>
      have hjL : L ≤ j := by simp only [F.len] at h7; omega
      have H := Lib.hid (And.intro h3 h6)
      clear h3 h5 h6 h7
      go_wp2_with fail
      go_end0
      refine ⟨rfl, ?_⟩
      rw [HT.out, ← show l ++ t.data.toList ++ wf k = l ++ (t.data.toList ++ wf k) by simp only [List.append_assoc]]
      obtain ⟨h3, h6⟩ := H.out
      rw [F.app_nil] at h3
      rw [h3]; exact h6
    | cons o1 n1 t1 k1 r1 =>
      have hjL : j < L := by simp only [F.len] at h7; omega
      obtain ⟨b1, off, f', rfl, hrow, hbB, hfB⟩ := HSUB.out (by omega)
      rw [h3] at hrow
      obtain ⟨a1, cap1, f1, c0, c1, c2, c3, hc1', hsub1, hin⟩ := row_at hrow
      rw [h5] at c0 c1 c2 c3
      have hbw := h6.2.1
      rw [← hbw.cell (p := ⟨_, _, _⟩) hbB] at c0 c1 c2 c3
      have hwrs := hbw.size
      have hBB := HBB.out
      have hBW := HBW.out
      have hle : ((l ++ t.data.toList) ++ wf p).length + (1 + t1.size + k1.size) ≤ 50000000 := by
       have := HSZ.out
       have e1 := wf_size p
       rw [h3, F.size_app] at this; simp only [F.size] at this
       simp only [List.length_append, text_len]; omega
      have hd := fun (ob : Obj) => IH.out (wr.alloc ob) ((l ++ t.data.toList) ++ wf p) o1 n1 t1 k1 p r1 a1 cap1 f1 h3 (hsub1.below (fun c hc => hfB c (hin c hc)) (hbw.alloc (Nat.le_trans hBB hwrs) ob)) (fun c hc => hfB c (hin c hc)) hc1' hle (h6.1.alloc ob) (by simp; omega) (by simp; omega)
      have HAL := Lib.hid (fun ob => h6.trans (Wrote.alloc h6.1 (Nat.le_trans hBB hwrs) ob))
      have HD := Lib.hid hd
      have H := Lib.hid (And.intro h3 h5)
      clear hd h3 h5 h6 h7 hbw hrow hle hwrs hBB hBW
      go_wp2_with (go_at_call 132; refine (HD.out _).mono ?_; rintro e1 w3 ⟨rfl, hw3⟩)
      have H3 := Lib.hid hw3
      clear hw3
      go_roundw
      case rel =>
       obtain ⟨h3, h5⟩ := H.out
       refine ⟨j + 1, by omega, by go_num, p.app (.cons o1 n1 t1 k1 .nil), r1, by rw [h3, F.app_assoc]; rfl, by rw [F.len_app, h5]; rfl, ?_⟩
       have := (HAL.out _).trans H3.out
       rw [List.append_assoc] at this
       rw [wf_app, wf_one]; exact this
      case measure => simp [intOf]; omega
theorem writeI (B b : Nat) (Z : Fs) (m : Nat) : ∀ f : F, f.deep ≤ m → WriteI B b Z f := by
 induction m with
 | zero =>
   intro f hf w l o n t k p r a cap fs he
   rw [he, F.deep_app] at hf; simp only [F.deep] at hf; omega
 | succ m ih =>
   intro f hf w l o n t k p r a cap fs he hs hfs hc hsz hH hB hb
   have hk : k.deep ≤ m := by rw [he, F.deep_app] at hf; simp only [F.deep] at hf; omega
   exact write_step B b Z w l o n t k (ih k hk) a cap fs hs hfs hc hsz hH hB hb
end Go.Proofs.YtjcaiecapapceaaGreat.FlatQ
