import Derived.Test.YthlgjnmfblkegaaShelf2
import Derived.Test.YthlgjnmfblkegaaLayTP
import Derived.Test.YthlgjnmfblkegaaLayW
import Derived.Lib.OthersKept
/-
  What the methods of strings.Builder do, by the bytes that it holds, and what impl.writeRow writes.
-/
set_option linter.unusedVariables false
set_option linter.unusedSimpArgs false
namespace Go.Proofs.Ythlgjnmfblkegaa.Buf
open Go.RowKit P1 TextV LayV LayW

/-- the builder at block b holds these bytes; what it writes lies behind block B -/
def Holds (B b : Nat) (l : List UInt8) (w : World) : Prop := Lib.IsBuilderF 58 5 B b (Lib.byteCells l) w
theorem Holds.new (w : World) : Holds w.heap.size w.heap.size [] (w.alloc (.cells #[.pointer none, .slice none 0 0] 58)) := Lib.IsBuilderF.of (Lib.fresh_isBuilder _ _ w)
theorem Holds.alloc {B b : Nat} {l : List UInt8} {w : World} (h : Holds B b l w) (o : Obj) : Holds B b l (w.alloc o) := Lib.IsBuilderF.alloc h o
/-- what a write leaves: the bytes, what lies ahead of the builder, and every block that holds no bytes -/
def Wrote (B b : Nat) (l : List UInt8) (w w' : World) : Prop := Holds B b l w' ∧ Below B w w' ∧ Lib.OthersKept 5 (some b) w w'
theorem Wrote.refl {B b : Nat} {l : List UInt8} {w : World} (h : Holds B b l w) : Wrote B b l w w := ⟨h, Below.refl _ _, Lib.OthersKept.refl _ _ _⟩
theorem Wrote.trans {B b : Nat} {l l' : List UInt8} {w w1 w2 : World} (h : Wrote B b l w w1) (k : Wrote B b l' w1 w2) : Wrote B b l' w w2 := ⟨k.1, h.2.1.trans k.2.1, h.2.2.trans k.2.2⟩

theorem writeByte (B b : Nat) (l : List UInt8) (w : World) (h : Holds B b l w) (hl : l.length ≤ 100000000) (hB : B ≤ w.heap.size) :
    Calls Try.prog 34 #[.pointer (some ⟨b, 0, none⟩), .int .u8 10] w fun e w' => e = .returned .nilIface ∧ Wrote B b (l ++ [10]) w w' := by
  refine (Any.Builder_WriteByte_k Try.layB167 Try.extraB B b (Lib.byteCells l) 10 w h (by rw [Lib.byteCells_length]; omega) hB).mono ?_
  rintro e w' ⟨rfl, h1, h2, h3⟩
  exact ⟨rfl, by unfold Holds; rw [Lib.byteCells_append]; exact Or.inr h1, h2, h3⟩
theorem writeString (B b : Nat) (l : List UInt8) (s : ByteArray) (w : World) (h : Holds B b l w) (hl : l.length ≤ 100000000) (hs : s.size ≤ 100000000) (hB : B ≤ w.heap.size) :
    Calls Try.prog 54 #[.pointer (some ⟨b, 0, none⟩), .string s] w fun e w' => e = .returned (.tuple #[.int .i64 s.size, .nilIface]) ∧ Wrote B b (l ++ s.data.toList) w w' := by
  refine (Any.Builder_WriteString_k Try.layB166 Try.extraB B b (Lib.byteCells l) s w h (by rw [Lib.byteCells_length]; omega) hB).mono ?_
  rintro e w' ⟨rfl, h1, h2, h3⟩
  exact ⟨rfl, by unfold Holds; rw [Lib.byteCells_append]; exact Or.inr h1, h2, h3⟩
theorem string (B b : Nat) (l : List UInt8) (w : World) (h : Holds B b l w) (hB : B ≤ w.heap.size) :
    Calls Try.prog 36 #[.pointer (some ⟨b, 0, none⟩)] w fun e w' => e = .returned (.string ⟨l.toArray⟩) ∧ Wrote B b l w w' :=
  Try.Builder_String_any_k B b l w h hB
theorem spaces (c : Nat) (hc : c ≤ 100000) (w : World) :
    Calls Try.prog 55 #[.string ⟨#[32]⟩, .int .i64 c] w fun e w' => e = .returned (.string (sp c)) ∧ Below w.heap.size w w' := by
  refine (Try.strings_Repeat ⟨#[32]⟩ c w (by omega) (by show 1 * c ≤ _; omega)).mono ?_
  rintro e w' ⟨rfl, hb⟩
  refine ⟨?_, hb⟩
  have e1 := Lib.repeatL_replicate 32 1 c
  simp only [List.replicate_succ, List.replicate_zero, Nat.mul_one] at e1
  show _ = Ending.returned (.string (sp c))
  rw [show (⟨#[32]⟩ : ByteArray).data.toList = [32] from rfl, e1]; rfl

/-- a block that holds no bytes and is not the builder's stands -/
theorem Wrote.cell {B b : Nat} {l : List UInt8} {w w' : World} (h : Wrote B b l w w') {k o : Nat} {c : Array Value} {T : TypeId} {fz : Nat × Nat} (hk : w.heap[k]? = some (.cells c T fz)) (hT : T ≠ 5) (hb : k ≠ b) : w'.cell? ⟨k, o, none⟩ = w.cell? ⟨k, o, none⟩ :=
  World.cell?_of_block (w := w) ((h.2.2 k _ hk (by simpa using hb) (fun c' fz' e => hT (by cases e; rfl))).trans hk.symm)

theorem at_below {T e : TypeId} {B b : Nat} {p : Value} {bs : List Value} {w w' : World} (h : Lib.BuilderAtF T e B b p bs w) (k : Below w.heap.size w w') : Lib.BuilderAtF T e B b p bs w' := by
  obtain ⟨hB, v, hb, ⟨hx, ho⟩, hne⟩ := h
  have lt : ∀ {j : Nat} {o : Obj}, w.heap[j]? = some o → w'.heap[j]? = some o := fun {j o} e => (k.block j (Array.getElem?_eq_some_iff.1 e).1).trans e
  refine ⟨hB, v, lt hb, ⟨hx, ?_⟩, hne⟩
  rcases ho with h0 | ⟨g, cap, cur, fz, h1, h2, h3, h4⟩
  · exact .inl h0
  · exact .inr ⟨g, cap, cur, fz, h1, h2, lt h3, h4⟩
theorem Holds.below {B b : Nat} {l : List UInt8} {w w' : World} (h : Holds B b l w) (k : Below w.heap.size w w') : Holds B b l w' :=
  Or.elim h (fun x => Or.inl (at_below x k)) (fun x => Or.inr (at_below x k))
theorem Wrote.below {B b : Nat} {l : List UInt8} {w w1 w2 : World} (h : Wrote B b l w w1) (hB : B ≤ w.heap.size) (k : Below w1.heap.size w1 w2) : Wrote B b l w w2 :=
  ⟨h.1.below k, h.2.1.trans (k.mono (Nat.le_trans hB h.2.1.size)), fun i o hi hb ho => by
    have h1 := h.2.2 i o hi hb ho
    exact (k.block i (Array.getElem?_eq_some_iff.1 h1).1).trans h1⟩
theorem Wrote.alloc {B b : Nat} {l : List UInt8} {w : World} (h : Holds B b l w) (hB : B ≤ w.heap.size) (o : Obj) : Wrote B b l w (w.alloc o) :=
  (Wrote.refl h).below hB ((Below.refl _ _).alloc (Nat.le_refl _) _)

theorem heap_new (w : World) (c : Array Value) (T : TypeId) : (w.alloc (.cells c T)).heap[w.heap.size]? = some (.cells c T (0, 0)) := by show (w.heap.push _)[w.heap.size]? = _; simp

set_option maxRecDepth 100000 in
set_option maxHeartbeats 1600000 in
theorem writeRow (B b : Nat) (l : List UInt8) (c : Nat) (t : ByteArray) (hc : c ≤ 400) (ht : t.size ≤ 2000) (hl : l.length ≤ 10000000) (w : World) (h : Holds B b l w) (hB : B ≤ w.heap.size) (hb : b < w.heap.size) :
    Calls Try.prog 35 #[.pointer (some ⟨b, 0, none⟩), .agg #[.int .i64 c, .string t]] w fun e w' => e = .returned (.tuple #[]) ∧ Wrote B b (l ++ (ln c t).data.toList) w w' := by
  have HA := Lib.hid (fun o => Wrote.alloc h hB o)
  clear h
  by_cases hz : t.size = 0
  · have HL := Lib.hid (ln_no (n := (c : Int)) hz)
    have e := bytes_none hz
    subst e
    clear hz
    go_enter Try.func35, Try.ntmps35
    go_wp2_with fail
    refine bodyPost_ret (v := .tuple #[]) (by simp [results, Try.results35, go_sem]) rfl ?_
    refine ⟨rfl, ?_⟩
    rw [HL.out]
    show Wrote B b (l ++ []) _ _
    rw [List.append_nil]
    exact HA.out _
  · have HL := Lib.hid (ln_yes (n := (c : Int)) hz)
    obtain ⟨e1, e2⟩ := bytes_some hz
    have HSP := Lib.hid (fun W => spaces c (by omega) W)
    have HN := Lib.hid (heap_new w #[.int .i64 c, .string t] 32)
    clear hz
    go_enter Try.func35, Try.ntmps35
    go_wp2_with fail
    refine (HSP.out _).mono ?_
    rintro e3 w2 ⟨rfl, hb2⟩
    have h2 := (HA.out _).below hB hb2
    have HW2 := Lib.hid h2
    have hs2 : (sp c).size ≤ 100000000 := by rw [sp_size]; omega
    have HWS := Lib.hid (writeString B b l (sp c) w2 h2.1 (by omega) hs2 (Nat.le_trans hB h2.2.1.size))
    have hn2 := (hb2.block w.heap.size (by simp)).trans HN.out
    have hc2 : w2.cell? ⟨w.heap.size, 1, none⟩ = some (.string t) := (hb2.cell (p := ⟨_, _, _⟩) (by simp)).trans (by rw [World.cell?_alloc_new]; rfl)
    have HC2 := Lib.hid (And.intro hn2 hc2)
    clear hb2 h2 hn2 hc2
    go_wp2_with fail
    refine HWS.out.mono ?_
    rintro e4 w3 ⟨rfl, h3⟩
    have hc3 := (h3.cell (o := 1) HC2.out.1 (by decide) (by omega)).trans HC2.out.2
    have h3' := HW2.out.trans h3
    have HW3 := Lib.hid h3'
    have HWT := Lib.hid (writeString B b (l ++ (sp c).data.toList) t w3 h3'.1 (by have := sp_size c; simp at this ⊢; omega) (by omega) (Nat.le_trans hB h3'.2.1.size))
    clear h3 h3' hs2
    go_wp2_with fail
    refine HWT.out.mono ?_
    rintro e5 w4 ⟨rfl, h4⟩
    have HW4 := Lib.hid (HW3.out.trans h4)
    clear h4 hc3
    go_wp2_with fail
    go_end0
    refine ⟨rfl, ?_⟩
    rw [HL.out]
    have := HW4.out
    rw [List.append_assoc] at this
    rw [ByteArray.data_append, Array.toList_append]
    simpa using this

end Go.Proofs.Ythlgjnmfblkegaa.Buf

