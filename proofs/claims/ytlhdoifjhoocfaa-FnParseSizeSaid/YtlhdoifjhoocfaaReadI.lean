import Derived.Test.YtlhdoifjhoocfaaPl
import Derived.Test.YtlhdoifjhoocfaaDrY
import Derived.Test.YtlhdoifjhoocfaaCopyI
import Derived.Test.YtlhdoifjhoocfaaText
import Derived.Lib.IndexMore
import Derived.Lib.IndexBytes
/-
  What the program's reader of documents comes to.
-/
set_option linter.unusedVariables false
set_option linter.unusedSimpArgs false
namespace Go.Proofs.Ytlhdoifjhoocfaa.ReadDocs
open Go.RowKit P1 Copy

theorem butTouch {B x L U : Nat} {a w w' : World} (h : But B x a w) (k : Touch L U w w') (hB : B ≤ L) : But B x a w' :=
  h.trans ⟨k.os, k.tape, k.output, Nat.le_of_eq k.size.symm, fun i hi _ => k.block i (Or.inl (by omega))⟩

/-- the reader at block x has the bytes l left -/
def Has (w : World) (x : Nat) (l : List UInt8) : Prop := w.cell? ⟨x, 0, none⟩ = some (.string ⟨l.toArray⟩) ∧ w.frozen? ⟨x, 0, none⟩ = false ∧ x < w.heap.size

theorem ret_u8 {a b : Int} (h : a = b) : Ending.returned (.int .u8 a) = .returned (.int .u8 b) := by rw [h]

set_option maxHeartbeats 400000 in
theorem next_nil (w : World) (x : Nat) (h : Has w x []) : Calls Try.prog 25 #[.pointer (some ⟨x, 0, none⟩)] w fun e w' => e = .returned (.int .u8 0) ∧ w = w' := by
  obtain ⟨h0, h1, h2⟩ := h
  go_enter Try.func25, Try.ntmps25
  go_wp2_with fail
  go_ret
  exact ⟨rfl, rfl⟩

theorem ext_one (c : UInt8) (r : List UInt8) : (⟨(c :: r).toArray⟩ : ByteArray).extract 1 (r.length + 1) = ⟨r.toArray⟩ := by
  apply ByteArray.ext
  apply Array.ext'
  simp

set_option maxHeartbeats 400000 in
theorem next_cons (w : World) (x : Nat) (c : UInt8) (r : List UInt8) (h : Has w x (c :: r)) (hl : r.length ≤ 1048576) : Calls Try.prog 25 #[.pointer (some ⟨x, 0, none⟩)] w fun e w' => e = .returned (.int .u8 (c.toNat : Int)) ∧ w' = w.setCell ⟨x, 0, none⟩ (.string ⟨r.toArray⟩) := by
  obtain ⟨h0, h1, h2⟩ := h
  go_enter Try.func25, Try.ntmps25
  go_wp2_with fail
  go_ret
  exact ⟨ret_u8 rfl, by rw [ext_one]⟩

theorem Has.step {w : World} {x : Nat} {c : UInt8} {r : List UInt8} (h : Has w x (c :: r)) : Has (w.setCell ⟨x, 0, none⟩ (.string ⟨r.toArray⟩)) x r ∧ But w.heap.size x w (w.setCell ⟨x, 0, none⟩ (.string ⟨r.toArray⟩)) := by
  obtain ⟨h0, h1, h2⟩ := h
  exact ⟨⟨World.cell?_setCell_same _ _ _ h0, by rw [World.frozen?_setCell]; exact h1, by simpa using h2⟩, (But.refl _ _ _).setCell (p := ⟨x, 0, none⟩) (Or.inl rfl) _⟩
theorem Has.below {w w' : World} {x B : Nat} {l : List UInt8} (h : Has w x l) (hx : x < B) (k : Below B w w') : Has w' x l := by
  obtain ⟨h0, h1, h2⟩ := h
  exact ⟨(k.cell (p := ⟨_, _, _⟩) hx).trans h0, (k.frozen (p := ⟨_, _, _⟩) hx).trans h1, Nat.lt_of_lt_of_le h2 k.size⟩

theorem cutQ_eq (l : List UInt8) : cutQ l = if 0 ≤ Lib.indexByte l 34 then some (l.take (Lib.indexByte l 34).toNat, l.drop ((Lib.indexByte l 34).toNat + 1)) else none := by
  induction l with
  | nil => simp [cutQ, Lib.indexByte]
  | cons c r ih =>
    have hge := Lib.indexByte_ge r 34
    by_cases hc : c = 34
    · subst hc; simp [cutQ, Lib.indexByte]
    · have hb : (c == 34) = false := by simpa using hc
      have e1 : Lib.indexByte (c :: r) 34 = if Lib.indexByte r 34 == -1 then -1 else Lib.indexByte r 34 + 1 := by
        rw [Lib.indexByte, hb]; rfl
      rw [cutQ, if_neg hc, ih, e1]
      by_cases h0 : 0 ≤ Lib.indexByte r 34
      · have hn : (Lib.indexByte r 34 == -1) = false := by rw [beq_eq_false_iff_ne]; omega
        rw [if_pos h0, hn]
        simp only [Bool.false_eq_true, if_false]
        rw [if_pos (by omega)]
        have e : (Lib.indexByte r 34 + 1).toNat = (Lib.indexByte r 34).toNat + 1 := by omega
        rw [e, List.take_succ_cons, List.drop_succ_cons]
      · have hn : (Lib.indexByte r 34 == -1) = true := by rw [beq_iff_eq]; omega
        rw [if_neg h0, hn]
        simp

/-- the text up to the first quote, in the shelf's words -/
theorem cut_quote (l : List UInt8) : Lib.cut l [34] = match cutQ l with
    | none => (l, [], false)
    | some (a, b) => (a, b, true) := by
  unfold Lib.cut
  rw [Lib.index_one, cutQ_eq]
  by_cases h0 : 0 ≤ Lib.indexByte l 34
  · rw [if_pos h0, if_pos h0]; rfl
  · rw [if_neg h0, if_neg h0]

/-- what reading comes to -/
def RdOut (w : World) (x : Nat) (r : Option (D × List UInt8)) (e : Ending) (w' : World) : Prop := But w.heap.size x w w' ∧ match r with
  | none => e = .returned (.tuple #[.agg #[.int .i64 0, .int .i64 0, .string ⟨#[]⟩, .slice none 0 0], .bool false])
  | some ((o, n, t, k), l') => ∃ (a : Option Addr) (cap : Nat) (fs : List Nat), e = .returned (.tuple #[.agg #[.int .i64 o, .int .i64 n, .string t, .slice a k.len cap], .bool true]) ∧ k.len ≤ cap ∧ SubAt w' a k fs ∧ Fresh w.heap.size w' fs ∧ Has w' x l'

theorem RdOut.no {w : World} {x : Nat} {w' : World} (h : But w.heap.size x w w') : RdOut w x none (.returned (.tuple #[.agg #[.int .i64 0, .int .i64 0, .string ⟨#[]⟩, .slice none 0 0], .bool false])) w' := ⟨h, rfl⟩

/-- a variable of the library that names a number -/
def G0 (w : World) : Prop := ∃ m, w.cell? ⟨0, 0, none⟩ = some (.int .i64 m)
theorem G0.lt {w : World} (h : G0 w) : 0 < w.heap.size := by obtain ⟨m, h⟩ := h; exact World.block_lt_of_cell? w _ h
theorem G0.but {w w' : World} {B x : Nat} (h : G0 w) (k : But B x w w') (hB : 0 < B) (hx : x ≠ 0) : G0 w' := by
  obtain ⟨m, h⟩ := h
  exact ⟨m, (k.cell hB (Ne.symm hx)).trans h⟩

set_option maxRecDepth 100000 in
set_option maxHeartbeats 1600000 in
theorem text (w : World) (x : Nat) (l : List UInt8) (h : Has w x l) (hl : l.length ≤ 1048576) (hg : G0 w) (hx0 : x ≠ 0) :
    Calls Try.prog 26 #[.pointer (some ⟨x, 0, none⟩)] w (RdOut w x (rdT true l)) := by
  obtain ⟨m, hm⟩ := hg
  have hw0 : 0 < w.heap.size := G0.lt ⟨m, hm⟩
  have hcut := fun (w1 : World) (h1 : w1.cell? ⟨0, 0, none⟩ = some (.int .i64 m)) => Try.strings_Cut ⟨l.toArray⟩ ⟨#[34]⟩ m w1 (by rw [strSize]; omega) h1
  rw [show (⟨l.toArray⟩ : ByteArray).data.toList = l from by simp, show (⟨#[34]⟩ : ByteArray).data.toList = [34] from rfl, cut_quote l] at hcut
  have hmA : ∀ ob, (w.alloc ob).cell? ⟨0, 0, none⟩ = some (.int .i64 m) := fun ob => (World.cell?_alloc_lt w ob ⟨0, 0, none⟩ hw0).trans hm
  have BA : ∀ ob, But w.heap.size x w (w.alloc ob) := fun ob => (But.refl _ _ _).alloc (Nat.le_refl _) _
  obtain ⟨h0, h1, h2⟩ := h
  have hx4 : ∀ (ob : Obj) (nq : Nat) {v : List UInt8}, Has (((w.alloc ob).drewN nq).setCell ⟨x, 0, none⟩ (.string ⟨v.toArray⟩)) x v := fun ob nq v => by
    have e0 : ((w.alloc ob).drewN nq).cell? ⟨x, 0, none⟩ = some (.string ⟨l.toArray⟩) := by
      have := (World.cell?_alloc_lt w ob ⟨x, 0, none⟩ h2).trans h0
      simpa using this
    refine ⟨World.cell?_setCell_same _ _ _ e0, ?_, by simp; omega⟩
    rw [World.frozen?_setCell]
    have := World.frozen?_alloc_old w ob ⟨x, 0, none⟩ (by simp; omega)
    simpa using this.trans h1
  have hne : x ≠ w.heap.size := by omega
  cases hq : cutQ l with
  | none =>
    rw [hq] at hcut
    have HC := Lib.hid hcut
    have HR := Lib.hid (show rdT true l = none by unfold rdT; rw [hq])
    clear hcut hq
    go_enter Try.func26, Try.ntmps26
    go_wp2_with fail
    refine (HC.out _ (hmA _)).mono ?_
    rintro e1 w1 ⟨rfl, nq, rfl⟩
    go_wp2_with fail
    refine bodyPost_ret (v := .tuple #[.agg #[.int .i64 0, .int .i64 0, .string ⟨#[]⟩, .slice none 0 0], .bool false]) (by simp [results, Try.results26, go_sem]) rfl ?_
    rw [HR.out]
    refine RdOut.no ?_
    iterate 4 refine But.setCell ?_ (Or.inr (by simp)) _
    exact Draw.butDrewN (BA _) _
  | some q =>
    obtain ⟨u, v⟩ := q
    rw [hq] at hcut
    have hsz := cutQ_size hq
    have HC := Lib.hid hcut
    have htv := fun (w1 : World) => TextV.implTextValid ⟨u.toArray⟩ (by rw [strSize]; unfold maxLen; omega) w1
    rw [show (⟨u.toArray⟩ : ByteArray).data.toList = u from by simp] at htv
    cases htu : tv u with
    | false =>
      rw [htu] at htv
      have HT := Lib.hid htv
      have HR := Lib.hid (show rdT true l = none by unfold rdT; rw [hq]; simp [htu])
      clear hcut hq htv htu hsz
      go_enter Try.func26, Try.ntmps26
      go_wp2_with fail
      refine (HC.out _ (hmA _)).mono ?_
      rintro e1 w1 ⟨rfl, nq, rfl⟩
      go_wp2_with fail
      refine (HT.out _).mono ?_
      rintro e2 w2 ⟨rfl, rfl⟩
      go_wp2_with fail
      refine bodyPost_ret (v := .tuple #[.agg #[.int .i64 0, .int .i64 0, .string ⟨#[]⟩, .slice none 0 0], .bool false]) (by simp [results, Try.results26, go_sem]) rfl ?_
      rw [HR.out]
      refine RdOut.no ?_
      iterate 4 refine But.setCell ?_ (Or.inr (by simp)) _
      exact Draw.butDrewN (BA _) _
    | true =>
      rw [htu] at htv
      have HT := Lib.hid htv
      have HR := Lib.hid (show rdT true l = some ((2, 0, ⟨u.toArray⟩, .nil), v) by unfold rdT; rw [hq]; simp [htu])
      have hus : (⟨u.toArray⟩ : ByteArray).size ≤ 281474976710656 := by rw [strSize]; omega
      clear hcut hq htv htu hsz
      go_enter Try.func26, Try.ntmps26
      go_wp2_with fail
      refine (HC.out _ (hmA _)).mono ?_
      rintro e1 w1 ⟨rfl, nq, rfl⟩
      go_wp2_with fail
      refine (HT.out _).mono ?_
      rintro e2 w2 ⟨rfl, rfl⟩
      go_wp2_with fail
      refine (clone ⟨u.toArray⟩ _ hus).mono ?_
      rintro e3 w3 ⟨rfl, hb3⟩
      have hcell : ∀ o, w3.cell? ⟨w.heap.size, o, none⟩ = _ := fun o => hb3.cell (p := ⟨w.heap.size, o, none⟩) (by simp)
      have hfz : ∀ o, w3.frozen? ⟨w.heap.size, o, none⟩ = _ := fun o => hb3.frozen (p := ⟨w.heap.size, o, none⟩) (by simp)
      have hz3 : w.heap.size < w3.heap.size := by have := hb3.size; simp at this; omega
      have hx3 := Has.below (B := w.heap.size + 1) (x := x) (l := v) (hx4 _ nq) (by omega) (hb3.mono (by simp))
      have hbut3 : But w.heap.size x w w3 := ((Draw.butDrewN (BA _) nq).setCell (p := ⟨x, 0, none⟩) (Or.inl rfl) _).trans (But.of_below (hb3.mono (by simp)))
      have H3 := Lib.hid (And.intro hx3 hbut3)
      clear hb3 hx3 hbut3
      go_wp2_with fail
      refine bodyPost_ret (v := .tuple #[.agg #[.int .i64 2, .int .i64 0, .string ⟨u.toArray⟩, .slice none 0 0], .bool true]) (by simp [results, Try.results26, go_sem, hcell, hz3]) rfl ?_
      rw [HR.out]
      obtain ⟨hx3, hbut3⟩ := H3.out
      have T : ∀ w4, Touch w.heap.size (w.heap.size + 1) w3 w4 → RdOut w x (some ((2, 0, ⟨u.toArray⟩, .nil), v)) (.returned (.tuple #[.agg #[.int .i64 2, .int .i64 0, .string ⟨u.toArray⟩, .slice none 0 0], .bool true])) w4 := fun w4 ht =>
        ⟨butTouch hbut3 ht (Nat.le_refl _), none, 0, [], rfl, by simp [F.len], .inl ⟨rfl, rfl⟩, Fresh.nil _ _, ⟨(ht.cell (Or.inl h2)).trans hx3.1, (ht.frozen (Or.inl h2)).trans hx3.2.1, by rw [ht.size]; exact hx3.2.2⟩⟩
      refine T _ ?_
      repeat (first | exact Touch.refl _ _ _ | refine Touch.setCell ?_ (by simp) (by simp) _)

end Go.Proofs.Ytlhdoifjhoocfaa.ReadDocs

