/-
  Keys that are lists of documents by where they lie: the address of the first and the length; a look at one of them, and at a pair of them. Nothing here speaks of the program.
-/
import Derived.Test.YtjpgnhpfmdjamaaMapK
import Derived.ChangeKeysEq
set_option linter.unusedVariables false
set_option linter.unusedSimpArgs false
namespace Go.Proofs.Ytjpgnhpfmdjamaa
open Go.RowKit

/-- a row of cells that no string shares -/
def Plain (w : World) (b : Nat) : Prop := (∃ cs T fr, w.heap[b]? = some (.cells cs T fr)) ∧ ∀ o, w.frozen? ⟨b, o, none⟩ = false

theorem Plain.of_cell {w : World} {b o : Nat} {v : Value} (h : w.cell? ⟨b, o, none⟩ = some v) (hf : ∀ o, w.frozen? ⟨b, o, none⟩ = false) : Plain w b := by
  refine ⟨?_, hf⟩
  unfold World.cell? at h
  cases hb : w.heap[b]? with
  | none => simp [hb] at h
  | some ob =>
    cases ob with
    | cells cs T fr => exact ⟨cs, T, fr, rfl⟩
    | _ => simp [hb] at h

section
variable {P : Program}

theorem run_sameAddr_plain {w : World} {a b : Addr} (ha : Plain w a.block) (hb : Plain w b.block) (sa : a.spot = none) (sb : b.spot = none) : (sameAddr a b).run P w = .ok (decide (a = b)) w := by
  obtain ⟨⟨ca, ta, fa, ea⟩, za⟩ := ha
  obtain ⟨⟨cb, tb, fb, eb⟩, zb⟩ := hb
  obtain ⟨a1, a2, a3⟩ := a
  obtain ⟨b1, b2, b3⟩ := b
  obtain rfl : a3 = none := sa
  obtain rfl : b3 = none := sb
  by_cases hbl : a1 = b1
  · subst hbl
    by_cases ho : a2 = b2
    · subst ho; simp [sameAddr]
    · simp [sameAddr, ho]
  · simp only at ea eb za zb
    simp [sameAddr, hbl, za, zb, noView, viewAt, World.shape?, ea, eb, mayBeOne, stringish]

/-- what the program says of such a key's type: a struct of a pointer and a length -/
structure ListKey (P : Program) (K te : TypeId) (f0 f1 : Field) (i j0 j1 : TypeInfo) : Prop where
  und : P.underlying K = some (.struct #[f0, f1])
  n0 : f0.name ≠ "_"
  n1 : f1.name ≠ "_"
  o0 : f0.offset = 0
  o1 : f1.offset = 1
  u0 : P.underlying f0.type = some (.pointer te)
  u1 : P.underlying f1.type = some (.int .i64)
  it : P.info? te = some i
  sz : i.size ≠ 0
  held : P.stoodInHeld K = false
  ik : P.info? K = some j0
  ck : j0.size = 2

abbrev LK := Nat × Nat × Nat

/-- such a key -/
def lkCells (a : LK) : Array Value := #[.pointer (some ⟨a.1, a.2.1, none⟩), .int .i64 a.2.2]
def lkV (a : LK) : Value := .agg (lkCells a)

theorem lk_eq (a b : LK) : decide (a = b) = (decide ((⟨a.1, a.2.1, none⟩ : Addr) = ⟨b.1, b.2.1, none⟩) && ((a.2.2 : Int) == (b.2.2 : Int))) := by
  obtain ⟨a1, a2, a3⟩ := a
  obtain ⟨b1, b2, b3⟩ := b
  rw [Bool.eq_iff_iff]
  simp only [decide_eq_true_eq, Prod.mk.injEq, Bool.and_eq_true, Addr.mk.injEq, beq_iff_eq, and_true]
  omega

theorem lk_check {K te : TypeId} {f0 f1 : Field} {i j0 j1 : TypeInfo} (h : ListKey P K te f0 f1 i j0 j1) (w : World) (em : Bool) (d : Nat) (a : LK) : (Instr.checkKey em (d + 2) K (lkV a)).run P w = .ok () w := by
  simp [Instr.checkKey, lkV, lkCells, run_underlying h.und, h.n0, h.n1, part, isAgg, run_underlying h.u0, run_underlying h.u1, h.o0, h.o1]

theorem lk_equal {K te : TypeId} {f0 f1 : Field} {i j0 j1 : TypeInfo} (h : ListKey P K te f0 f1 i j0 j1) (w : World) (d : Nat) (a b : LK) (ha : Plain w a.1) (hb : Plain w b.1) : (Op.equalIn (d + 2) K (lkV a) (lkV b)).run P w = .ok (decide (a = b)) w := by
  have hs : (sizeOf te).run P w = .ok i.size w := by simp [sizeOf, typeInfo, h.it]
  have hp := run_sameAddr_plain (P := P) (w := w) (a := ⟨a.1, a.2.1, none⟩) (b := ⟨b.1, b.2.1, none⟩) ha hb rfl rfl
  rw [lk_eq]
  simp [Op.equalIn, lkV, lkCells, run_underlying h.und, h.held, h.n0, h.n1, part, isAgg, run_underlying h.u0, run_underlying h.u1, h.o0, h.o1, hs, h.sz, hp]
  by_cases h1 : a.1 = b.1 <;> by_cases h2 : a.2.1 = b.2.1 <;> by_cases h3 : (a.2.2 : Int) = (b.2.2 : Int) <;> simp [h1, h2, h3]

theorem listKey_ok {K te : TypeId} {f0 f1 : Field} {i j0 j1 : TypeInfo} (h : ListKey P K te f0 f1 i j0 j1) : KeyOK P K lkV (fun w a => Plain w a.1) where
  kind := ⟨_, h.und, fun a b => rfl⟩
  check := fun w em a _ => lk_check h w em 9998 a
  equal := fun w a b ha hb => lk_equal h w 9998 a b ha hb
  bits := fun a => by simp [lkV, lkCells, Instr.sameBits]

/-- a pair of them -/
def lk2V (a : LK × LK) : Value := .agg #[.pointer (some ⟨a.1.1, a.1.2.1, none⟩), .int .i64 a.1.2.2, .pointer (some ⟨a.2.1, a.2.2.1, none⟩), .int .i64 a.2.2.2]

theorem lk2_part {K te : TypeId} {f0 f1 : Field} {i j0 j1 : TypeInfo} (h : ListKey P K te f0 f1 i j0 j1) (w : World) (a : LK × LK) : (part K #[.pointer (some ⟨a.1.1, a.1.2.1, none⟩), .int .i64 a.1.2.2, .pointer (some ⟨a.2.1, a.2.2.1, none⟩), .int .i64 a.2.2.2] 0).run P w = .ok (lkV a.1) w ∧ (part K #[.pointer (some ⟨a.1.1, a.1.2.1, none⟩), .int .i64 a.1.2.2, .pointer (some ⟨a.2.1, a.2.2.1, none⟩), .int .i64 a.2.2.2] 2).run P w = .ok (lkV a.2) w := by
  have hs : (sizeOf K).run P w = .ok 2 w := by simp [sizeOf, typeInfo, h.ik, h.ck]
  constructor <;> simp [part, isAgg, run_underlying h.und, hs, lkV, lkCells]

theorem pairKey_ok {A K te : TypeId} {f0 f1 : Field} {i j0 j1 : TypeInfo} (h : ListKey P K te f0 f1 i j0 j1) (hA : P.underlying A = some (.array 2 K)) : KeyOK P A lk2V (fun w a => Plain w a.1.1 ∧ Plain w a.2.1) where
  kind := ⟨_, hA, fun a b => rfl⟩
  check := fun w em a _ => by
    have hs : (sizeOf K).run P w = .ok 2 w := by simp [sizeOf, typeInfo, h.ik, h.ck]
    obtain ⟨p0, p1⟩ := lk2_part h w a
    have c0 := lk_check h w em 9997 a.1
    have c1 := lk_check h w em 9997 a.2
    unfold lk2V Instr.checkKey
    simp only [Sem.run_bind, run_underlying hA, Result.andThen_ok]
    simp [Std.Legacy.Range.forIn_eq_forIn_range', Std.Legacy.Range.size, List.range', hs, p0, p1, c0, c1]
  equal := fun w a b ha hb => by
    obtain ⟨p0, p1⟩ := lk2_part h w a
    obtain ⟨q0, q1⟩ := lk2_part h w b
    have c0 : (Op.equalIn 9999 K (lkV a.1) (lkV b.1)).run P w = _ := lk_equal h w 9997 a.1 b.1 ha.1 hb.1
    have c1 : (Op.equalIn 9999 K (lkV a.2) (lkV b.2)).run P w = _ := lk_equal h w 9997 a.2 b.2 ha.2 hb.2
    have hc : P.cellsOf K = 2 := by simp [Program.cellsOf, h.ik, h.ck]
    show (Op.equalIn (9999 + 1) A _ _).run P w = _
    unfold lk2V
    rw [run_equalIn_array w 9999 _ _ hA h.ik, hc]
    have hab : decide (a = b) = (decide (a.1 = b.1) && decide (a.2 = b.2)) := by
      rw [Bool.eq_iff_iff]; simp [Prod.ext_iff]
    rw [hab]
    simp only [show List.range 2 = [0, 1] from rfl, Op.eqItems, Sem.run_bind, Nat.zero_mul, Nat.one_mul, p0, q0, Result.andThen_ok, c0]
    cases decide (a.1 = b.1) with
    | false => simp
    | true =>
      simp only [Bool.not_true, Bool.false_eq_true, if_false, Sem.run_bind, p1, q1, Result.andThen_ok, c1]
      cases decide (a.2 = b.2) <;> simp
  bits := fun a => by simp [lk2V, Instr.sameBits]

end

end Go.Proofs.Ytjpgnhpfmdjamaa
