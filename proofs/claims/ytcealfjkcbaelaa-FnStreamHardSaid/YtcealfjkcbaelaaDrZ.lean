import Derived.Test.YtcealfjkcbaelaaCpA
import Derived.Test.YtcealfjkcbaelaaPl
import Derived.Test.YtcealfjkcbaelaaDrY
import Derived.Test.YtcealfjkcbaelaaDrX
import Derived.ProofKit
/-
  What the model's l1Mutate comes to: some document of a bounded size, in memory of its own.
-/
set_option linter.unusedVariables false
set_option linter.unusedSimpArgs false
namespace Go.Proofs.Ytcealfjkcbaelaa.Mut
open Go.RowKit P1 Draw Draw2 Copy CopyS DrA DrD

theorem Grow.but {w w' : World} {T : TypeId} {lo x : Nat} {v : Value} {p : F} {fs : List Nat} (h : Grow w T lo v p fs) (k : But w.heap.size x w w') (hx : x < lo) : Grow w' T lo v p fs := by
  obtain ⟨⟨xs, h1⟩, h2, h3, h4⟩ := h
  have hg : w.grownBy w' (some x) := ⟨k.os, k.tape, k.output, k.size, fun i hi hne => k.block i hi (fun e => hne (by rw [e]))⟩
  have hc : ∀ c ∈ fs, ∀ o, w'.cell? ⟨c, o, none⟩ = w.cell? ⟨c, o, none⟩ := fun c hc o => k.cell (h3.lt c hc) (by have := (h3.2 c hc).1; omega)
  refine ⟨⟨xs, h1.kept hg ?_⟩, ?_, h3.alike k.size (fun c hc o => k.frozen (h3.lt c hc) (by have := (h3.2 c hc).1; omega)), Nat.le_trans h4 k.size⟩
  · right
    intro e
    have := (h1.lt x e).1
    omega
  · rcases h2 with h2 | ⟨b, cap, f', e, hp, rfl, hr⟩
    · exact .inl h2
    · exact .inr ⟨b, cap, f', e, hp, rfl, hr.congr (hc b (by simp)) (fun c hm => hc c (by simp [hm]))⟩
theorem Grow.setAt {w : World} {T : TypeId} {lo : Nat} {v : Value} {p : F} {fs : List Nat} (h : Grow w T lo v p fs) {a : Addr} (ho : v.ownBlock ≠ some a.block) (hf : a.block ∉ fs) (u : Value) : Grow (w.setCell a u) T lo v p fs := by
  obtain ⟨⟨xs, h1⟩, h2, h3, h4⟩ := h
  have hg : w.grownBy (w.setCell a u) (some a.block) := ⟨rfl, rfl, rfl, by simp [World.setCell], fun k hk hne => Below.heap_setCell _ _ _ _ (fun e => hne (by rw [e]))⟩
  have hc : ∀ c ∈ fs, ∀ o, (w.setCell a u).cell? ⟨c, o, none⟩ = w.cell? ⟨c, o, none⟩ := fun c hc o => World.cell?_setCell_other _ _ _ _ (fun e => hf (by subst e; exact hc))
  refine ⟨⟨xs, h1.kept hg (.inr ho)⟩, ?_, h3.alike (by simp) (fun c _ o => World.frozen?_setCell _ _ _ _), by simpa using h4⟩
  rcases h2 with h2 | ⟨b, cap, f', e, hp, rfl, hr⟩
  · exact .inl h2
  · exact .inr ⟨b, cap, f', e, hp, rfl, hr.congr (hc b (by simp)) (fun c hm => hc c (by simp [hm]))⟩

theorem rdSet' {wr : World} {x lo q b o : Nat} (h : Rd wr x lo q) (hb : x < b) (u : Value) : Rd (wr.setCell ⟨b, o, none⟩ u) x lo q := by
  obtain ⟨a, l, c, h0, h1, h2, h3, h4, h5, h6⟩ := h
  refine ⟨a, l, c, by rw [World.cell?_setCell_other _ _ _ _ (by intro e; injection e with e1; omega)]; exact h0, by rw [World.cell?_setCell_other _ _ _ _ (by intro e; injection e with e1; omega)]; exact h1, by rw [World.frozen?_setCell]; exact h2, h3, h4, h5, fun hl => ?_⟩
  obtain ⟨b', off, ha, hb', hc⟩ := h6 hl
  refine ⟨b', off, ha, hb', fun i hi => ?_⟩
  obtain ⟨v, hv, hcell⟩ := hc i hi
  exact ⟨v, hv, by rw [World.cell?_setCell_other _ _ _ _ (by intro e; injection e with e1; omega)]; exact hcell⟩

/-- some document, in memory of its own -/
def DocOut (w : World) (x lo p c M : Nat) (e : Ending) (w' : World) : Prop := ∃ (o n : Int) (t : ByteArray) (k : F) (a : Option Addr) (cap : Nat) (fs : List Nat) (q : Nat), e = .returned (.agg #[.int .i64 o, .int .i64 n, .string t, .slice a k.len cap]) ∧ k.len ≤ cap ∧ t.size + k.size ≤ M ∧
  SubAt w' a k fs ∧ Fresh w.heap.size w' fs ∧ Rd w' x lo q ∧ q ≤ p + c ∧ But w.heap.size x w w'

/-- the copy that is worked on: its variable at block B, its list in a row of the call's own -/
structure MS (w wr : World) (x lo q B : Nat) (o n : Int) (t : ByteArray) (v : Value) (k : F) (fs : List Nat) : Prop where
  rd : Rd wr x lo q
  but : But w.heap.size x w wr
  th : wr.there (w.heap.size + 1) 0 4
  c0 : wr.cell? ⟨B, 0, none⟩ = some (.int .i64 o)
  c1 : wr.cell? ⟨B, 1, none⟩ = some (.int .i64 n)
  c2 : wr.cell? ⟨B, 2, none⟩ = some (.string t)
  c3 : wr.cell? ⟨B, 3, none⟩ = some v
  fz : ∀ i, wr.frozen? ⟨B, i, none⟩ = false
  hB : w.heap.size + 5 ≤ B
  lt : B < wr.heap.size
  gr : Grow wr 25 (w.heap.size + 5) v k fs
  oB : v.ownBlock ≠ some B
  fB : B ∉ fs

section
variable {w wr w' : World} {x lo q B : Nat} {o n : Int} {t : ByteArray} {v : Value} {k : F} {fs : List Nat}
theorem MS.step (h : MS w wr x lo q B o n t v k fs) (hx : x < w.heap.size) {q' : Nat} (kk : But wr.heap.size x wr w') (hr : Rd w' x lo q') : MS w w' x lo q' B o n t v k fs := by
  have hB := h.hB
  have hl := h.lt
  have hne : B ≠ x := by omega
  exact ⟨hr, h.but.trans (kk.mono h.but.size), fun j hj => ⟨by rw [kk.cell (by omega) (by omega)]; exact (h.th j hj).1, by rw [kk.frozen (by omega) (by omega)]; exact (h.th j hj).2⟩, (kk.cell hl hne).trans h.c0, (kk.cell hl hne).trans h.c1, (kk.cell hl hne).trans h.c2, (kk.cell hl hne).trans h.c3, fun i => (kk.frozen hl hne).trans (h.fz i), hB, Nat.lt_of_lt_of_le hl kk.size, Grow.but h.gr kk (by omega), h.oB, h.fB⟩
theorem MS.alloc (h : MS w wr x lo q B o n t v k fs) (hx : x < w.heap.size) (ob : Obj) : MS w (wr.alloc ob) x lo q B o n t v k fs :=
  h.step hx ((But.refl _ _ _).alloc (Nat.le_refl _) _) (rdBelow h.rd (by have := h.hB; have := h.lt; omega) ((Below.refl _ _).alloc (Nat.le_refl _) _))
theorem MS.end (h : MS w wr x lo q B o n t v k fs) (hx : x < w.heap.size) {w4 : World} {p c M : Nat} (ht : Touch (w.heap.size + 1) (w.heap.size + 2) wr w4) (hM : t.size + k.size ≤ M) (hq : q ≤ p + c) : DocOut w x lo p c M (.returned (.agg #[.int .i64 o, .int .i64 n, .string t, v])) w4 := by
  obtain ⟨a, cap, rfl, hc, hs, _⟩ := h.gr.slice
  have hlo : ∀ c ∈ fs, w.heap.size + 2 ≤ c := fun c hc => by have := (h.gr.fresh.2 c hc).1; omega
  exact ⟨o, n, t, k, a, cap, fs, q, rfl, hc, hM, ht.sub hs (fun c hc => Or.inr (hlo c hc)), (ht.fresh h.gr.fresh (fun c hc => Or.inr (hlo c hc))).mono (by omega), rdTouch h.rd (by omega) ht, hq, butTouch h.but ht (by omega)⟩
end
theorem MS.grown {w wr wr' : World} {x lo q B : Nat} {o n : Int} {t : ByteArray} {v v' : Value} {k k' : F} {fs fs' : List Nat} (h : MS w wr x lo q B o n t v k fs) (hx : x < w.heap.size) (hG : Grow wr' 25 (w.heap.size + 5) v' k' fs') (hb : Below (w.heap.size + 5) wr wr') (hgb : wr.grownBy wr' v.ownBlock)
    (hwh : ∀ q ∈ fs', some q = v.ownBlock ∨ q ∈ fs ∨ q ∈ ([] : List Nat) ∨ q = wr.heap.size) (hne : k' ≠ .nil) :
    (wr'.cell? ⟨B, 3, none⟩ = some v ∧ wr'.frozen? ⟨B, 3, none⟩ = false) ∧ MS w (wr'.setCell ⟨B, 3, none⟩ v') x lo q B o n t v' k' fs' := by
  have hB := h.hB
  have hl := h.lt
  have hbk : wr'.heap[B]? = wr.heap[B]? := hgb.block B hl (fun e => h.oB e.symm)
  have hc : ∀ i, wr'.cell? ⟨B, i, none⟩ = wr.cell? ⟨B, i, none⟩ := fun i => World.cell?_of_block (w := wr) hbk
  have hz : ∀ i, wr'.frozen? ⟨B, i, none⟩ = wr.frozen? ⟨B, i, none⟩ := fun i => World.frozen?_of_block (w := wr) hbk
  have hfB : B ∉ fs' := fun hm => by
    rcases hwh B hm with e | e | e | e
    · exact h.oB e.symm
    · exact h.fB e
    · cases e
    · omega
  have hoB : v'.ownBlock ≠ some B := fun e => by
    rcases hG.2.1 with ⟨h1, _⟩ | ⟨b, cap, f', rfl, _, rfl, _⟩
    · exact hne h1
    · simp only [Value.ownBlock, Option.some.injEq] at e
      subst e
      exact hfB (by simp)
  refine ⟨⟨(hc 3).trans h.c3, (hz 3).trans (h.fz 3)⟩, rdSet' (rdBelow h.rd (by omega) hb) (by omega) _, (h.but.trans (But.of_below (hb.mono (by omega)))).setCell (Or.inr (by show w.heap.size ≤ B; omega)) _, fun j hj => ⟨?_, ?_⟩, ?_, ?_, ?_, World.cell?_setCell_same _ _ _ ((hc 3).trans h.c3), fun i => by rw [World.frozen?_setCell]; exact (hz i).trans (h.fz i), hB, by have := hb.size; simp; omega, Grow.setAt hG hoB hfB _, hoB, hfB⟩
  · rw [World.cell?_setCell_other _ _ _ _ (fun e => by injection e with e4; omega)]
    exact (there_below h.th (by omega) hb j hj).1
  · rw [World.frozen?_setCell]
    exact (there_below h.th (by omega) hb j hj).2
  · rw [World.cell?_setCell_other _ _ _ _ (by simp)]; exact (hc 0).trans h.c0
  · rw [World.cell?_setCell_other _ _ _ _ (by simp)]; exact (hc 1).trans h.c1
  · rw [World.cell?_setCell_other _ _ _ _ (by simp)]; exact (hc 2).trans h.c2
end Go.Proofs.Ytcealfjkcbaelaa.Mut

/-
  The contract of the model's l1Mutate, at the documents of every list.
-/
set_option linter.unusedVariables false
set_option linter.unusedSimpArgs false
namespace Go.Proofs.Ytcealfjkcbaelaa.Mut2
open Go.RowKit P1 Draw Draw2 Copy CopyS DrA DrD Mut
end Go.Proofs.Ytcealfjkcbaelaa.Mut2

/-
  An argument of bytes, opened; and what a law's walk over draws needs.
-/
set_option linter.unusedVariables false
set_option linter.unusedSimpArgs false
namespace Go.Proofs.Ytcealfjkcbaelaa.LawC
open Go.ChangeShapes Go.WideShapes Go.ChangeAt Go.RowKit P1 Draw6

theorem bytes_of {W : World} {a : Addr} {l : Nat} {zs : List Int} (hl : l ≤ zs.length) (hc : ∀ i, i < zs.length → W.cell? (a.add i) = some (.int .u8 (zs.getD i 0))) (hz : ∀ n ∈ zs, (Lit.int .u8 n).wf = true) : Bytes W (some a) l := by
  intro h0
  have hsp : a.spot = none := by
    have h := hc 0 (by omega)
    rw [show a.add 0 = a from rfl] at h
    unfold World.cell? at h
    split at h
    · split at h
      · cases h
      · rename_i hs; simpa using hs
    · cases h
  obtain ⟨b, off, sp⟩ := a
  obtain rfl : sp = none := hsp
  refine ⟨b, off, rfl, World.block_lt_of_cell? _ _ (hc 0 (by omega)), fun i hi => ?_⟩
  have hi' : i < zs.length := by omega
  have h2 := hz (zs.getD i 0) (by rw [List.getD_eq_getElem?_getD, List.getElem?_eq_getElem hi']; exact List.getElem_mem hi')
  have h1 : IntKind.u8.min = 0 := rfl
  have h3 : IntKind.u8.max = 255 := rfl
  simp only [Lit.wf, Bool.and_eq_true, decide_eq_true_eq] at h2
  refine ⟨(zs.getD i 0).toNat, by omega, ?_⟩
  have e : ((zs.getD i 0).toNat : Int) = zs.getD i 0 := by omega
  rw [e]
  have ea : ((⟨b, off, none⟩ : Addr).add i) = ⟨b, off + i, none⟩ := by
    unfold Addr.add
    split
    · rename_i h0; subst h0; rfl
    · rfl
  rw [← ea]
  exact hc i hi'

theorem opened {H : Type} {enc : TypeId × Value → H} {W : World} {a : Option Addr} {len cap : Nat} {d : DataW H} {p : List MemPlace} (h0 : DataW.Trod enc Try.prog W 0 (fun _ => true) true 22 (.slice a len cap) d p) :
    Bytes W a len ∧ len ≤ cap ∧ cap ≤ maxLen := by
  have hc : Try.prog.cellsOf 5 = 1 := by kernel_rfl
  obtain ⟨fuel, hf⟩ := h0
  rcases open_ints Try.underlying22 Try.underlying5 hc hf with ⟨hcs, hx⟩ | ⟨a, len', cap', zs, hcs, _, hl, hm, hz, hx, hcell, hwz⟩
  · simp [Value.cells] at hcs
    obtain ⟨rfl, rfl, rfl⟩ := hcs
    exact ⟨fun h => by omega, by omega, by unfold maxLen; omega⟩
  · simp [Value.cells] at hcs
    obtain ⟨rfl, rfl, rfl⟩ := hcs
    simp only [if_true] at hz
    exact ⟨bytes_of (by omega) hcell hwz, hl, hm⟩

end Go.Proofs.Ytcealfjkcbaelaa.LawC

/-
  What the model's draws of documents, perhaps changed in a place or two, come to: some document of a bounded size in memory of its own.
-/
set_option linter.unusedVariables false
set_option linter.unusedSimpArgs false
namespace Go.Proofs.Ytcealfjkcbaelaa.DrI
open Go.RowKit P1 Draw Draw2 Draw6 Copy DrA DrD Mut Mut2
end Go.Proofs.Ytcealfjkcbaelaa.DrI

/-
  What the model's DrawFlatText comes to: some document of a bounded size in memory of its own.
-/
set_option linter.unusedVariables false
set_option linter.unusedSimpArgs false
namespace Go.Proofs.Ytcealfjkcbaelaa.DrK
open Go.RowKit P1 Draw Draw2 Draw6 Copy DrA DrD Mut Mut2 DrI
end Go.Proofs.Ytcealfjkcbaelaa.DrK

/-
  What the model's DrawOpenLayout comes to.
-/
set_option linter.unusedVariables false
set_option linter.unusedSimpArgs false
namespace Go.Proofs.Ytcealfjkcbaelaa.DrL
open Go.RowKit P1 Draw Draw2 Draw6 Copy DrA DrD Mut Mut2 DrI
end Go.Proofs.Ytcealfjkcbaelaa.DrL

