import Derived.Test.YthlgjnmfblkegaaDrX
import Derived.Test.YthlgjnmfblkegaaDrE
import Derived.ProofKit
/-
  An argument of bytes, opened; and what a law's walk over draws needs.
-/
set_option linter.unusedVariables false
set_option linter.unusedSimpArgs false
namespace Go.Proofs.Ythlgjnmfblkegaa.LawB
open Go.ChangeShapes Go.WideShapes Go.ChangeAt Go.RowKit P1 Draw6

theorem bytes_of {W : World} {a : Addr} {l : Nat} {zs : List Int} (hl : l ≤ zs.length) (hc : ∀ i, i < zs.length → W.cell? (a.add i) = some (.int .u8 (zs.getD i 0))) (hz : ∀ n ∈ zs, (Lit.int .u8 n).wf = true) : Bytes W (some a) l := by
  intro h0
  have hsp : a.spot = none := by
    have h := hc 0 (by omega)
    rw [show a.add 0 = a from rfl] at h
    unfold World.cell? at h
    split at h
    · split at h
      · cases h
      · rename_i hs; simpa using hs
    · cases h
  obtain ⟨b, off, sp⟩ := a
  obtain rfl : sp = none := hsp
  refine ⟨b, off, rfl, World.block_lt_of_cell? _ _ (hc 0 (by omega)), fun i hi => ?_⟩
  have hi' : i < zs.length := by omega
  have h2 := hz (zs.getD i 0) (by rw [List.getD_eq_getElem?_getD, List.getElem?_eq_getElem hi']; exact List.getElem_mem hi')
  have h1 : IntKind.u8.min = 0 := rfl
  have h3 : IntKind.u8.max = 255 := rfl
  simp only [Lit.wf, Bool.and_eq_true, decide_eq_true_eq] at h2
  refine ⟨(zs.getD i 0).toNat, by omega, ?_⟩
  have e : ((zs.getD i 0).toNat : Int) = zs.getD i 0 := by omega
  rw [e]
  have ea : ((⟨b, off, none⟩ : Addr).add i) = ⟨b, off + i, none⟩ := by
    unfold Addr.add
    split
    · rename_i h0; subst h0; rfl
    · rfl
  rw [← ea]
  exact hc i hi'

theorem opened {H : Type} {enc : TypeId × Value → H} {W : World} {a : Option Addr} {len cap : Nat} {d : DataW H} {p : List MemPlace} (h0 : DataW.Trod enc Try.prog W 0 (fun _ => true) true 22 (.slice a len cap) d p) :
    Bytes W a len ∧ len ≤ cap ∧ cap ≤ maxLen := by
  have hc : Try.prog.cellsOf 5 = 1 := by kernel_rfl
  obtain ⟨fuel, hf⟩ := h0
  rcases open_ints Try.underlying22 Try.underlying5 hc hf with ⟨hcs, hx⟩ | ⟨a, len', cap', zs, hcs, _, hl, hm, hz, hx, hcell, hwz⟩
  · simp [Value.cells] at hcs
    obtain ⟨rfl, rfl, rfl⟩ := hcs
    exact ⟨fun h => by omega, by omega, by unfold maxLen; omega⟩
  · simp [Value.cells] at hcs
    obtain ⟨rfl, rfl, rfl⟩ := hcs
    simp only [if_true] at hz
    exact ⟨bytes_of (by omega) hcell hwz, hl, hm⟩

theorem bytes_below {w W : World} {a : Option Addr} {len : Nat} (h : Bytes w a len) (k : Below w.heap.size w W) : Bytes W a len := fun h0 => by
  obtain ⟨b, off, ha, hb, hc⟩ := h h0
  refine ⟨b, off, ha, Nat.lt_of_lt_of_le hb k.size, fun i hi => ?_⟩
  obtain ⟨v, hv, hcell⟩ := hc i hi
  exact ⟨v, hv, (k.cell (p := ⟨b, off + i, none⟩) hb).trans hcell⟩
theorem one_new (w : World) (T : TypeId) : LaySub (w.alloc (.cells #[.int .i64 0, .string ⟨#[]⟩] T)) (some ⟨w.heap.size, 0, none⟩) [(0, ⟨#[]⟩)] [w.heap.size] :=
  .inr ⟨_, _, rfl, by simp, rfl, fun i hi => by
    obtain rfl : i = 0 := by simpa using hi
    exact ⟨by rw [World.cell?_alloc_new]; rfl, by rw [World.cell?_alloc_new]; rfl⟩⟩

end Go.Proofs.Ythlgjnmfblkegaa.LawB

