import Derived.Test.YtmkibpimjaofgaaDr7
/-
  What DrawWithoutGroups draws: some document.
-/
set_option linter.unusedVariables false
set_option linter.unusedSimpArgs false
namespace Go.Proofs.Ytmkibpimjaofgaa.Dr7
open Go.RowKit P1 Draw Draw2 Draw6 Copy DrA DrB DrC CatD ParseD DrD Mut Mut2 DrI DrN

set_option maxRecDepth 100000 in
set_option maxHeartbeats 1600000 in
theorem drawWithoutGroups (w : World) (a : Option Addr) (len cap : Nat) (hb : Bytes w a len) (hlc : len ≤ cap) (hcm : cap ≤ maxLen) :
    Calls Try.prog 40 #[.slice a len cap] w (Dr7 w) := by
  have HO := Lib.hid (fun ob => l7Case (w.alloc ob) a len cap (LawC.bytes_below hb ((Below.refl _ _).alloc (Nat.le_refl _) ob)) hlc hcm)
  clear hb hlc hcm
  go_enter Try.func40, Try.ntmps40
  go_wp2_with fail
  refine (HO.out _).mono ?_
  rintro e1 w4 ⟨o3, n3, t3, k3, a3, c3, f3, rfl, hc3, hs3, hsub3, hfr3, hb1⟩
  have hth1 := four_new hb1
  simp only [World.size_alloc] at hfr3
  have hl : w.heap.size < w4.heap.size := by have := hb1.size; simp at this; omega
  obtain ⟨⟨u0, u1, u2, u3, y0, y1, y2, y3⟩, z0, z1, z2, z3⟩ := there_at hth1
  have HE := Lib.hid (And.intro hc3 (And.intro hs3 (And.intro hsub3 (And.intro hfr3 (opened' hb1)))))
  clear hc3 hs3 hsub3 hfr3 hb1 hth1
  go_wp2_with fail
  refine bodyPost_ret (v := .agg #[.int .i64 o3, .int .i64 n3, .string t3, .slice a3 k3.len c3]) (by simp [results, Try.results40, go_sem, y0, y1, y2, y3, hl]) rfl ?_
  have htt : Touch w.heap.size (w.heap.size + 1) w4 ((((w4.setCell ⟨w.heap.size, 0, none⟩ (.int .i64 o3)).setCell ⟨w.heap.size, 1, none⟩ (.int .i64 n3)).setCell ⟨w.heap.size, 2, none⟩ (.string t3)).setCell ⟨w.heap.size, 3, none⟩ (.slice a3 k3.len c3)) := by
    refine Touch.setCell (Touch.setCell (Touch.setCell (Touch.setCell (Touch.refl _ _ _) ?_ ?_ _) ?_ ?_ _) ?_ ?_ _) ?_ ?_ _ <;> simp
  obtain ⟨hc, hs, hsub, hfr, hB⟩ := HE.out
  have hfo : ∀ c ∈ f3, c < w.heap.size ∨ w.heap.size + 1 ≤ c := fun c hc => Or.inr (hfr.2 c hc).1
  exact ⟨o3, n3, t3, k3, a3, c3, f3, rfl, hc, hs, htt.sub hsub hfo, (htt.fresh hfr hfo).mono (by omega), htt.below hB (Nat.le_refl _)⟩

end Go.Proofs.Ytmkibpimjaofgaa.Dr7

