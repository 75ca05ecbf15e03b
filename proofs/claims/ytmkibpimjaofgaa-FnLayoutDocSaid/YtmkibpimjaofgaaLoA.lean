import Derived.Test.YtmkibpimjaofgaaLoO
/-
  layOut of the program, whatever the item; the next item is taken.
-/
set_option linter.unusedVariables false
set_option linter.unusedSimpArgs false
namespace Go.Proofs.Ytmkibpimjaofgaa.RnM
open Go.RowKit Go.Shelf P1 Cnt CntC Flat Wid ChP Rn Rf Bwd BufQ

theorem layOut {w0 w : World} {B b : Nat} {W : Int} {r : List Itm} {s : St} {x : Itm} {a : Option Addr} {cap Z : Nat} (hB0 : Below B w0 w) (hBw0 : B ≤ w0.heap.size) (h : RS w0 B b W r s w) (hW0 : 0 ≤ W) (hW1 : W ≤ 200) (hk : KidsIn w0 B x.k a cap) (hb : Bnd Z (x :: r) s) (hZ : Z ≤ 4000000) :
    Calls Try.prog 156 #[.pointer (some ⟨b, 0, none⟩), .agg #[.int .i64 x.o, .int .i64 x.n, .string x.t, .slice a x.k.len cap, .int .i64 x.i]] w fun e w' => e = .returned (.tuple #[]) ∧ RS w0 B b W (stepI W x r s).1 (stepI W x r s).2 w' ∧ Below B w w' := by
  obtain ⟨⟨d, hd, hok⟩, hi0, hi1⟩ := hb.ok x (by simp)
  have hw := hb.wt
  have hz := hb.sz
  have hind := hb.ind
  simp only [wtI, szI] at hw hz
  have hlw := len_wt r
  have hld := ldI_sz r
  have hkl := F.len_le_size x.k
  unfold stepI
  by_cases hn : nl x.o = true
  · rw [if_pos hn]
    exact layOut_line (Nat.le_trans hBw0 hB0.size) h (by omega) x hn a cap
  · rw [if_neg hn]
    simp only [Bool.not_eq_true] at hn
    obtain ⟨n0, n9⟩ : 0 ≤ x.n ∧ x.n ≤ 9 := by
      cases d with
      | zero => rw [okD_zero] at hok; cases hok
      | succ d => obtain ⟨h1, h2, _⟩ := node_n (okD_parts hok).1; exact ⟨h1, h2⟩
    by_cases h8 : x.o = 8
    · obtain ⟨i, o, n, t, k⟩ := x
      simp only at h8 hok hi0 hi1 hw hz hk n0 n9 hkl ⊢
      subst h8
      by_cases hf : fitB W (ldI r) s t k = true
      · rw [if_pos (by simp [hf])]
        exact layOut_flat hB0 hBw0 h (by omega) hind.1 (by omega) (by omega) hW0 (by omega) (by omega) (fun y hy => by have := mem_sz y hy; omega) (by omega) hk hok (by omega) hf
      · simp only [Bool.not_eq_true] at hf
        rw [if_neg (by simp [hf]), if_pos (by simp)]
        exact layOut_eight hB0 hBw0 h (by omega) hind.1 (by omega) (by omega) hW0 (by omega) (by omega) (fun y hy => by have := mem_sz y hy; omega) (by omega) hk hok hf (by omega) hi0 (by omega) n0 (by omega)
    · rw [if_neg (by simp [h8]), if_neg (by simp [h8])]
      exact layOut_else hB0 hBw0 h (by omega) hind.1 (by omega) (by omega) hW0 (by omega) (by omega) (fun y hy => by have := mem_sz y hy; omega) (by omega) hk hok hn (by simp [h8]) (by omega) hi0 (by omega) n0 (by omega)

theorem RF.pop {w0 w : World} {B b : Nat} {W : Int} {x : Itm} {r : List Itm} {s : St} {fa fr fl fi fg : Value} (h : RF w0 B b W (x :: r) s ⟨fa, fr, fl, fi, fg⟩ w) : ∃ (g cap : Nat) (a : Option Addr) (c : Nat), fr = .slice (some ⟨g, 0, none⟩) (r.length + 1) cap ∧ g < w.heap.size ∧ r.length + 1 ≤ cap ∧ KidsIn w0 B x.k a c ∧
    (w.cell? ⟨g, r.length * 5, none⟩ = some (.int .i64 x.o) ∧ w.cell? ⟨g, r.length * 5 + 1, none⟩ = some (.int .i64 x.n) ∧ w.cell? ⟨g, r.length * 5 + 2, none⟩ = some (.string x.t) ∧ w.cell? ⟨g, r.length * 5 + 3, none⟩ = some (.slice a x.k.len c) ∧ w.cell? ⟨g, r.length * 5 + 4, none⟩ = some (.int .i64 x.i)) ∧
    (∀ w', Below w.heap.size w w' → RF w0 B b W r s ⟨fa, .slice (some ⟨g, 0, none⟩) r.length cap, fl, fi, fg⟩ (w'.setCell ⟨b, 5, none⟩ (.slice (some ⟨g, 0, none⟩) r.length cap))) := by
  obtain ⟨g, cap, c, hr, h1, h2, h3, _, ⟨a, cp, rfl, hkid⟩, h5, h6⟩ := StackG.top ItV.len h.rest
  have d0 := h5 0 (by omega)
  have d1 := h5 1 (by omega)
  have d2 := h5 2 (by omega)
  have d3 := h5 3 (by omega)
  have d4 := h5 4 (by omega)
  simp only [List.getElem?_cons_zero, List.getElem?_cons_succ, Nat.add_zero] at d0 d1 d2 d3 d4
  refine ⟨g, cap, a, cp, hr, h2, h3, hkid, ⟨d0, d1, d2, d3, d4⟩, fun w' hb => ?_⟩
  have h' := h.below hb
  exact h'.set (row := none) ⟨rfl, rfl, rfl, Nat.le_refl _, fun _ _ _ => rfl⟩ (by simp) 5 (.slice (some ⟨g, 0, none⟩) r.length cap) ⟨fa, .slice (some ⟨g, 0, none⟩) r.length cap, fl, fi, fg⟩ (fun p v => rfl) r s rfl (h6.below (Nat.le_refl _) hb) h'.rows h'.flags h.ind h.wid

end Go.Proofs.Ytmkibpimjaofgaa.RnM

