import Derived.Test.YtpiaiandjnpdfaaDocL
/-
  A group around a document, and a group around that: their layouts; how two such documents lie in memory.
-/
set_option linter.unusedVariables false
set_option linter.unusedSimpArgs false
namespace Go.Proofs.Ytpiaiandjnpdfaa.DocL
open Go.RowKit P1 CntC LayN OpenR ChP ChO It Wid
open Ls hiding Lay

abbrev gD (o n : Int) (t : ByteArray) (k : F) : F := .cons o n t k .nil

theorem noF_grp (o n : Int) (t : ByteArray) (k : F) : noF (gD 8 0 ⟨#[]⟩ (gD o n t k)) = noF (gD o n t k) := by simp [noF, gD]
theorem flD_grp (o n : Int) (t : ByteArray) (k : F) : Flat.flD 8 ⟨#[]⟩ (gD 8 0 ⟨#[]⟩ (gD o n t k)) = Flat.flD 8 ⟨#[]⟩ (gD o n t k) := by
  simp only [Flat.flD, gD, Flat.fl, Flat.none_app, Flat.app_none]; simp [Flat.none_app, Flat.app_none]
/-- the layouts of a group: its flat text, if there is one, and those of what it holds -/
theorem lays_group {o n : Int} {t : ByteArray} {k : F} (h : toldD o n t k = true) (hg : toldD 8 0 ⟨#[]⟩ (gD o n t k) = true) :
    laysD 8 0 ⟨#[]⟩ (gD o n t k) = if noF (gD o n t k) then [(0, Flat.flD 8 ⟨#[]⟩ (gD o n t k))] :: laysD o n t k else laysD o n t k := by
  rw [lays_yes h, lays_yes hg, ctD_group, ctF_one]
  by_cases hn : noF (gD o n t k) = true
  · rw [if_pos hn, if_pos hn]
    unfold upto
    rw [List.range_succ_eq_map, List.map_cons, List.map_map]
    congr 1
    · rw [pkD_group, if_pos hn, if_pos rfl]
    · refine List.map_congr_left fun i _ => ?_
      simp only [Function.comp_apply]
      rw [pkD_group, if_pos hn, if_neg (Nat.succ_ne_zero i)]
      rfl
  · rw [if_neg hn, if_neg hn]
    unfold upto
    refine List.map_congr_left fun i _ => ?_
    rw [pkD_group, if_neg hn]
theorem dist_twice (x : Ls.Lay) (ls : List Ls.Lay) : dist (x :: x :: ls) = dist (x :: ls) := by
  simp [dist, inL]
theorem lays_twice {o n : Int} {t : ByteArray} {k : F} (h : toldD o n t k = true) (hg : toldD 8 0 ⟨#[]⟩ (gD o n t k) = true) (hh : toldD 8 0 ⟨#[]⟩ (gD 8 0 ⟨#[]⟩ (gD o n t k)) = true) :
    dist (laysD 8 0 ⟨#[]⟩ (gD o n t k)) = dist (laysD 8 0 ⟨#[]⟩ (gD 8 0 ⟨#[]⟩ (gD o n t k))) ∧ ∀ x ∈ dist (laysD o n t k), inL (laysD 8 0 ⟨#[]⟩ (gD o n t k)) x = true := by
  have h1 := lays_group h hg
  have h2 := lays_group hg hh
  rw [noF_grp, flD_grp] at h2
  refine ⟨?_, fun x hx => inL_iff.2 ?_⟩
  · rw [h2]
    by_cases hn : noF (gD o n t k) = true
    · rw [if_pos hn] at h1 ⊢
      rw [h1, dist_twice]
    · rw [if_neg hn]
  · have := (dist_mem _ x).1 hx
    rw [h1]
    split
    · exact List.mem_cons_of_mem _ this
    · exact this

theorem two_groups {w3 W : World} {c0 c2 : Array Value} {u0 u1 u2 u3 v0 v1 v2 v3 : Value} {T0 T1 T2 T3 : TypeId} (h : Ext ((((w3.alloc (.cells c0 T0)).alloc (.cells #[u0, u1, u2, u3] T1)).alloc (.cells c2 T2)).alloc (.cells #[v0, v1, v2, v3] T3)) W) :
    (W.cell? ⟨w3.heap.size + 1, 0, none⟩ = some u0 ∧ W.cell? ⟨w3.heap.size + 1, 1, none⟩ = some u1 ∧ W.cell? ⟨w3.heap.size + 1, 2, none⟩ = some u2 ∧ W.cell? ⟨w3.heap.size + 1, 3, none⟩ = some u3) ∧
    (W.cell? ⟨w3.heap.size + 1 + 1 + 1, 0, none⟩ = some v0 ∧ W.cell? ⟨w3.heap.size + 1 + 1 + 1, 1, none⟩ = some v1 ∧ W.cell? ⟨w3.heap.size + 1 + 1 + 1, 2, none⟩ = some v2 ∧ W.cell? ⟨w3.heap.size + 1 + 1 + 1, 3, none⟩ = some v3) ∧
    w3.heap.size + 1 + 1 + 1 < W.heap.size ∧ Ext w3 W ∧ Ext (w3.alloc (.cells c0 T0)) W ∧ Ext (((w3.alloc (.cells c0 T0)).alloc (.cells #[u0, u1, u2, u3] T1)).alloc (.cells c2 T2)) W := by
  have e1 : (w3.alloc (.cells c0 T0)).heap.size = w3.heap.size + 1 := by simp
  have e3 : (((w3.alloc (.cells c0 T0)).alloc (.cells #[u0, u1, u2, u3] T1)).alloc (.cells c2 T2)).heap.size = w3.heap.size + 1 + 1 + 1 := by simp
  have hs := h.size
  simp only [World.size_alloc] at hs
  have k2 := (((Ext.refl ((w3.alloc (.cells c0 T0)).alloc (.cells #[u0, u1, u2, u3] T1))).alloc (.cells c2 T2)).alloc (.cells #[v0, v1, v2, v3] T3)).trans h
  refine ⟨?_, ?_, by omega, ((((Ext.refl w3).alloc _).alloc _).alloc _).alloc _ |>.trans h, (((Ext.refl _).alloc _).alloc _).alloc _ |>.trans h, ((Ext.refl _).alloc _).trans h⟩
  · have hb := DocK.box_new (w3.alloc (.cells c0 T0)) T1 u0 u1 u2 u3
    rw [e1] at hb
    exact DocK.box4 hb (by simp) k2
  · have hb := DocK.box_new (((w3.alloc (.cells c0 T0)).alloc (.cells #[u0, u1, u2, u3] T1)).alloc (.cells c2 T2)) T3 v0 v1 v2 v3
    rw [e3] at hb
    exact DocK.box4 hb (by simp) h

theorem around2 {w W : World} {o n : Int} {t : ByteArray} {k : F} {a : Option Addr} {cap : Nat} {fs : List Nat} (h : DocK.Doc0 w n t k a cap fs) (hsz : t.size + k.size ≤ 99990) (T T1 T2 : TypeId)
    (e : Ext (((w.alloc (.cells #[.int .i64 o, .int .i64 n, .string t, .slice a k.len cap] T)).alloc (.cells #[.int .i64 8, .int .i64 0, .string ⟨#[]⟩, .slice (some ⟨w.heap.size, 0, none⟩) 1 1] T1)).alloc (.cells #[.int .i64 8, .int .i64 0, .string ⟨#[]⟩, .slice (some ⟨w.heap.size, 0, none⟩) 1 1] T2)) W) :
    ∃ fs, DocK.Doc0 W 0 ⟨#[]⟩ (gD 8 0 ⟨#[]⟩ (gD o n t k)) (some ⟨w.heap.size + 1 + 1, 0, none⟩) 1 fs := by
  have h1 := DocC.around h (by omega) o 0 T ((w.alloc (.cells #[.int .i64 o, .int .i64 n, .string t, .slice a k.len cap] T)).alloc (.cells #[.int .i64 8, .int .i64 0, .string ⟨#[]⟩, .slice (some ⟨w.heap.size, 0, none⟩) 1 1] T1)) ((Ext.refl _).alloc _)
  have e0 : (⟨#[]⟩ : ByteArray).size = 0 := rfl
  have h2 := DocC.around h1 (by simp only [F.size]; omega) 8 0 T2 W e
  have e2 : ((w.alloc (.cells #[.int .i64 o, .int .i64 n, .string t, .slice a k.len cap] T)).alloc (.cells #[.int .i64 8, .int .i64 0, .string ⟨#[]⟩, .slice (some ⟨w.heap.size, 0, none⟩) 1 1] T1)).heap.size = w.heap.size + 1 + 1 := by simp
  rw [e2] at h2
  exact ⟨_, h2⟩

end Go.Proofs.Ytpiaiandjnpdfaa.DocL

