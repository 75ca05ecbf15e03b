import Derived.Test.YtgkbagcgbfgllaaRnR
import Derived.Test.YtgkbagcgbfgllaaDocW
/-
  RenderDoc at a document that stays; what a group, a nest of 0 and a rendered layout come to there.
-/
set_option linter.unusedVariables false
set_option linter.unusedSimpArgs false
namespace Go.Proofs.Ytgkbagcgbfgllaa.DocR
open Go.RowKit P1 CntC Wid LayN OpenR ChP Rn

theorem rn_valid {W o n : Int} {t : ByteArray} {k : F} (h : rightD W o n t k = true) : validD o n t k = true ∧ 0 ≤ W ∧ W ≤ 200 := by simpa [rightD] using h
theorem rn_true {W o n : Int} {t : ByteArray} {k : F} {X : Lay} (h : rnR W o n t k = (X, true)) : rightD W o n t k = true ∧ (stD W o n t k).fin = X := by
  cases hr : rightD W o n t k with
  | false => rw [RnR.rnR_no hr] at h; injection h with _ h; cases h
  | true => rw [RnR.rnR_yes hr] at h; injection h with h _; exact ⟨rfl, h⟩
theorem rn_false {W o n : Int} {t : ByteArray} {k : F} {X : Lay} (h : rnR W o n t k = (X, false)) : X = [] := by
  cases hr : rightD W o n t k with
  | false => rw [RnR.rnR_no hr] at h; injection h with h _; exact h.symm
  | true => rw [RnR.rnR_yes hr] at h; injection h with _ h; cases h
theorem rn_ok (W o n : Int) (t : ByteArray) (k : F) : (rnR W o n t k).1 = [] ∨ lv (rnR W o n t k).1 = true := by
  cases hr : rightD W o n t k with
  | false => rw [RnR.rnR_no hr]; exact .inl rfl
  | true => rw [RnR.rnR_yes hr]; exact .inr (rn_lv W (rn_valid hr).1)

section
variable {w w' : World} {o n : Int} {t : ByteArray} {k : F} {a : Option Addr} {cap : Nat} {fs : List Nat}
theorem implRender (h : DocK.Doc0 w n t k a cap fs) (o W : Int) : Calls Try.prog 15 #[.agg #[.int .i64 o, .int .i64 n, .string t, .slice a k.len cap], .int .i64 W] w (DocO.Out w (rnR W o n t k).1 (rnR W o n t k).2) :=
  (RnR.implRenderDoc w W o n t k a cap fs h.sub h.ok h.cap_le (by have := h.size; omega) h.fits h.tfit).mono fun _ _ g => DocO.Out.of g (rn_ok W o n t k)
theorem specRender (h : DocK.Doc0 w n t k a cap fs) (o W : Int) : Calls Try.prog 16 #[.agg #[.int .i64 o, .int .i64 n, .string t, .slice a k.len cap], .int .i64 W] w (DocO.Out w (rnR W o n t k).1 (rnR W o n t k).2) :=
  (RnR.specRenderDoc w W o n t k a cap fs h.sub h.lt h.cap_le (by have := h.size; omega) h.fits h.tfit).mono fun _ _ g => DocO.Out.of g (rn_ok W o n t k)
theorem around (h : DocK.Doc0 w n t k a cap fs) (hsz : t.size + k.size ≤ 99999) (o m : Int) (T : TypeId) (W : World) (hW : Ext (w.alloc (.cells #[.int .i64 o, .int .i64 n, .string t, .slice a k.len cap] T)) W) : DocK.Doc0 W m ⟨#[]⟩ (.cons o n t k .nil) (some ⟨w.heap.size, 0, none⟩) 1 (w.heap.size :: fs) := by
  have hlt : ∀ c ∈ w.heap.size :: fs, c < (w.alloc (.cells #[.int .i64 o, .int .i64 n, .string t, .slice a k.len cap] T)).heap.size ∧ ∀ x, (w.alloc (.cells #[.int .i64 o, .int .i64 n, .string t, .slice a k.len cap] T)).frozen? ⟨c, x, none⟩ = false := by
    intro c hc
    rcases List.mem_cons.1 hc with rfl | hc
    · exact ⟨by simp, fun x => World.frozen?_alloc_new _ _ _ _⟩
    · have h1 := h.lt c hc
      exact ⟨by simp; omega, fun x => (Below.frozen (p := ⟨c, x, none⟩) ((Below.refl _ _).alloc (Nat.le_refl _) _) h1).trans ((h.ok c hc).2 x)⟩
  have e0 : (⟨#[]⟩ : ByteArray).size = 0 := rfl
  exact ⟨(DocO.nest_sub (DocW.toO h) o T).below (fun c hc => (hlt c hc).1) hW, fun c hc => ⟨Nat.lt_of_lt_of_le (hlt c hc).1 hW.size, fun x => (hW.frozen (hlt c hc).1).trans ((hlt c hc).2 x)⟩, Nat.le_refl _, by simp only [F.size]; omega⟩
end

/-- a group that can be rendered: whether it can be in one line -/
theorem can_grp {o n m : Int} {t : ByteArray} {k : F} (h : validD 8 m ⟨#[]⟩ (.cons o n t k .nil) = true) : canD 8 m ⟨#[]⟩ (.cons o n t k .nil) = noF (.cons o n t k .nil) := by
  unfold canD
  rw [h, Bool.true_and, noF_cnt]
  congr 1
  simp [opsD, cntF]
theorem fl_grp (o n : Int) (t : ByteArray) (k : F) : Flat.flD 8 ⟨#[]⟩ (.cons o n t k .nil) = Flat.flD o t k := by
  have h1 : Flat.flD 8 ⟨#[]⟩ (.cons o n t k .nil) = Flat.fl (.cons o n t k .nil) := by simp only [Flat.flD]; simp [Flat.none_app]; try exact Flat.none_app _
  rw [h1, Flat.fl_one]
/-- what a rendered group is -/
theorem grp_layout {W o n : Int} {t : ByteArray} {k : F} {X : Lay} (h : rnR W 8 0 ⟨#[]⟩ (.cons o n t k .nil) = (X, true)) :
    if canD 8 0 ⟨#[]⟩ (.cons o n t k .nil) = true ∧ ((Flat.flD 8 ⟨#[]⟩ (.cons o n t k .nil)).size : Int) ≤ W then X = [(0, Flat.ftD 8 0 ⟨#[]⟩ (.cons o n t k .nil))] else rnR W o n t k = (X, true) := by
  obtain ⟨hr, hX⟩ := rn_true h
  obtain ⟨hv, h0, h1⟩ := rn_valid hr
  have hvk : validD o n t k = true := DocK.valid_kid (p := .nil) (r := .nil) hv
  have hg := rn_group W o n t k
  rw [can_grp hv, fl_grp]
  by_cases hc : noF (.cons o n t k .nil) = true ∧ ((Flat.flD o t k).size : Int) ≤ W
  · rw [if_pos hc] at hg ⊢
    rw [← hX, hg, Flat.ftD, can_grp hv, hc.1, if_pos rfl, fl_grp]; rfl
  · rw [if_neg hc] at hg ⊢
    rw [RnR.rnR_yes (by simp [rightD, hvk, h0, h1]), ← hX, hg, fin_pre]; rfl
theorem nest0_layout {W o n : Int} {t : ByteArray} {k : F} {X Y : Lay} (h : rnR W 6 0 ⟨#[]⟩ (.cons o n t k .nil) = (Y, true)) (h' : rnR W o n t k = (X, true)) : Y = X := by
  rw [← (rn_true h).2, ← (rn_true h').2, rn_nest0]

/-- a group's variable and its part, behind the document's variable -/
theorem one_group {w w' : World} {o n q : Int} {t : ByteArray} {v : Value} {T T1 T2 : TypeId}
    (h : Ext (((w.alloc (.cells #[.int .i64 o, .int .i64 n, .string t, v] T)).alloc (.cells #[.int .i64 o, .int .i64 n, .string t, v] T1)).alloc (.cells #[.int .i64 q, .int .i64 0, .string ⟨#[]⟩, .slice (some ⟨w.heap.size + 1, 0, none⟩) 1 1] T2)) w') :
    (w'.cell? ⟨w.heap.size, 0, none⟩ = some (.int .i64 o) ∧ w'.cell? ⟨w.heap.size, 1, none⟩ = some (.int .i64 n) ∧ w'.cell? ⟨w.heap.size, 2, none⟩ = some (.string t) ∧ w'.cell? ⟨w.heap.size, 3, none⟩ = some v) ∧
    (w'.cell? ⟨w.heap.size + 1 + 1, 0, none⟩ = some (.int .i64 q) ∧ w'.cell? ⟨w.heap.size + 1 + 1, 1, none⟩ = some (.int .i64 0) ∧ w'.cell? ⟨w.heap.size + 1 + 1, 2, none⟩ = some (.string ⟨#[]⟩) ∧ w'.cell? ⟨w.heap.size + 1 + 1, 3, none⟩ = some (.slice (some ⟨w.heap.size + 1, 0, none⟩) 1 1)) ∧
    Ext w w' ∧ Ext ((w.alloc (.cells #[.int .i64 o, .int .i64 n, .string t, v] T)).alloc (.cells #[.int .i64 o, .int .i64 n, .string t, v] T1)) w' ∧ w.heap.size + 1 + 1 < w'.heap.size := by
  have hs := h.size
  simp only [World.size_alloc] at hs
  have e2 := ((Ext.refl ((w.alloc (.cells #[.int .i64 o, .int .i64 n, .string t, v] T)).alloc (.cells #[.int .i64 o, .int .i64 n, .string t, v] T1))).alloc (.cells #[.int .i64 q, .int .i64 0, .string ⟨#[]⟩, .slice (some ⟨w.heap.size + 1, 0, none⟩) 1 1] T2)).trans h
  have e1 := ((Ext.refl (w.alloc (.cells #[.int .i64 o, .int .i64 n, .string t, v] T))).alloc (.cells #[.int .i64 o, .int .i64 n, .string t, v] T1)).trans e2
  refine ⟨DocO.box4 (DocO.box_new w _ _ _ _ _) (by simp) e1, ?_, ((Ext.refl w).alloc _).trans e1, e2, by omega⟩
  have hb := DocO.box4 (DocO.box_new ((w.alloc (.cells #[.int .i64 o, .int .i64 n, .string t, v] T)).alloc (.cells #[.int .i64 o, .int .i64 n, .string t, v] T1)) T2 (.int .i64 q) (.int .i64 0) (.string ⟨#[]⟩) (.slice (some ⟨w.heap.size + 1, 0, none⟩) 1 1)) (by simp) h
  simpa only [World.size_alloc] using hb

end Go.Proofs.Ytgkbagcgbfgllaa.DocR

