import Derived.Test.YtgcaolofehgbeaaDocW
/-
  A document around one that stays.
-/
set_option linter.unusedVariables false
set_option linter.unusedSimpArgs false
namespace Go.Proofs.Ytgcaolofehgbeaa.DocR
open Go.RowKit P1 CntC Wid

section
variable {w w' : World} {o n : Int} {t : ByteArray} {k : F} {a : Option Addr} {cap : Nat} {fs : List Nat}
/-- the document lies in one more part -/
theorem around (h : DocK.Doc0 w n t k a cap fs) (hsz : t.size + k.size ≤ 99999) (o m : Int) (T : TypeId) (W : World) (hW : Ext (w.alloc (.cells #[.int .i64 o, .int .i64 n, .string t, .slice a k.len cap] T)) W) : DocK.Doc0 W m ⟨#[]⟩ (.cons o n t k .nil) (some ⟨w.heap.size, 0, none⟩) 1 (w.heap.size :: fs) := by
  have hlt : ∀ c ∈ w.heap.size :: fs, c < (w.alloc (.cells #[.int .i64 o, .int .i64 n, .string t, .slice a k.len cap] T)).heap.size ∧ ∀ x, (w.alloc (.cells #[.int .i64 o, .int .i64 n, .string t, .slice a k.len cap] T)).frozen? ⟨c, x, none⟩ = false := by
    intro c hc
    rcases List.mem_cons.1 hc with rfl | hc
    · exact ⟨by simp, fun x => World.frozen?_alloc_new _ _ _ _⟩
    · have h1 := h.lt c hc
      exact ⟨by simp; omega, fun x => (Below.frozen (p := ⟨c, x, none⟩) ((Below.refl _ _).alloc (Nat.le_refl _) _) h1).trans ((h.ok c hc).2 x)⟩
  have e0 : (⟨#[]⟩ : ByteArray).size = 0 := rfl
  exact ⟨(DocO.nest_sub (DocW.toO h) o T).below (fun c hc => (hlt c hc).1) hW, fun c hc => ⟨Nat.lt_of_lt_of_le (hlt c hc).1 hW.size, fun x => (hW.frozen (hlt c hc).1).trans ((hlt c hc).2 x)⟩, Nat.le_refl _, by simp only [F.size]; omega⟩
end
theorem fl_grp (o n : Int) (t : ByteArray) (k : F) : Flat.flD 8 ⟨#[]⟩ (.cons o n t k .nil) = Flat.flD o t k := by
  have h1 : Flat.flD 8 ⟨#[]⟩ (.cons o n t k .nil) = Flat.fl (.cons o n t k .nil) := by simp only [Flat.flD]; simp [Flat.none_app]; try exact Flat.none_app _
  rw [h1, Flat.fl_one]
/-- a group's variable and its part, behind the document's variable -/
theorem one_group {w w' : World} {o n q : Int} {t : ByteArray} {v : Value} {T T1 T2 : TypeId}
    (h : Ext (((w.alloc (.cells #[.int .i64 o, .int .i64 n, .string t, v] T)).alloc (.cells #[.int .i64 o, .int .i64 n, .string t, v] T1)).alloc (.cells #[.int .i64 q, .int .i64 0, .string ⟨#[]⟩, .slice (some ⟨w.heap.size + 1, 0, none⟩) 1 1] T2)) w') :
    (w'.cell? ⟨w.heap.size, 0, none⟩ = some (.int .i64 o) ∧ w'.cell? ⟨w.heap.size, 1, none⟩ = some (.int .i64 n) ∧ w'.cell? ⟨w.heap.size, 2, none⟩ = some (.string t) ∧ w'.cell? ⟨w.heap.size, 3, none⟩ = some v) ∧
    (w'.cell? ⟨w.heap.size + 1 + 1, 0, none⟩ = some (.int .i64 q) ∧ w'.cell? ⟨w.heap.size + 1 + 1, 1, none⟩ = some (.int .i64 0) ∧ w'.cell? ⟨w.heap.size + 1 + 1, 2, none⟩ = some (.string ⟨#[]⟩) ∧ w'.cell? ⟨w.heap.size + 1 + 1, 3, none⟩ = some (.slice (some ⟨w.heap.size + 1, 0, none⟩) 1 1)) ∧
    Ext w w' ∧ Ext ((w.alloc (.cells #[.int .i64 o, .int .i64 n, .string t, v] T)).alloc (.cells #[.int .i64 o, .int .i64 n, .string t, v] T1)) w' ∧ w.heap.size + 1 + 1 < w'.heap.size := by
  have hs := h.size
  simp only [World.size_alloc] at hs
  have e2 := ((Ext.refl ((w.alloc (.cells #[.int .i64 o, .int .i64 n, .string t, v] T)).alloc (.cells #[.int .i64 o, .int .i64 n, .string t, v] T1))).alloc (.cells #[.int .i64 q, .int .i64 0, .string ⟨#[]⟩, .slice (some ⟨w.heap.size + 1, 0, none⟩) 1 1] T2)).trans h
  have e1 := ((Ext.refl (w.alloc (.cells #[.int .i64 o, .int .i64 n, .string t, v] T))).alloc (.cells #[.int .i64 o, .int .i64 n, .string t, v] T1)).trans e2
  refine ⟨DocO.box4 (DocO.box_new w _ _ _ _ _) (by simp) e1, ?_, ((Ext.refl w).alloc _).trans e1, e2, by omega⟩
  have hb := DocO.box4 (DocO.box_new ((w.alloc (.cells #[.int .i64 o, .int .i64 n, .string t, v] T)).alloc (.cells #[.int .i64 o, .int .i64 n, .string t, v] T1)) T2 (.int .i64 q) (.int .i64 0) (.string ⟨#[]⟩) (.slice (some ⟨w.heap.size + 1, 0, none⟩) 1 1)) (by simp) h
  simpa only [World.size_alloc] using hb


end Go.Proofs.Ytgcaolofehgbeaa.DocR

