import Derived.Test.YtmkibpimjaofgaaDocW
import Derived.Test.YtmkibpimjaofgaaDcK
import Derived.Test.YtmkibpimjaofgaaChX
/-
  What CountChoices and ChoiceOf come to while a law goes on.
-/
set_option linter.unusedVariables false
set_option linter.unusedSimpArgs false
namespace Go.Proofs.Ytmkibpimjaofgaa.DocC
open Go.RowKit P1 CntC LayN OpenR ChP ChO

section
variable {w w' : World} {o n : Int} {t : ByteArray} {k : F} {a : Option Addr} {cap : Nat} {fs : List Nat}
theorem implCount (h : DocK.Doc0 w n t k a cap fs) (o : Int) : Calls Try.prog 42 #[.agg #[.int .i64 o, .int .i64 n, .string t, .slice a k.len cap]] w fun e w' => e = .returned (.tuple #[.int .i64 (ChS.ccN o n t k), .bool (manyD o n t k)]) ∧ Ext w w' := ChC.implCountChoices w o n t k a cap fs h.sub h.ok h.cap_le (by have := h.size; omega) h.fits h.tfit
theorem specCount (h : DocK.Doc0 w n t k a cap fs) (o : Int) : Calls Try.prog 117 #[.agg #[.int .i64 o, .int .i64 n, .string t, .slice a k.len cap]] w fun e w' => e = .returned (.tuple #[.int .i64 (ChS.ccN o n t k), .bool (manyD o n t k)]) ∧ Ext w w' := ChS.specCountChoices w o n t k a cap fs h.sub h.lt h.cap_le (by have := h.size; omega) h.fits h.tfit
/-- a document in a list of one: the document around it -/
theorem around (h : DocK.Doc0 w n t k a cap fs) (hsz : t.size + k.size ≤ 99999) (o m : Int) (T : TypeId) (W : World) (hW : Ext (w.alloc (.cells #[.int .i64 o, .int .i64 n, .string t, .slice a k.len cap] T)) W) : DocK.Doc0 W m ⟨#[]⟩ (.cons o n t k .nil) (some ⟨w.heap.size, 0, none⟩) 1 (w.heap.size :: fs) := by
  have hlt : ∀ c ∈ w.heap.size :: fs, c < (w.alloc (.cells #[.int .i64 o, .int .i64 n, .string t, .slice a k.len cap] T)).heap.size ∧ ∀ x, (w.alloc (.cells #[.int .i64 o, .int .i64 n, .string t, .slice a k.len cap] T)).frozen? ⟨c, x, none⟩ = false := by
    intro c hc
    rcases List.mem_cons.1 hc with rfl | hc
    · exact ⟨by simp, fun x => World.frozen?_alloc_new _ _ _ _⟩
    · have h1 := h.lt c hc
      exact ⟨by simp; omega, fun x => (Below.frozen (p := ⟨c, x, none⟩) ((Below.refl _ _).alloc (Nat.le_refl _) _) h1).trans ((h.ok c hc).2 x)⟩
  have e0 : (⟨#[]⟩ : ByteArray).size = 0 := rfl
  exact ⟨(DocO.nest_sub (DocW.toO h) o T).below (fun c hc => (hlt c hc).1) hW, fun c hc => ⟨Nat.lt_of_lt_of_le (hlt c hc).1 hW.size, fun x => (hW.frozen (hlt c hc).1).trans ((hlt c hc).2 x)⟩, Nat.le_refl _, by simp only [F.size]; omega⟩
end

theorem many_yes {o n : Int} {t : ByteArray} {k : F} (h : manyD o n t k = true) : validD o n t k = true ∧ ctD o k ≤ 100000 := by
  simpa [manyD] using h
theorem chR_open {o n : Int} {t : ByteArray} {k : F} {i : Int} {X : List (Int × ByteArray)} (h : chR o n t k i = (X, true)) : manyD o n t k = true ∧ 0 ≤ i ∧ i < (ctD o k : Int) ∧ X = pkD o n t k i.toNat := by
  by_cases hc : manyD o n t k = true ∧ 0 ≤ i ∧ i < (ctD o k : Int)
  · rw [chR_yes hc.1 hc.2.1 hc.2.2] at h
    injection h with h1 _
    exact ⟨hc.1, hc.2.1, hc.2.2, h1.symm⟩
  · rw [chR_no hc] at h
    injection h with _ h2
    cases h2
/-- the parts of a document with not too many choices -/
theorem many_kids {n : Int} {t : ByteArray} {o1 n1 : Int} {t1 : ByteArray} {k1 : F} {o2 n2 : Int} {t2 : ByteArray} {k2 : F} (h : manyD 7 n t (.cons o1 n1 t1 k1 (.cons o2 n2 t2 k2 .nil)) = true) : manyD o1 n1 t1 k1 = true ∧ manyD o2 n2 t2 k2 = true := by
  obtain ⟨h1, h2⟩ := many_yes h
  have v1 : validD o1 n1 t1 k1 = true := DocK.valid_kid (p := .nil) h1
  have v2 : validD o2 n2 t2 k2 = true := DocK.valid_kid (p := .cons o1 n1 t1 k1 .nil) h1
  rw [ctD_other (by omega), ctF_cons, ctF_one] at h2
  have p1 := ctD_pos o1 k1
  have p2 := ctD_pos o2 k2
  have l1 : ctD o1 k1 ≤ 100000 := Nat.le_trans (Nat.le_mul_of_pos_right _ p2) h2
  have l2 : ctD o2 k2 ≤ 100000 := Nat.le_trans (Nat.le_mul_of_pos_left _ p1) h2
  exact ⟨by simp [manyD, v1, l1], by simp [manyD, v2, l2]⟩
/-- a choice of a pair -/
theorem cat_choice {n : Int} {t : ByteArray} {o1 n1 : Int} {t1 : ByteArray} {k1 : F} {o2 n2 : Int} {t2 : ByteArray} {k2 : F} {i : Nat} (h : manyD 7 n t (.cons o1 n1 t1 k1 (.cons o2 n2 t2 k2 .nil)) = true) (hi : i < ctD 7 (.cons o1 n1 t1 k1 (.cons o2 n2 t2 k2 .nil))) :
    i / ctD o2 k2 < ctD o1 k1 ∧ i % ctD o2 k2 < ctD o2 k2 ∧ catLR (pkD o1 n1 t1 k1 (i / ctD o2 k2)) (pkD o2 n2 t2 k2 (i % ctD o2 k2)) = (pkD 7 n t (.cons o1 n1 t1 k1 (.cons o2 n2 t2 k2 .nil)) i, true) := by
  obtain ⟨m1, m2⟩ := many_kids h
  have p2 := ctD_pos o2 k2
  rw [ctD_other (by omega), ctF_cons, ctF_one] at hi
  refine ⟨Nat.div_lt_of_lt_mul (by rw [Nat.mul_comm]; exact hi), Nat.mod_lt _ p2, ?_⟩
  rw [pkD_cat]
  exact catLR_yes (pick_lv (many_yes m1).1 _) (pick_lv (many_yes m2).1 _) (by rw [← pkD_cat n t]; exact pick_lv (many_yes h).1 _)

/-- the layout of the first choice of a group that can be flattened -/
theorem first_flat {n : Int} {t : ByteArray} {k : F} (h : manyD 8 n t k = true) (hf : canD 8 n t k = true) : pkD 8 n t k 0 = [(0, Flat.flD 8 t k)] := by
  obtain ⟨h1, _⟩ := many_yes h
  have hl : k.len = 1 := by
    simp only [validD, okD, Bool.and_eq_true, decide_eq_true_eq] at h1
    rcases node_kinds h1.1.1.2 with ⟨e, _, _⟩ | ⟨e, _, _⟩ | ⟨e, _⟩ | ⟨e, _, _⟩ | ⟨_, _, hl⟩
    · omega
    · omega
    · omega
    · omega
    · exact hl
  obtain ⟨o1, n1, t1, k1, rfl⟩ := one_kid hl
  have hno : Wid.noF (.cons o1 n1 t1 k1 .nil) = true := by
    have e := Wid.noD_ops 8 (.cons o1 n1 t1 k1 .nil)
    rw [show Wid.noD 8 (.cons o1 n1 t1 k1 .nil) = Wid.noF (.cons o1 n1 t1 k1 .nil) by simp [Wid.noD]] at e
    rw [e]
    simp only [canD, Bool.and_eq_true] at hf
    exact hf.2
  rw [pkD_group, hno]; rfl

end Go.Proofs.Ytmkibpimjaofgaa.DocC

