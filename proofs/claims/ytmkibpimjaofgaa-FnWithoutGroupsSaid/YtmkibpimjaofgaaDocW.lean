import Derived.Test.YtmkibpimjaofgaaDcK
import Derived.Test.YtmkibpimjaofgaaWid
/-
  What FlatWidth, LeadWidth and OpenLayout come to while a law goes on, and how they go together.
-/
set_option linter.unusedVariables false
set_option linter.unusedSimpArgs false
namespace Go.Proofs.Ytmkibpimjaofgaa.DocW
open Go.RowKit P1 CntC Wid LayN OpenR

section
variable {w w' : World} {o n : Int} {t : ByteArray} {k : F} {a : Option Addr} {cap : Nat} {fs : List Nat}
theorem toO (h : DocK.Doc0 w n t k a cap fs) : DocO.Doc0 w n t k a cap fs := ⟨h.sub, h.ok, h.cap_le, h.size⟩
end

theorem valid_ok {o n : Int} {t : ByteArray} {k : F} (h : validD o n t k = true) : okD 40 o n t k = true := by
  simp only [validD, Bool.and_eq_true] at h; exact h.1
theorem okD_parts' {d : Nat} {o n : Int} {t : ByteArray} {k : F} (h : okD (d + 1) o n t k = true) : nodeB o n t k.len = true ∧ k.ok d = true := by
  simp only [okD, Bool.and_eq_true, decide_eq_true_eq] at h
  obtain ⟨⟨_, hn⟩, hk⟩ := h
  rw [show d + 1 - 1 = d by omega] at hk
  exact ⟨hn, hk⟩

theorem catL_snoc (p : List (Int × ByteArray)) (q r : Int × ByteArray) (k : List (Int × ByteArray)) : catL (p ++ [q]) (r :: k) = p ++ (q.1, q.2 ++ r.2) :: k := by simp [catL]
/-- the first line of the open layout has the bytes in front of the first newline, and there are more lines if there is one -/
theorem open_lead : ∀ (d : Nat) (o n : Int) (t : ByteArray) (k : F), okD d o n t k = true → ∃ (i : Int) (s : ByteArray) (r : List (Int × ByteArray)), openD o n t k = (i, s) :: r ∧ s.size = nD o t k ∧ (eD o k = false ↔ r = []) := by
  intro d
  induction d with
  | zero => intro o n t k h; rw [okD_zero] at h; cases h
  | succ d ih =>
    intro o n t k h
    obtain ⟨hn, hk⟩ := okD_parts' h
    have e0 : (⟨#[]⟩ : ByteArray).size = 0 := rfl
    rcases node_kinds hn with ⟨rfl, ht, hl⟩ | ⟨ho, rfl, hl⟩ | ⟨rfl, rfl, h0, h9, hl⟩ | ⟨rfl, rfl, hl⟩ | ⟨rfl, rfl, hl⟩
    · rw [F.len_eq_zero hl, openD_text]
      exact ⟨_, _, [], rfl, by simp [nD, nl, ldN], by simp [eD, nl, ldE]⟩
    · rw [F.len_eq_zero hl]
      rcases ho with rfl | rfl | rfl | rfl
      · exact ⟨_, _, [], openD_empty _ _ _, by simp [nD, nl, ldN, e0], by simp [eD, nl, ldE]⟩
      · exact ⟨_, _, [(0, ⟨#[]⟩)], openD_line (.inl rfl) _ _ _, by simp [nD, nl, e0], by simp [eD, nl]⟩
      · exact ⟨_, _, [(0, ⟨#[]⟩)], openD_line (.inr (.inl rfl)) _ _ _, by simp [nD, nl, e0], by simp [eD, nl]⟩
      · exact ⟨_, _, [(0, ⟨#[]⟩)], openD_line (.inr (.inr rfl)) _ _ _, by simp [nD, nl, e0], by simp [eD, nl]⟩
    · obtain ⟨o1, n1, t1, k1, rfl⟩ := one_kid hl
      rw [ok_cons, Bool.and_eq_true] at hk
      obtain ⟨i, s, r, e1, e2, e3⟩ := ih _ _ _ _ hk.1
      rw [openD_nest, e1]
      refine ⟨i, s, r.map fun q => (q.1 + n, q.2), rfl, ?_, ?_⟩
      · rw [e2]; simp [nD, nl, e0, ldN]
      · rw [show eD 6 (.cons o1 n1 t1 k1 .nil) = eD o1 k1 by simp [eD, nl, ldE], e3]; simp
    · obtain ⟨o1, n1, t1, k1, o2, n2, t2, k2, rfl⟩ := two_kids hl
      rw [ok_cons, ok_cons, Bool.and_eq_true, Bool.and_eq_true] at hk
      obtain ⟨i, s, r, e1, e2, e3⟩ := ih _ _ _ _ hk.1
      obtain ⟨i', s', r', f1, f2, f3⟩ := ih _ _ _ _ hk.2.1
      have hE : eD 7 (.cons o1 n1 t1 k1 (.cons o2 n2 t2 k2 .nil)) = (eD o1 k1 || eD o2 k2) := by simp [eD, nl, ldE]
      have hN : nD 7 ⟨#[]⟩ (.cons o1 n1 t1 k1 (.cons o2 n2 t2 k2 .nil)) = nD o1 t1 k1 + if eD o1 k1 then 0 else nD o2 t2 k2 := by
        simp only [nD, nl, e0, ldN, eD]; simp
      rw [openD_cat, e1, f1, hE, hN]
      cases r with
      | nil =>
        have hf : eD o1 k1 = false := e3.2 rfl
        refine ⟨i, s ++ s', r', by simp [catL], ?_, ?_⟩
        · rw [ByteArray.size_append, e2, f2, hf]; simp
        · rw [hf, Bool.false_or]; exact f3
      | cons q r =>
        have hf : eD o1 k1 = true := by
          cases h : eD o1 k1 with
          | true => rfl
          | false => have := e3.1 h; cases this
        have hx : ∃ x, catL ((i, s) :: q :: r) ((i', s') :: r') = (i, s) :: x ∧ x ≠ [] := by
          obtain ⟨p, z, hpz⟩ : ∃ p z, q :: r = p ++ [z] := ⟨(q :: r).dropLast, (q :: r).getLast (by simp), (List.dropLast_concat_getLast (by simp)).symm⟩
          rw [hpz]
          exact ⟨p ++ (z.1, z.2 ++ s') :: r', catL_snoc ((i, s) :: p) z (i', s') r', by simp⟩
        obtain ⟨x, hx1, hx2⟩ := hx
        refine ⟨i, s, x, hx1, ?_, ?_⟩
        · rw [e2, hf]; simp
        · rw [hf, Bool.true_or]; exact ⟨fun h => (by cases h), fun h => absurd h hx2⟩
    · obtain ⟨o1, n1, t1, k1, rfl⟩ := one_kid hl
      rw [ok_cons, Bool.and_eq_true] at hk
      obtain ⟨i, s, r, e1, e2, e3⟩ := ih _ _ _ _ hk.1
      rw [openD_group, e1]
      refine ⟨i, s, r, rfl, ?_, ?_⟩
      · rw [e2]; simp [nD, nl, e0, ldN]
      · rw [show eD 8 (.cons o1 n1 t1 k1 .nil) = eD o1 k1 by simp [eD, nl, ldE], e3]

/-- an open layout's first line, in memory -/
theorem lay_first {w : World} {X : List (Int × ByteArray)} {a : Option Addr} {c : Nat} (h : DocO.LayIs w X a c) {i : Int} {s : ByteArray} {r : List (Int × ByteArray)} (hX : X = (i, s) :: r) : ∃ b off, a = some ⟨b, off, none⟩ ∧ b < w.heap.size ∧ w.cell? ⟨b, off, none⟩ = some (.int .i64 i) ∧ w.cell? ⟨b, off + 1, none⟩ = some (.string s) := by
  obtain ⟨fs, hs⟩ := h.sub
  subst hX
  rcases hs with ⟨h, _⟩ | ⟨b, off, rfl, _, hfs, hl⟩
  · cases h
  · have h0 := hl 0 (by simp)
    simp only [Nat.zero_mul, Nat.add_zero, List.getElem_cons_zero] at h0
    exact ⟨b, off, rfl, hl.lt (by simp), h0.1, h0.2⟩

theorem valid_zD {o n : Int} {t : ByteArray} {k : F} (h : validD o n t k = true) : (Flat.flD o t k).size = (if o == 3 then 1 else t.size) + zf k := (zD_fl h).symm

theorem nD_cat {t : ByteArray} (h7 : t.size = 0) (o1 n1 : Int) (t1 : ByteArray) (k1 : F) (o2 n2 : Int) (t2 : ByteArray) (k2 : F) : nD 7 t (.cons o1 n1 t1 k1 (.cons o2 n2 t2 k2 .nil)) = nD o1 t1 k1 + if eD o1 k1 then 0 else nD o2 t2 k2 := by
  simp only [nD, nl, h7, ldN, eD]; simp
theorem cat_text {n : Int} {t : ByteArray} {k : F} (h : validD 7 n t k = true) : t.size = 0 := by
  simp only [validD, okD, Bool.and_eq_true, decide_eq_true_eq] at h
  rcases node_kinds h.1.1.2 with ⟨e, _, _⟩ | ⟨e, _, _⟩ | ⟨e, _⟩ | ⟨_, rfl, _⟩ | ⟨e, _⟩
  · omega
  · omega
  · omega
  · rfl
  · omega

end Go.Proofs.Ytmkibpimjaofgaa.DocW

