/-
  Open layouts of documents as plain data; nothing here speaks of the program.
-/
import Derived.Test.YtjpgnhpfmdjamaaLayNP
import Derived.Test.YtjpgnhpfmdjamaaValid
set_option linter.unusedVariables false
set_option linter.unusedSimpArgs false
namespace Go.Proofs.Ytjpgnhpfmdjamaa.P1
open Go.RowKit

/-- the open layout of a node, out of those of its Kids -/
def opn (o n : Int) (t : ByteArray) (ls : List (List (Int × ByteArray))) : List (Int × ByteArray) :=
  if o = 2 then [(0, t)] else if o = 3 ∨ o = 4 ∨ o = 5 then [(0, ⟨#[]⟩), (0, ⟨#[]⟩)] else if o = 6 then nestL n (ls.getD 0 []) else if o = 7 then catL (ls.getD 0 []) (ls.getD 1 []) else if o = 8 then ls.getD 0 [] else [(0, ⟨#[]⟩)]
def opens : F → List (List (Int × ByteArray))
  | .nil => []
  | .cons o n t k r => opn o n t (opens k) :: opens r
def openD (o n : Int) (t : ByteArray) (k : F) : List (Int × ByteArray) := opn o n t (opens k)

theorem openD_text (n : Int) (t : ByteArray) (k : F) : openD 2 n t k = [(0, t)] := rfl
theorem openD_line {o : Int} (h : o = 3 ∨ o = 4 ∨ o = 5) (n : Int) (t : ByteArray) (k : F) : openD o n t k = [(0, ⟨#[]⟩), (0, ⟨#[]⟩)] := by
  rcases h with rfl | rfl | rfl <;> rfl
theorem openD_empty (n : Int) (t : ByteArray) (k : F) : openD 1 n t k = [(0, ⟨#[]⟩)] := rfl
theorem openD_nest (n : Int) (t : ByteArray) (o1 n1 : Int) (t1 : ByteArray) (k1 : F) : openD 6 n t (.cons o1 n1 t1 k1 .nil) = nestL n (openD o1 n1 t1 k1) := rfl
theorem openD_group (n : Int) (t : ByteArray) (o1 n1 : Int) (t1 : ByteArray) (k1 : F) : openD 8 n t (.cons o1 n1 t1 k1 .nil) = openD o1 n1 t1 k1 := rfl
theorem openD_cat (n : Int) (t : ByteArray) (o1 n1 : Int) (t1 : ByteArray) (k1 : F) (o2 n2 : Int) (t2 : ByteArray) (k2 : F) : openD 7 n t (.cons o1 n1 t1 k1 (.cons o2 n2 t2 k2 .nil)) = catL (openD o1 n1 t1 k1) (openD o2 n2 t2 k2) := rfl

/-- a layout that comes of at most c nodes, h deep -/
structure Gd (l : List (Int × ByteArray)) (c h : Nat) : Prop where
  ne : 0 < l.length
  len : l.length ≤ c + 1
  h0 : ∀ (hh : 0 < l.length), l[0].1 = 0
  ind : ∀ r ∈ l, 0 ≤ r.1 ∧ r.1 ≤ 9 * h
  ch : ∀ r ∈ l, r.2.data.toList.all lb = true
  ts : L.tsz l ≤ 12 * c

theorem Gd.mono {l : List (Int × ByteArray)} {c h c' h' : Nat} (g : Gd l c h) (hc : c ≤ c') (hh : h ≤ h') : Gd l c' h' :=
  ⟨g.ne, by have := g.len; omega, g.h0, fun r hr => by have := g.ind r hr; omega, g.ch, by have := g.ts; omega⟩

theorem Gd.lv {l : List (Int × ByteArray)} {c h : Nat} (g : Gd l c h) (hc : c ≤ 80) (hh : h ≤ 40) : lv l = true := by
  have h1 := g.len
  rw [lv_of g.ne (by omega) (g.h0 g.ne), List.all_eq_true]
  intro r hr
  rw [rv_iff]
  obtain ⟨i, hi, rfl⟩ := List.getElem_of_mem hr
  have h2 := g.ind _ hr
  have h3 := L.tsz_get_le hi
  have h4 := g.ts
  refine ⟨h2.1, by omega, ?_⟩
  rw [lt_of (by simp; omega)]
  exact g.ch _ hr

theorem tsz_map (n : Int) (l : List (Int × ByteArray)) : L.tsz (l.map fun r => (r.1 + n, r.2)) = L.tsz l := by
  induction l with
  | nil => rfl
  | cons r l ih => simp [L.tsz, ih]

theorem Gd.nest {l : List (Int × ByteArray)} {c h : Nat} (g : Gd l c h) {n : Int} (h0 : 0 ≤ n) (h1 : n ≤ 9) : Gd (nestL n l) (c + 1) (h + 1) := by
  obtain ⟨gn, gl, g0, gi, gc, gt⟩ := g
  cases l with
  | nil => simp at gn
  | cons r l =>
    refine ⟨by simp [nestL], by simp [nestL] at gl ⊢; omega, fun _ => g0 (by simp), fun q hq => ?_, fun q hq => ?_, ?_⟩
    · simp only [nestL, List.mem_cons, List.mem_map] at hq
      rcases hq with rfl | ⟨p, hp, rfl⟩
      · have := gi q (by simp); omega
      · have := gi p (by simp [hp]); simp only; omega
    · simp only [nestL, List.mem_cons, List.mem_map] at hq
      rcases hq with rfl | ⟨p, hp, rfl⟩
      · exact gc q (by simp)
      · exact gc p (by simp [hp])
    · simp only [nestL, L.tsz, tsz_map] at gt ⊢
      omega

theorem Gd.cat {a b : List (Int × ByteArray)} {c1 h1 c2 h2 : Nat} (ga : Gd a c1 h1) (gb : Gd b c2 h2) : Gd (catL a b) (c1 + c2) (max h1 h2) := by
  have hne : a ≠ [] := List.length_pos_iff.1 ga.ne
  obtain ⟨p, q, rfl⟩ : ∃ p q, a = p ++ [q] := ⟨a.dropLast, a.getLast hne, (List.dropLast_concat_getLast hne).symm⟩
  cases b with
  | nil => have := gb.ne; simp at this
  | cons r k =>
    have e : catL (p ++ [q]) (r :: k) = p ++ (q.1, q.2 ++ r.2) :: k := by simp [catL]
    rw [e]
    obtain ⟨an, al, a0, ai, ac, at'⟩ := ga
    obtain ⟨bn, bl, b0, bi, bc, bt⟩ := gb
    refine ⟨by simp; omega, by simp at al bl ⊢; omega, fun _ => ?_, fun x hx => ?_, fun x hx => ?_, ?_⟩
    · cases p with
      | nil => have := a0 (by simp); simpa using this
      | cons x p => have := a0 (by simp); simpa using this
    · simp only [List.mem_append, List.mem_cons] at hx
      rcases hx with hx | rfl | hx
      · have := ai x (by simp [hx]); omega
      · have := ai q (by simp); simp only; omega
      · have := bi x (by simp [hx]); omega
    · simp only [List.mem_append, List.mem_cons] at hx
      rcases hx with hx | rfl | hx
      · exact ac x (by simp [hx])
      · have h1 := ac q (by simp)
        have h2 := bc r (by simp)
        simp only [ByteArray.data_append, Array.toList_append, List.all_append, h1, h2, Bool.and_self]
      · exact bc x (by simp [hx])
    · rw [L.tsz_app] at at' ⊢
      simp only [L.tsz, ByteArray.size_append] at at' bt ⊢
      omega

theorem one_kid {k : F} (h : k.len = 1) : ∃ o n t k1, k = .cons o n t k1 .nil := by
  cases k with
  | nil => simp [F.len] at h
  | cons o n t k1 r =>
    cases r with
    | nil => exact ⟨o, n, t, k1, rfl⟩
    | cons => simp [F.len] at h
theorem two_kids {k : F} (h : k.len = 2) : ∃ o n t k1 o2 n2 t2 k2, k = .cons o n t k1 (.cons o2 n2 t2 k2 .nil) := by
  cases k with
  | nil => simp [F.len] at h
  | cons o n t k1 r =>
    obtain ⟨o2, n2, t2, k2, rfl⟩ := one_kid (k := r) (by simp [F.len] at h; omega)
    exact ⟨o, n, t, k1, o2, n2, t2, k2, rfl⟩

/-- a node's own fields, by its kind -/
theorem node_kinds {o n : Int} {t : ByteArray} {l : Nat} (h : nodeB o n t l = true) :
    (o = 2 ∧ tv t.data.toList = true ∧ l = 0) ∨ ((o = 1 ∨ o = 3 ∨ o = 4 ∨ o = 5) ∧ t = ⟨#[]⟩ ∧ l = 0) ∨ (o = 6 ∧ t = ⟨#[]⟩ ∧ 0 ≤ n ∧ n ≤ 9 ∧ l = 1) ∨ (o = 7 ∧ t = ⟨#[]⟩ ∧ l = 2) ∨ (o = 8 ∧ t = ⟨#[]⟩ ∧ l = 1) := by
  simp only [nodeB, Bool.and_eq_true, decide_eq_true_eq] at h
  obtain ⟨⟨h1, h2⟩, h3⟩ := h
  rcases kidsOf_ways o with ⟨rfl, hk⟩ | ⟨rfl, hk⟩ | ⟨rfl, hk⟩ | ⟨rfl, hk⟩ | ⟨rfl, hk⟩ | ⟨rfl, hk⟩ | ⟨rfl, hk⟩ | ⟨rfl, hk⟩ | ⟨_, _, _, _, _, _, _, _, hk⟩ <;> rw [hk] at h1 <;> simp [textB, numB] at h2 h3 <;> first | omega | (simp_all; done) | (simp_all; omega)

theorem tv_chars {t : ByteArray} (h : tv t.data.toList = true) : t.data.toList.all lb = true ∧ t.size ≤ 12 := by
  have h1 := tv_len h
  refine ⟨?_, by simpa using h1.2⟩
  rw [tv_of h1.1 h1.2, List.all_eq_true] at h
  rw [List.all_eq_true]
  intro c hc
  unfold lb
  rw [h c hc, Bool.or_true]

theorem open_good : ∀ (d : Nat) (o n : Int) (t : ByteArray) (k : F), okD d o n t k = true → Gd (openD o n t k) (1 + k.cnt) d := by
  intro d
  induction d with
  | zero => intro o n t k h; rw [okD_zero] at h; cases h
  | succ d ih =>
    intro o n t k h
    simp only [okD, Bool.and_eq_true, decide_eq_true_eq] at h
    obtain ⟨⟨_, hn⟩, hk⟩ := h
    rw [show d + 1 - 1 = d by omega] at hk
    rcases node_kinds hn with ⟨rfl, ht, hl⟩ | ⟨ho, rfl, hl⟩ | ⟨rfl, rfl, h0, h9, hl⟩ | ⟨rfl, rfl, hl⟩ | ⟨rfl, rfl, hl⟩
    · obtain ⟨h1, h2⟩ := tv_chars ht
      rw [openD_text]
      exact ⟨by simp, by simp, fun _ => rfl, fun r hr => by simp at hr; subst hr; simp only; omega, fun r hr => by simp at hr; subst hr; exact h1, by simp [L.tsz]; omega⟩
    · have e : openD o n ⟨#[]⟩ k = [(0, ⟨#[]⟩)] ∨ openD o n ⟨#[]⟩ k = [(0, ⟨#[]⟩), (0, ⟨#[]⟩)] := by
        rcases ho with rfl | rfl | rfl | rfl
        · exact .inl rfl
        · exact .inr rfl
        · exact .inr rfl
        · exact .inr rfl
      have hz : (⟨#[]⟩ : ByteArray).size = 0 := rfl
      rcases e with e | e <;> rw [e]
      · exact ⟨by simp, by simp, fun _ => rfl, fun r hr => by simp at hr; subst hr; simp only; omega, fun r hr => by simp at hr; subst hr; rfl, by simp [L.tsz, hz]⟩
      · exact ⟨by simp, by simp, fun _ => rfl, fun r hr => by simp at hr; subst hr; simp only; omega, fun r hr => by simp at hr; subst hr; rfl, by simp [L.tsz, hz]⟩
    · obtain ⟨o1, n1, t1, k1, rfl⟩ := one_kid hl
      rw [openD_nest]
      rw [ok_cons, Bool.and_eq_true] at hk
      exact ((ih _ _ _ _ hk.1).nest h0 h9).mono (by simp only [F.cnt]; omega) (Nat.le_refl _)
    · obtain ⟨o1, n1, t1, k1, o2, n2, t2, k2, rfl⟩ := two_kids hl
      rw [openD_cat]
      rw [ok_cons, ok_cons, Bool.and_eq_true, Bool.and_eq_true] at hk
      exact ((ih _ _ _ _ hk.1).cat (ih _ _ _ _ hk.2.1)).mono (by simp only [F.cnt]; omega) (by omega)
    · obtain ⟨o1, n1, t1, k1, rfl⟩ := one_kid hl
      rw [openD_group]
      rw [ok_cons, Bool.and_eq_true] at hk
      exact (ih _ _ _ _ hk.1).mono (by simp only [F.cnt]; omega) (by omega)

end Go.Proofs.Ytjpgnhpfmdjamaa.P1
