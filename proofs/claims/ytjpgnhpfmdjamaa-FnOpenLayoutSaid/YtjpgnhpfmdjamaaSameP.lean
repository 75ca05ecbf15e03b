/-
  Comparing two documents pair by pair, each pair of lists gone through once: the order of work, as plain data, and that a list in memory is one list. Nothing here speaks of the program.
-/
import Derived.Test.YtjpgnhpfmdjamaaParseP
set_option linter.unusedVariables false
set_option linter.unusedSimpArgs false
namespace Go.Proofs.Ytjpgnhpfmdjamaa
open Go.RowKit

/-- a row holds one list of a length -/
theorem RowAt.unique {w : World} : ∀ {f g : F} {b off : Nat} {fs gs : List Nat}, RowAt w f b off fs → RowAt w g b off gs → f.len = g.len → f = g := by
  intro f
  induction f with
  | nil =>
    intro g b off fs gs _ _ hl
    exact (F.len_eq_zero hl.symm).symm
  | cons o n t k r ihk ihr =>
    intro g b off fs gs hf hg hl
    cases g with
    | nil => simp [F.len] at hl
    | cons o' n' t' k' r' =>
      obtain ⟨a, cap, f1, f2, h1, h2, h3, h4, h5, h6, h7, _⟩ := RowAt.cons_iff.1 hf
      obtain ⟨a', cap', g1, g2, q1, q2, q3, q4, q5, q6, q7, _⟩ := RowAt.cons_iff.1 hg
      rw [h1] at q1; rw [h2] at q2; rw [h3] at q3; rw [h4] at q4
      simp only [Option.some.injEq, Value.int.injEq, true_and] at q1 q2
      simp only [Option.some.injEq, Value.string.injEq] at q3
      simp only [Option.some.injEq, Value.slice.injEq] at q4
      obtain ⟨rfl, hk, rfl⟩ := q4
      simp only [F.len] at hl
      obtain rfl := ihr h7 q7 (by omega)
      have : k = k' := by
        rcases h6 with ⟨rfl, _⟩ | ⟨b1, o1, f', rfl, _, _, hr⟩
        · exact (F.len_eq_zero hk.symm).symm
        · rcases q6 with ⟨rfl, _⟩ | ⟨b2, o2, g', e, _, _, hr'⟩
          · exact F.len_eq_zero hk
          · simp only [Option.some.injEq, Addr.mk.injEq, and_true] at e
            obtain ⟨rfl, rfl⟩ := e
            exact ihk hr hr' hk
      subst this q1 q2 q3
      rfl

/-- pairs of two lists' documents -/
def zipF : F → F → List (D × D)
  | .cons o n t k r, .cons o' n' t' k' r' => ((o, n, t, k), (o', n', t', k')) :: zipF r r'
  | _, _ => []

def dsz (x : D) : Nat := 1 + x.2.2.1.size + x.2.2.2.size

theorem zipF_eq : ∀ {f g : F}, f.len = g.len → ((∀ p ∈ zipF f g, p.1 = p.2) ↔ f = g) := by
  intro f
  induction f with
  | nil => intro g h; simp [zipF, (F.len_eq_zero h.symm)]
  | cons o n t k r _ ihr =>
    intro g h
    cases g with
    | nil => simp [F.len] at h
    | cons o' n' t' k' r' =>
      have := ihr (g := r') (by simp [F.len] at h; exact h)
      simp only [zipF, List.mem_cons, forall_eq_or_imp, this, Prod.mk.injEq, F.cons.injEq]
      constructor
      · rintro ⟨⟨a, b, c, d⟩, e⟩; exact ⟨a, b, c, d, e⟩
      · rintro ⟨a, b, c, d, e⟩; exact ⟨⟨a, b, c, d⟩, e⟩

theorem zipF_size : ∀ {f g : F}, ∀ p ∈ zipF f g, dsz p.1 ≤ f.size := by
  intro f
  induction f with
  | nil => intro g p h; simp [zipF] at h
  | cons o n t k r _ ihr =>
    intro g p h
    cases g with
    | nil => simp [zipF] at h
    | cons o' n' t' k' r' =>
      simp only [zipF, List.mem_cons] at h
      simp only [F.size]
      rcases h with rfl | h
      · show 1 + t.size + k.size ≤ _; omega
      · have := ihr p h; omega

def sumZ (l : List (D × D)) : Nat := (l.map fun p => dsz p.1).sum

theorem sumZ_app (a b : List (D × D)) : sumZ (a ++ b) = sumZ a + sumZ b := by simp [sumZ]

theorem zipF_sum : ∀ {f g : F}, sumZ (zipF f g) ≤ f.size := by
  intro f
  induction f with
  | nil => intro g; simp [zipF, sumZ]
  | cons o n t k r _ ihr =>
    intro g
    cases g with
    | nil => simp [zipF, sumZ]
    | cons o' n' t' k' r' =>
      have := ihr (g := r')
      have e : sumZ (zipF (.cons o n t k r) (.cons o' n' t' k' r')) = (1 + t.size + k.size) + sumZ (zipF r r') := by
        unfold sumZ; simp only [zipF, List.map_cons, List.sum_cons]; rfl
      rw [e]
      simp only [F.size]
      omega

/-- two documents are equal but for what their Kids are -/
def nodeEq (x y : D) : Prop := x.1 = y.1 ∧ x.2.1 = y.2.1 ∧ x.2.2.1 = y.2.2.1 ∧ x.2.2.2.len = y.2.2.2.len

theorem eq_of_kids {x y : D} (h : nodeEq x y) (hk : x.2.2.2 = y.2.2.2) : x = y := by
  obtain ⟨o, n, t, k⟩ := x
  obtain ⟨o', n', t', k'⟩ := y
  obtain ⟨h1, h2, h3, _⟩ := h
  simp only at h1 h2 h3 hk
  rw [h1, h2, h3, hk]

/-- the pairs that are left, and the pairs of lists that were gone through -/
structure SInv (a b : D) (st : List (D × D)) (seen : List (F × F)) : Prop where
  fwd : a = b → ∀ p ∈ st, p.1 = p.2
  back : (∀ p ∈ st, p.1 = p.2) → a = b
  low : ∀ q ∈ seen, (∀ p ∈ st, dsz p.1 ≤ q.1.size → p.1 = p.2) → q.1 = q.2

theorem SInv.start (a b : D) : SInv a b [(a, b)] [] :=
  ⟨fun h p hp => by simp at hp; rw [hp]; exact h, fun h => h (a, b) (by simp), fun q hq => by cases hq⟩

theorem SInv.fail {a b x y : D} {st : List (D × D)} {seen : List (F × F)} (h : SInv a b ((x, y) :: st) seen) (hn : ¬ nodeEq x y) : a ≠ b := fun e => by
  have : x = y := h.fwd e (x, y) (by simp)
  subst this
  exact hn ⟨rfl, rfl, rfl, rfl⟩

theorem SInv.end {a b : D} {seen : List (F × F)} (h : SInv a b [] seen) : a = b := h.back (fun p hp => by cases hp)

/-- A pair whose lists are equal once what is left beneath them is. -/
theorem SInv.drop {a b x y : D} {st st' : List (D × D)} {seen : List (F × F)} (h : SInv a b ((x, y) :: st) seen) (hn : nodeEq x y)
    (hsub : ∀ p ∈ st, p ∈ st') (hf : x = y → ∀ p ∈ st', p ∈ st ∨ p.1 = p.2)
    (hk : (∀ p ∈ st', dsz p.1 ≤ x.2.2.2.size → p.1 = p.2) → x.2.2.2 = y.2.2.2) : SInv a b st' seen := by
  refine ⟨fun e p hp => ?_, fun hs => h.back fun p hp => ?_, fun q hq hs => h.low q hq fun p hp hz => ?_⟩
  · have hxy : x = y := h.fwd e (x, y) (by simp)
    rcases hf hxy p hp with h1 | h1
    · exact h.fwd e p (by simp [h1])
    · exact h1
  · rcases List.mem_cons.1 hp with rfl | hp
    · exact eq_of_kids hn (hk fun p hp _ => hs p hp)
    · exact hs p (hsub p hp)
  · rcases List.mem_cons.1 hp with rfl | hp
    · refine eq_of_kids hn (hk fun p hp hz' => hs p hp ?_)
      have : x.2.2.2.size < dsz x := by unfold dsz; omega
      simp only at hz
      omega
    · exact hs p (hsub p hp) hz

theorem SInv.leaf {a b x y : D} {st : List (D × D)} {seen : List (F × F)} (h : SInv a b ((x, y) :: st) seen) (hn : nodeEq x y) (h0 : x.2.2.2.len = 0) : SInv a b st seen :=
  h.drop hn (fun p hp => hp) (fun _ p hp => .inl hp) (fun _ => by
    have h1 := hn.2.2.2
    rw [F.len_eq_zero h0, F.len_eq_zero (h1.symm.trans h0)])

theorem SInv.known {a b x y : D} {st : List (D × D)} {seen : List (F × F)} (h : SInv a b ((x, y) :: st) seen) (hn : nodeEq x y) (hs : (x.2.2.2, y.2.2.2) ∈ seen) : SInv a b st seen :=
  h.drop hn (fun p hp => hp) (fun _ p hp => .inl hp) (fun hall => h.low _ hs fun p hp hz => by
    rcases List.mem_cons.1 hp with rfl | hp
    · simp only [dsz] at hz; omega
    · exact hall p hp hz)

theorem SInv.open {a b x y : D} {st : List (D × D)} {seen : List (F × F)} (h : SInv a b ((x, y) :: st) seen) (hn : nodeEq x y) : SInv a b ((zipF x.2.2.2 y.2.2.2).reverse ++ st) ((x.2.2.2, y.2.2.2) :: seen) := by
  have hz := zipF_eq hn.2.2.2
  have hk : (∀ p ∈ (zipF x.2.2.2 y.2.2.2).reverse ++ st, dsz p.1 ≤ x.2.2.2.size → p.1 = p.2) → x.2.2.2 = y.2.2.2 := fun hall => hz.1 fun p hp => hall p (by simp [hp]) (zipF_size p hp)
  have h1 : SInv a b ((zipF x.2.2.2 y.2.2.2).reverse ++ st) seen := h.drop hn (fun p hp => by simp [hp]) (fun e p hp => by
    rcases List.mem_append.1 hp with hp | hp
    · exact .inr (hz.2 (by rw [e]) p (by simpa using hp))
    · exact .inl hp) hk
  refine ⟨h1.fwd, h1.back, fun q hq => ?_⟩
  rcases List.mem_cons.1 hq with rfl | hq
  · exact hk
  · exact h1.low q hq

theorem sumZ_open {x y : D} {st : List (D × D)} : sumZ ((zipF x.2.2.2 y.2.2.2).reverse ++ st) < sumZ ((x, y) :: st) := by
  have h := zipF_sum (f := x.2.2.2) (g := y.2.2.2)
  have h2 : sumZ (zipF x.2.2.2 y.2.2.2).reverse = sumZ (zipF x.2.2.2 y.2.2.2) := by
    unfold sumZ; rw [List.map_reverse, List.sum_reverse]
  have e : sumZ ((x, y) :: st) = (1 + x.2.2.1.size + x.2.2.2.size) + sumZ st := by
    unfold sumZ; simp only [List.map_cons, List.sum_cons]; rfl
  rw [sumZ_app, h2, e]
  omega

end Go.Proofs.Ytjpgnhpfmdjamaa
