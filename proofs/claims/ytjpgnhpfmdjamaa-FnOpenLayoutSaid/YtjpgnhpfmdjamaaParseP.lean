/-
  Reading documents out of bytes, as plain functions; nothing here speaks of the program.
-/
import Derived.Test.YtjpgnhpfmdjamaaDocs
import Derived.Test.YtjpgnhpfmdjamaaValid
set_option linter.unusedVariables false
set_option linter.unusedSimpArgs false
namespace Go.Proofs.Ytjpgnhpfmdjamaa
open Go.RowKit P1

/-- a document by its fields -/
abbrev D := Int × Int × ByteArray × F

/-- what is in front of the first quote, and behind it -/
def cutQ : List UInt8 → Option (List UInt8 × List UInt8)
  | [] => none
  | c :: r => if c = 34 then some ([], r) else match cutQ r with
    | none => none
    | some (x, y) => some (c :: x, y)

/-- documents, read one behind the other -/
def rdK (g : List UInt8 → Option (D × List UInt8)) : Nat → List UInt8 → Option (F × List UInt8)
  | 0, s => some (.nil, s)
  | n + 1, s => match g s with
    | none => none
    | some ((o, m, t, k), r) => match rdK g n r with
      | none => none
      | some (f, r') => some (.cons o m t k f, r')

/-- documents up to a closing sign -/
def rdA (g : List UInt8 → Option (D × List UInt8)) (op num : Int) (cnt : Nat) (sign : UInt8) (s : List UInt8) : Option (D × List UInt8) :=
  match rdK g cnt s with
  | none => none
  | some (f, []) => none
  | some (f, c :: r) => if c = sign then some ((op, num, ⟨#[]⟩, f), r) else none

/-- a text up to its quote -/
def rdT (chk : Bool) (s : List UInt8) : Option (D × List UInt8) :=
  match cutQ s with
  | none => none
  | some (x, y) => if chk && !tv x then none else some ((2, 0, ⟨x.toArray⟩, .nil), y)

/-- what is indented by a digit -/
def rdN (g : List UInt8 → Option (D × List UInt8)) (c : UInt8) : List UInt8 → Option (D × List UInt8)
  | [] => none
  | b :: r => if b = 60 then rdA g 6 ((c.toNat : Int) - 48) 1 62 r else none

/-- a document, down to a depth; chk: texts are looked at at once -/
def rdD (chk : Bool) : Nat → List UInt8 → Option (D × List UInt8)
  | 0, _ => none
  | _ + 1, [] => none
  | d + 1, c :: r =>
    if c = 126 then some ((1, 0, ⟨#[]⟩, .nil), r)
    else if c = 95 then some ((3, 0, ⟨#[]⟩, .nil), r)
    else if c = 46 then some ((4, 0, ⟨#[]⟩, .nil), r)
    else if c = 33 then some ((5, 0, ⟨#[]⟩, .nil), r)
    else if c = 34 then rdT chk r
    else if c = 40 then rdA (rdD chk d) 7 0 2 41 r
    else if c = 91 then rdA (rdD chk d) 8 0 1 93 r
    else if 48 ≤ c ∧ c ≤ 57 then rdN (rdD chk d) c r
    else none

/-- a whole text -/
def parse (chk : Bool) (s : List UInt8) : Option D :=
  match rdD chk 40 s with
  | some ((o, n, t, k), []) => if validD o n t k then some (o, n, t, k) else none
  | _ => none

theorem cutQ_size {s x y : List UInt8} (h : cutQ s = some (x, y)) : x.length + y.length + 1 = s.length := by
  induction s generalizing x y with
  | nil => simp [cutQ] at h
  | cons c r ih =>
    rw [cutQ] at h
    split at h
    · simp at h; obtain ⟨rfl, rfl⟩ := h; simp
    · cases hq : cutQ r with
      | none => rw [hq] at h; simp at h
      | some q =>
        obtain ⟨a, b⟩ := q
        rw [hq] at h; simp at h; obtain ⟨rfl, rfl⟩ := h
        have := ih hq
        simp; omega

theorem rdK_size {g : List UInt8 → Option (D × List UInt8)} (hg : ∀ s o m t k r, g s = some ((o, m, t, k), r) → 1 + t.size + k.size + r.length ≤ s.length) : ∀ n s f r, rdK g n s = some (f, r) → f.size + r.length ≤ s.length := by
  intro n
  induction n with
  | zero => intro s f r h; simp [rdK] at h; obtain ⟨rfl, rfl⟩ := h; simp [F.size]
  | succ n ih =>
    intro s f r h
    rw [rdK] at h
    cases hq : g s with
    | none => rw [hq] at h; simp at h
    | some q =>
      obtain ⟨⟨o, m, t, k⟩, r1⟩ := q
      rw [hq] at h
      simp only at h
      cases hk : rdK g n r1 with
      | none => rw [hk] at h; simp at h
      | some q2 =>
        obtain ⟨f2, r2⟩ := q2
        rw [hk] at h; simp at h; obtain ⟨rfl, rfl⟩ := h
        have h1 := hg _ _ _ _ _ _ hq
        have h2 := ih _ _ _ hk
        simp only [F.size]; omega

theorem rdA_size {g : List UInt8 → Option (D × List UInt8)} (hg : ∀ s o m t k r, g s = some ((o, m, t, k), r) → 1 + t.size + k.size + r.length ≤ s.length) {op num : Int} {cnt : Nat} {sign : UInt8} {s : List UInt8} {o m : Int} {t : ByteArray} {k : F} {r : List UInt8} (h : rdA g op num cnt sign s = some ((o, m, t, k), r)) : 1 + t.size + k.size + r.length ≤ s.length := by
  unfold rdA at h
  split at h
  · simp at h
  · simp at h
  · rename_i f c r1 hk
    split at h
    · simp at h
      obtain ⟨⟨rfl, rfl, rfl, rfl⟩, rfl⟩ := h
      have := rdK_size hg _ _ _ _ hk
      have e0 : (⟨#[]⟩ : ByteArray).size = 0 := rfl
      simp only [List.length_cons] at this
      rw [e0]; omega
    · simp at h

theorem rdT_size {chk : Bool} {s : List UInt8} {o m : Int} {t : ByteArray} {k : F} {r : List UInt8} (h : rdT chk s = some ((o, m, t, k), r)) : 1 + t.size + k.size + r.length ≤ s.length := by
  unfold rdT at h
  split at h
  · simp at h
  · rename_i x y hc
    split at h
    · simp at h
    · simp at h
      obtain ⟨⟨rfl, rfl, rfl, rfl⟩, rfl⟩ := h
      have := cutQ_size hc
      have e0 : (⟨x.toArray⟩ : ByteArray).size = x.length := by show x.toArray.size = _; simp
      simp only [F.size]
      rw [e0]; omega

theorem rdD_size (chk : Bool) : ∀ d s o m t k r, rdD chk d s = some ((o, m, t, k), r) → 1 + t.size + k.size + r.length ≤ s.length := by
  have e0 : (⟨#[]⟩ : ByteArray).size = 0 := rfl
  intro d
  induction d with
  | zero => intro s o m t k r h; simp [rdD] at h
  | succ d ih =>
    intro s o m t k r h
    cases s with
    | nil => simp [rdD] at h
    | cons c s =>
      rw [rdD] at h
      simp only [List.length_cons]
      split at h
      · simp at h; obtain ⟨⟨rfl, rfl, rfl, rfl⟩, rfl⟩ := h; rw [e0]; simp only [F.size]; omega
      split at h
      · simp at h; obtain ⟨⟨rfl, rfl, rfl, rfl⟩, rfl⟩ := h; rw [e0]; simp only [F.size]; omega
      split at h
      · simp at h; obtain ⟨⟨rfl, rfl, rfl, rfl⟩, rfl⟩ := h; rw [e0]; simp only [F.size]; omega
      split at h
      · simp at h; obtain ⟨⟨rfl, rfl, rfl, rfl⟩, rfl⟩ := h; rw [e0]; simp only [F.size]; omega
      split at h
      · have := rdT_size h; omega
      split at h
      · have := rdA_size ih h; omega
      split at h
      · have := rdA_size ih h; omega
      split at h
      · cases s with
        | nil => simp [rdN] at h
        | cons b r' =>
          simp only [rdN] at h
          split at h
          · have := rdA_size ih h; simp only [List.length_cons]; omega
          · simp at h
      · simp at h

/-- one way of reading reads what the other one reads, where they differ only in a test that holds -/
theorem rdK_mono {g g' : List UInt8 → Option (D × List UInt8)} (hg : ∀ s x, g s = some x → g' s = some x) : ∀ n s x, rdK g n s = some x → rdK g' n s = some x := by
  intro n
  induction n with
  | zero => intro s x h; exact h
  | succ n ih =>
    intro s x h
    rw [rdK] at h ⊢
    cases hq : g s with
    | none => rw [hq] at h; simp at h
    | some q =>
      obtain ⟨⟨o, m, t, k⟩, r1⟩ := q
      rw [hq] at h
      rw [hg _ _ hq]
      simp only at h ⊢
      cases hk : rdK g n r1 with
      | none => rw [hk] at h; simp at h
      | some q2 =>
        rw [hk] at h
        rw [ih _ _ hk]
        exact h

theorem rdA_mono {g g' : List UInt8 → Option (D × List UInt8)} (hg : ∀ s x, g s = some x → g' s = some x) {op num : Int} {cnt : Nat} {sign : UInt8} {s : List UInt8} {x : D × List UInt8} (h : rdA g op num cnt sign s = some x) : rdA g' op num cnt sign s = some x := by
  unfold rdA at h ⊢
  cases hk : rdK g cnt s with
  | none => rw [hk] at h; simp at h
  | some q =>
    rw [hk] at h
    rw [rdK_mono hg _ _ _ hk]
    exact h

theorem rdD_loose : ∀ d s x, rdD true d s = some x → rdD false d s = some x := by
  intro d
  induction d with
  | zero => intro s x h; simp [rdD] at h
  | succ d ih =>
    intro s x h
    cases s with
    | nil => simp [rdD] at h
    | cons c s =>
      rw [rdD] at h ⊢
      split at h
      · rename_i h1; rw [if_pos h1]; exact h
      rename_i h1; rw [if_neg h1]
      split at h
      · rename_i h1; rw [if_pos h1]; exact h
      rename_i h1; rw [if_neg h1]
      split at h
      · rename_i h1; rw [if_pos h1]; exact h
      rename_i h1; rw [if_neg h1]
      split at h
      · rename_i h1; rw [if_pos h1]; exact h
      rename_i h1; rw [if_neg h1]
      split at h
      · rename_i h1; rw [if_pos h1]
        unfold rdT at h ⊢
        split at h
        · simp at h
        · split at h
          · simp at h
          · simpa using h
      rename_i h1; rw [if_neg h1]
      split at h
      · rename_i h1; rw [if_pos h1]; exact rdA_mono ih h
      rename_i h1; rw [if_neg h1]
      split at h
      · rename_i h1; rw [if_pos h1]; exact rdA_mono ih h
      rename_i h1; rw [if_neg h1]
      split at h
      · rename_i h1; rw [if_pos h1]
        cases s with
        | nil => simp [rdN] at h
        | cons b r' =>
          simp only [rdN] at h ⊢
          split at h
          · rename_i h2; rw [if_pos h2]; exact rdA_mono ih h
          · simp at h
      · simp at h

/-- the texts of all documents of a list are valid -/
def F.txt : F → Bool
  | .nil => true
  | .cons o _ t k r => (decide (o ≠ 2) || tv t.data.toList) && k.txt && r.txt

theorem F.ok_txt (f : F) : ∀ d, f.ok d = true → f.txt = true := by
  induction f with
  | nil => intro d h; rfl
  | cons o n t k r ihk ihr =>
    intro d h
    simp only [F.ok, nodeB, textB, Bool.and_eq_true] at h
    obtain ⟨⟨⟨_, h1⟩, h2⟩, h3⟩ := h
    simp only [F.txt, Bool.and_eq_true]
    refine ⟨⟨?_, ihk _ h2⟩, ihr _ h3⟩
    by_cases ho : o = 2
    · subst ho; simpa using h1.1.2
    · simp [ho]

theorem rdK_tight {g g' : List UInt8 → Option (D × List UInt8)} (hg : ∀ s o m t k r, g s = some ((o, m, t, k), r) → (F.cons o m t k .nil).txt = true → g' s = some ((o, m, t, k), r)) : ∀ n s f r, rdK g n s = some (f, r) → f.txt = true → rdK g' n s = some (f, r) := by
  intro n
  induction n with
  | zero => intro s f r h _; exact h
  | succ n ih =>
    intro s f r h ht
    rw [rdK] at h ⊢
    cases hq : g s with
    | none => rw [hq] at h; simp at h
    | some q =>
      obtain ⟨⟨o, m, t, k⟩, r1⟩ := q
      rw [hq] at h
      simp only at h
      cases hk : rdK g n r1 with
      | none => rw [hk] at h; simp at h
      | some q2 =>
        obtain ⟨f2, r2⟩ := q2
        rw [hk] at h; simp at h; obtain ⟨rfl, rfl⟩ := h
        simp only [F.txt, Bool.and_eq_true] at ht
        rw [hg _ _ _ _ _ _ hq (by simp only [F.txt, Bool.and_eq_true]; exact ⟨ht.1, trivial⟩)]
        simp only
        rw [ih _ _ _ hk ht.2]

theorem rdA_tight {g g' : List UInt8 → Option (D × List UInt8)} (hg : ∀ s o m t k r, g s = some ((o, m, t, k), r) → (F.cons o m t k .nil).txt = true → g' s = some ((o, m, t, k), r)) {op num : Int} {cnt : Nat} {sign : UInt8} {s : List UInt8} {o m : Int} {t : ByteArray} {k : F} {r : List UInt8} (h : rdA g op num cnt sign s = some ((o, m, t, k), r)) (ht : k.txt = true) : rdA g' op num cnt sign s = some ((o, m, t, k), r) := by
  unfold rdA at h ⊢
  cases hk : rdK g cnt s with
  | none => rw [hk] at h; simp at h
  | some q =>
    obtain ⟨f, r1⟩ := q
    rw [hk] at h
    cases r1 with
    | nil => simp at h
    | cons c r1 =>
      simp only at h
      split at h
      · rename_i hc
        simp at h
        obtain ⟨⟨rfl, rfl, rfl, rfl⟩, rfl⟩ := h
        rw [rdK_tight hg _ _ _ _ hk ht]
        simp [hc]
      · simp at h

theorem rdD_tight : ∀ d s o m t k r, rdD false d s = some ((o, m, t, k), r) → (F.cons o m t k .nil).txt = true → rdD true d s = some ((o, m, t, k), r) := by
  intro d
  induction d with
  | zero => intro s o m t k r h; simp [rdD] at h
  | succ d ih =>
    intro s o m t k r h ht
    cases s with
    | nil => simp [rdD] at h
    | cons c s =>
      have hk : k.txt = true := by simp only [F.txt, Bool.and_eq_true] at ht; exact ht.1.2
      rw [rdD] at h ⊢
      split at h
      · rename_i h1; rw [if_pos h1]; exact h
      rename_i h1; rw [if_neg h1]
      split at h
      · rename_i h1; rw [if_pos h1]; exact h
      rename_i h1; rw [if_neg h1]
      split at h
      · rename_i h1; rw [if_pos h1]; exact h
      rename_i h1; rw [if_neg h1]
      split at h
      · rename_i h1; rw [if_pos h1]; exact h
      rename_i h1; rw [if_neg h1]
      split at h
      · rename_i h1; rw [if_pos h1]
        unfold rdT at h ⊢
        split at h
        · simp at h
        · rename_i x y hc
          simp at h
          obtain ⟨⟨rfl, rfl, rfl, rfl⟩, rfl⟩ := h
          simp [F.txt] at ht
          simp [ht]
      rename_i h1; rw [if_neg h1]
      split at h
      · rename_i h1; rw [if_pos h1]; exact rdA_tight ih h hk
      rename_i h1; rw [if_neg h1]
      split at h
      · rename_i h1; rw [if_pos h1]; exact rdA_tight ih h hk
      rename_i h1; rw [if_neg h1]
      split at h
      · rename_i h1; rw [if_pos h1]
        cases s with
        | nil => simp [rdN] at h
        | cons b r' =>
          simp only [rdN] at h ⊢
          split at h
          · rename_i h2; rw [if_pos h2]; exact rdA_tight ih h hk
          · simp at h
      · simp at h

/-- The two ways of reading a whole text come to the same. -/
theorem parse_same (s : List UInt8) : parse true s = parse false s := by
  unfold parse
  cases h1 : rdD true 40 s with
  | some x => rw [rdD_loose _ _ _ h1]
  | none =>
    cases h2 : rdD false 40 s with
    | none => rfl
    | some x =>
      obtain ⟨⟨o, n, t, k⟩, r⟩ := x
      cases r with
      | cons c r => rfl
      | nil =>
        by_cases hv : validD o n t k = true
        · have ht : (F.cons o n t k .nil).txt = true := by
            simp only [validD, okD, Bool.and_eq_true] at hv
            refine F.ok_txt _ 40 ?_
            simp only [F.ok, Bool.and_eq_true]
            exact ⟨hv.1, trivial⟩
          rw [rdD_tight _ _ _ _ _ _ _ h2 ht] at h1
          simp at h1
        · simp [hv]

end Go.Proofs.Ytjpgnhpfmdjamaa
