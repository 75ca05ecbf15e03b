import Derived.Test.YtlhdoifjhoocfaaPl
/-
  A reading reads no further than it must: what is read of a text is read of the text with more behind it. So a text that is whole is none with a byte more or less. Nothing here speaks of the program.
-/
set_option linter.unusedVariables false
set_option linter.unusedSimpArgs false
namespace Go.Proofs.Ytlhdoifjhoocfaa.PsP
open Go.RowKit P1

theorem cutQ_app {s x y : List UInt8} (h : cutQ s = some (x, y)) (t : List UInt8) : cutQ (s ++ t) = some (x, y ++ t) := by
  induction s generalizing x y with
  | nil => simp [cutQ] at h
  | cons c r ih =>
    rw [cutQ] at h
    rw [List.cons_append, cutQ]
    split at h
    · rename_i hc
      simp at h; obtain ⟨rfl, rfl⟩ := h
      rw [if_pos hc]
    · rename_i hc
      rw [if_neg hc]
      cases hq : cutQ r with
      | none => rw [hq] at h; simp at h
      | some q =>
        obtain ⟨a, b⟩ := q
        rw [hq] at h; simp at h; obtain ⟨rfl, rfl⟩ := h
        rw [ih hq]

/-- g reads no further than it must -/
def Far (g : List UInt8 → Option (D × List UInt8)) : Prop := ∀ s x r, g s = some (x, r) → ∀ t, g (s ++ t) = some (x, r ++ t)

theorem rdK_app {g : List UInt8 → Option (D × List UInt8)} (hg : Far g) : ∀ n s f r, rdK g n s = some (f, r) → ∀ t, rdK g n (s ++ t) = some (f, r ++ t) := by
  intro n
  induction n with
  | zero => intro s f r h t; simp [rdK] at h; obtain ⟨rfl, rfl⟩ := h; rfl
  | succ n ih =>
    intro s f r h t
    rw [rdK] at h
    cases hq : g s with
    | none => rw [hq] at h; simp at h
    | some q =>
      obtain ⟨⟨o, m, u, k⟩, r1⟩ := q
      rw [hq] at h
      simp only at h
      cases hk : rdK g n r1 with
      | none => rw [hk] at h; simp at h
      | some q2 =>
        obtain ⟨f2, r2⟩ := q2
        rw [hk] at h; simp at h; obtain ⟨rfl, rfl⟩ := h
        rw [rdK, hg _ _ _ hq t]
        simp only
        rw [ih _ _ _ hk t]

theorem rdA_app {g : List UInt8 → Option (D × List UInt8)} (hg : Far g) {op num : Int} {cnt : Nat} {sign : UInt8} {s : List UInt8} {x : D} {r : List UInt8} (h : rdA g op num cnt sign s = some (x, r)) (t : List UInt8) : rdA g op num cnt sign (s ++ t) = some (x, r ++ t) := by
  unfold rdA at h
  cases hk : rdK g cnt s with
  | none => rw [hk] at h; simp at h
  | some q =>
    obtain ⟨f, r1⟩ := q
    rw [hk] at h
    cases r1 with
    | nil => simp at h
    | cons c r2 =>
      simp only at h
      split at h
      · rename_i hc
        simp at h; obtain ⟨rfl, rfl⟩ := h
        unfold rdA
        rw [rdK_app hg _ _ _ _ hk t, List.cons_append]
        simp only
        rw [if_pos hc]
      · simp at h

theorem rdT_app {chk : Bool} {s : List UInt8} {x : D} {r : List UInt8} (h : rdT chk s = some (x, r)) (t : List UInt8) : rdT chk (s ++ t) = some (x, r ++ t) := by
  unfold rdT at h
  cases hc : cutQ s with
  | none => rw [hc] at h; simp at h
  | some q =>
    obtain ⟨a, b⟩ := q
    rw [hc] at h
    simp only at h
    unfold rdT
    rw [cutQ_app hc t]
    simp only
    split at h
    · simp at h
    · rename_i hn
      rw [if_neg hn]
      simp at h; obtain ⟨rfl, rfl⟩ := h
      rfl

theorem rdN_app {g : List UInt8 → Option (D × List UInt8)} (hg : Far g) {c : UInt8} {s : List UInt8} {x : D} {r : List UInt8} (h : rdN g c s = some (x, r)) (t : List UInt8) : rdN g c (s ++ t) = some (x, r ++ t) := by
  cases s with
  | nil => simp [rdN] at h
  | cons b s =>
    rw [rdN] at h
    rw [List.cons_append, rdN]
    split at h
    · rename_i hb
      rw [if_pos hb]
      exact rdA_app hg h t
    · simp at h

theorem rdD_app (chk : Bool) : ∀ d, Far (rdD chk d) := by
  intro d
  induction d with
  | zero => intro s x r h; simp [rdD] at h
  | succ d ih =>
    intro s x r h t
    cases s with
    | nil => simp [rdD] at h
    | cons c s =>
      rw [rdD] at h
      rw [List.cons_append, rdD]
      split at h
      · rename_i hc; rw [if_pos hc]; simp at h; obtain ⟨rfl, rfl⟩ := h; rfl
      · rename_i hc; rw [if_neg hc]
        split at h
        · rename_i hc; rw [if_pos hc]; simp at h; obtain ⟨rfl, rfl⟩ := h; rfl
        · rename_i hc; rw [if_neg hc]
          split at h
          · rename_i hc; rw [if_pos hc]; simp at h; obtain ⟨rfl, rfl⟩ := h; rfl
          · rename_i hc; rw [if_neg hc]
            split at h
            · rename_i hc; rw [if_pos hc]; simp at h; obtain ⟨rfl, rfl⟩ := h; rfl
            · rename_i hc; rw [if_neg hc]
              split at h
              · rename_i hc; rw [if_pos hc]; exact rdT_app h t
              · rename_i hc; rw [if_neg hc]
                split at h
                · rename_i hc; rw [if_pos hc]; exact rdA_app ih h t
                · rename_i hc; rw [if_neg hc]
                  split at h
                  · rename_i hc; rw [if_pos hc]; exact rdA_app ih h t
                  · rename_i hc; rw [if_neg hc]
                    split at h
                    · rename_i hc; rw [if_pos hc]; exact rdN_app ih h t
                    · simp at h

theorem parse_rd {chk : Bool} {s : List UInt8} {x : D} (h : parse chk s = some x) : rdD chk 40 s = some (x, []) := by
  unfold parse at h
  split at h
  · rename_i o n t k hr
    split at h
    · simp at h; rw [← h]; exact hr
    · simp at h
  · simp at h
theorem parse_none {chk : Bool} {s r : List UInt8} {x : D} {c : UInt8} (h : rdD chk 40 s = some (x, c :: r)) : parse chk s = none := by
  unfold parse
  rw [h]
/-- a whole text with a byte more is none -/
theorem parse_more {chk : Bool} {s : List UInt8} {x : D} (h : parse chk s = some x) (c : UInt8) : parse chk (s ++ [c]) = none :=
  parse_none (x := x) (c := c) (r := []) (by rw [rdD_app chk 40 _ _ _ (parse_rd h) [c]]; rfl)
/-- a whole text with a byte less is none -/
theorem parse_less {chk : Bool} {s : List UInt8} {x : D} {c : UInt8} (h : parse chk (s ++ [c]) = some x) : parse chk s = none := by
  cases hp : parse chk s with
  | none => rfl
  | some y => rw [parse_more hp c] at h; simp at h
theorem parse_ne {chk : Bool} {s : List UInt8} {x : D} (h : parse chk s = some x) : s ≠ [] := by
  rintro rfl
  have := parse_rd h
  simp [rdD] at this

end Go.Proofs.Ytlhdoifjhoocfaa.PsP

