import Derived.Test.YtcealfjkcbaelaaTkP
/-
  Which lists of tokens are valid, as a plain function: the kinds that are open are a stack.
-/
set_option linter.unusedVariables false
set_option linter.unusedSimpArgs false
namespace Go.Proofs.Ytcealfjkcbaelaa.Tk
open Go.RowKit P1

/-- a token by itself -/
def kt (k n : Int) (t : ByteArray) : Bool :=
  if k = 1 then tv t.data.toList && decide (n = 0) else if k = 7 then decide (t = ⟨#[]⟩) && (decide (0 ≤ n) && decide (n ≤ 9)) else (decide (2 ≤ k) && decide (k ≤ 8)) && (decide (t = ⟨#[]⟩) && decide (n = 0))
/-- a token changes what is open, or may not stand here -/
def stp (st : List Int) (k : Int) : Option (List Int) :=
  if k = 5 ∨ k = 7 then (if st.length < 50 then some (k :: st) else none)
  else if k = 6 ∨ k = 8 then (match st with | [] => none | x :: r => if x + 1 = k then some r else none)
  else some st
def run : List Int → List (Int × Int × ByteArray) → Option (List Int)
  | st, [] => some st
  | st, r :: l => if kt r.1 r.2.1 r.2.2 then (match stp st r.1 with | none => none | some st' => run st' l) else none
def tkv (l : List (Int × Int × ByteArray)) : Bool := decide (l.length < 200) && decide (run [] l = some [])

theorem run_app (l k : List (Int × Int × ByteArray)) : ∀ st, run st (l ++ k) = (run st l).bind fun s => run s k := by
  induction l with
  | nil => intro st; rfl
  | cons r l ih =>
    intro st
    simp only [List.cons_append, run]
    cases kt r.1 r.2.1 r.2.2 with
    | false => rfl
    | true =>
      cases h : stp st r.1 with
      | none => rfl
      | some st' => simp only [if_true]; exact ih st'
theorem run_one (st : List Int) (k n : Int) (t : ByteArray) : run st [(k, n, t)] = if kt k n t then stp st k else none := by
  simp only [run]
  cases kt k n t with
  | false => rfl
  | true => cases h : stp st k <;> rfl
theorem run_take {l : List (Int × Int × ByteArray)} {j : Nat} (hj : j < l.length) {st : List Int} (h : run [] (l.take j) = some st) : run [] (l.take (j + 1)) = if kt l[j].1 l[j].2.1 l[j].2.2 then stp st l[j].1 else none := by
  rw [List.take_succ_eq_append_getElem hj, run_app, h]
  show run st [l[j]] = _
  rw [show [l[j]] = [(l[j].1, l[j].2.1, l[j].2.2)] from rfl, run_one]
theorem run_none {l : List (Int × Int × ByteArray)} {j : Nat} (h : run [] (l.take j) = none) : run [] l = none := by
  have : l = l.take j ++ l.drop j := (List.take_append_drop j l).symm
  rw [this, run_app, h]; rfl
theorem tkv_none {l : List (Int × Int × ByteArray)} {j : Nat} (h : run [] (l.take j) = none) : tkv l = false := by simp [tkv, run_none h]
theorem tkv_long {l : List (Int × Int × ByteArray)} (h : 199 < l.length) : tkv l = false := by simp [tkv]; intro; omega
theorem tkv_end {l : List (Int × Int × ByteArray)} (h : l.length < 200) {st : List Int} (hr : run [] l = some st) : tkv l = decide (st.length = 0) := by
  unfold tkv
  rw [hr]
  simp only [h, decide_true, Bool.true_and, Option.some.injEq]
  rw [Bool.eq_iff_iff]; simp
/-- no more than fifty are open -/
theorem run_len (l : List (Int × Int × ByteArray)) : ∀ st st', st.length ≤ 50 → run st l = some st' → st'.length ≤ 50 := by
  induction l with
  | nil => intro st st' h e; simp only [run, Option.some.injEq] at e; subst e; exact h
  | cons r l ih =>
    intro st st' h e
    simp only [run] at e
    split at e
    · split at e
      · cases e
      · rename_i st1 hs
        refine ih st1 st' ?_ e
        unfold stp at hs
        split at hs
        · split at hs
          · cases hs; simp; omega
          · cases hs
        · split at hs
          · split at hs
            · cases hs
            · split at hs
              · cases hs; simp at h; omega
              · cases hs
          · cases hs; exact h
    · cases e
end Go.Proofs.Ytcealfjkcbaelaa.Tk

