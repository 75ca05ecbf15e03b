import Derived.Test.YtcealfjkcbaelaaTkV
/-
  Groups in a list of tokens, as plain functions: where a group closes, and how much room it needs.
-/
set_option linter.unusedVariables false
set_option linter.unusedSimpArgs false
namespace Go.Proofs.Ytcealfjkcbaelaa.Tk
open Go.RowKit P1

abbrev Tok := Int × Int × ByteArray
/-- how many groups are open behind a token -/
def nx (d : Nat) (k : Int) : Nat := if k = 5 then d + 1 else if k = 6 then d - 1 else d
/-- the number of tokens until d open groups are closed -/
def glo : Nat → List Tok → Option Nat
  | d, [] => if d = 0 then some 0 else none
  | d, r :: s => if d = 0 then some 0 else (glo (nx d r.1) s).map (· + 1)
theorem glo_zero (s : List Tok) : glo 0 s = some 0 := by cases s <;> simp [glo]
theorem glo_nil {d N : Nat} (h : glo d [] = some N) : d = 0 ∧ N = 0 := by
  simp only [glo] at h
  split at h
  · rename_i h0; injection h with h; exact ⟨h0, h.symm⟩
  · cases h
theorem glo_cons {d N : Nat} {r : Tok} {s : List Tok} (hd : 0 < d) (h : glo d (r :: s) = some N) : ∃ M, N = M + 1 ∧ glo (nx d r.1) s = some M := by
  simp only [glo, if_neg (show ¬ d = 0 by omega)] at h
  cases hg : glo (nx d r.1) s with
  | none => rw [hg] at h; cases h
  | some M => rw [hg] at h; injection h with h; exact ⟨M, h.symm, rfl⟩
/-- the kinds 5 in a stack -/
def c5 : List Int → Nat
  | [] => 0
  | x :: r => (if x = 5 then 1 else 0) + c5 r
theorem glo_run : ∀ (s : List Tok) (st : List Int) (d : Nat), run st s = some [] → d ≤ c5 st → ∃ N, glo d s = some N
  | [], st, d, h, hd => by
    simp only [run, Option.some.injEq] at h
    subst h
    have : d = 0 := by simpa [c5] using hd
    exact ⟨0, by simp [glo, this]⟩
  | r :: s, st, d, h, hd => by
    by_cases h0 : d = 0
    · exact ⟨0, by simp [glo, h0]⟩
    simp only [run] at h
    split at h
    · split at h
      · cases h
      · rename_i st1 hs
        have hstep : nx d r.1 ≤ c5 st1 := by
          unfold stp at hs
          unfold nx
          split at hs
          · split at hs
            · cases hs
              simp only [c5]
              split <;> rename_i h5
              · omega
              · split
                · rename_i h6 _ _ ; omega
                · omega
            · cases hs
          · rename_i hn
            split at hs
            · rename_i hc
              split at hs
              · cases hs
              · rename_i x q
                split at hs
                · rename_i hx
                  cases hs
                  simp only [c5] at hd
                  rw [if_neg (by omega)]
                  split
                  · rename_i h6
                    rw [if_pos (by omega)] at hd; omega
                  · rw [if_neg (by omega)] at hd; omega
                · cases hs
            · rename_i hc
              cases hs
              rw [if_neg (by omega), if_neg (by omega)]; exact hd
        obtain ⟨N, hN⟩ := glo_run s st1 _ h hstep
        exact ⟨N + 1, by simp [glo, h0, hN]⟩
    · cases h
theorem drop_cons' {l : List Tok} {i : Nat} (hi : i < l.length) : l.drop i = l[i] :: l.drop (i + 1) := List.drop_eq_getElem_cons hi
/-- a group of a valid list closes -/
theorem glo_valid {l : List Tok} (h : tkv l = true) {i : Nat} (hi : i < l.length) (h5 : l[i].1 = 5) : ∃ N, glo 1 (l.drop (i + 1)) = some N := by
  simp only [tkv, Bool.and_eq_true, decide_eq_true_eq] at h
  have hr := h.2
  rw [← List.take_append_drop i l, run_app] at hr
  cases hs : run [] (l.take i) with
  | none => rw [hs] at hr; cases hr
  | some st =>
    rw [hs] at hr
    have hr : run st (l.drop i) = some [] := hr
    rw [drop_cons' hi] at hr
    simp only [run] at hr
    split at hr
    · split at hr
      · cases hr
      · rename_i st1 hst
        refine glo_run _ st1 1 hr ?_
        unfold stp at hst
        rw [if_pos (by left; exact h5)] at hst
        split at hst
        · cases hst; simp [c5, h5]
        · cases hst
    · cases hr
theorem tkv_len {l : List Tok} (h : tkv l = true) : l.length < 200 := by simp only [tkv, Bool.and_eq_true, decide_eq_true_eq] at h; exact h.1
theorem tkv_kt {l : List Tok} (h : tkv l = true) {i : Nat} (hi : i < l.length) : kt l[i].1 l[i].2.1 l[i].2.2 = true := by
  simp only [tkv, Bool.and_eq_true, decide_eq_true_eq] at h
  have hr := h.2
  rw [← List.take_append_drop i l, run_app] at hr
  cases hs : run [] (l.take i) with
  | none => rw [hs] at hr; cases hr
  | some st =>
    rw [hs] at hr
    have hr : run st (l.drop i) = some [] := hr
    rw [drop_cons' hi] at hr
    simp only [run] at hr
    split at hr
    · assumption
    · cases hr
theorem kt_size {k n : Int} {t : ByteArray} (h : kt k n t = true) : t.size ≤ 12 := by
  unfold kt at h
  split at h
  · simp only [Bool.and_eq_true] at h; have := tv_len h.1; simpa using this.2
  · split at h
    · simp only [Bool.and_eq_true, decide_eq_true_eq] at h; rw [h.1]; decide
    · simp only [Bool.and_eq_true, decide_eq_true_eq] at h; rw [h.2.1]; decide

/-- a token's bytes in one line; whether it is a newline -/
def szT (r : Tok) : Int := if r.1 = 2 then 1 else (r.2.2.size : Int)
def isN (k : Int) : Bool := decide (2 ≤ k) && decide (k ≤ 4)
/-- the look ahead from a group of L tokens: what it needs, and where it ends before the list does -/
def lkN (L : Nat) : List Tok → Nat → Int → Int × Option Nat
  | [], _, acc => (acc, none)
  | r :: s, i, acc => if i < L ∧ r.1 = 4 then (-1, some i) else if ¬ i < L ∧ isN r.1 = true then (acc, some i) else lkN L s (i + 1) (acc + szT r)
theorem lkN_hard {L i : Nat} {acc : Int} {r : Tok} {s : List Tok} (h : i < L) (h4 : r.1 = 4) : lkN L (r :: s) i acc = (-1, some i) := by simp [lkN, h, h4]
theorem lkN_new {L i : Nat} {acc : Int} {r : Tok} {s : List Tok} (h : ¬ i < L) (hn : isN r.1 = true) : lkN L (r :: s) i acc = (acc, some i) := by simp [lkN, h, hn]
theorem lkN_in {L i : Nat} {acc : Int} {r : Tok} {s : List Tok} (h : i < L) (h4 : r.1 ≠ 4) : lkN L (r :: s) i acc = lkN L s (i + 1) (acc + szT r) := by simp [lkN, h, h4]
theorem lkN_out {L i : Nat} {acc : Int} {r : Tok} {s : List Tok} (h : ¬ i < L) (hn : isN r.1 = false) : lkN L (r :: s) i acc = lkN L s (i + 1) (acc + szT r) := by simp [lkN, h, hn]
/-- the length of the group that begins a list -/
def gL (s : List Tok) : Nat := (match glo 1 (s.drop 1) with | some N => N | none => 0) + 1
theorem gL_eq {s : List Tok} {N : Nat} (h : glo 1 (s.drop 1) = some N) : gL s = N + 1 := by unfold gL; rw [h]
/-- the room of each token -/
def roomT (l : List Tok) (i : Nat) (h : i < l.length) : Int := if l[i].1 = 5 then (lkN (gL (l.drop i)) (l.drop i) 0 0).1 else szT l[i]
end Go.Proofs.Ytcealfjkcbaelaa.Tk

