/-
  What the model's reader of documents comes to.
-/
import Derived.Test.YtjpgnhpfmdjamaaParseP
import Derived.Test.YtjpgnhpfmdjamaaCatB
import Derived.OwnWalk
import Derived.Outline
set_option linter.unusedVariables false
set_option linter.unusedSimpArgs false
namespace Go.Proofs.Ytjpgnhpfmdjamaa.SpR
open Go.RowKit P1 Copy

/-- what is left is an end of what there was -/
theorem rdK_suffix {g : List UInt8 → Option (D × List UInt8)} (hg : ∀ s x r, g s = some (x, r) → r <:+ s) : ∀ n s f r, rdK g n s = some (f, r) → r <:+ s := by
  intro n
  induction n with
  | zero => intro s f r h; simp [rdK] at h; rw [h.2]; exact List.suffix_rfl
  | succ n ih =>
    intro s f r h
    rw [rdK] at h
    cases hq : g s with
    | none => rw [hq] at h; simp at h
    | some q =>
      obtain ⟨⟨o, m, t, k⟩, r1⟩ := q
      rw [hq] at h
      simp only at h
      cases hk : rdK g n r1 with
      | none => rw [hk] at h; simp at h
      | some q2 =>
        obtain ⟨f2, r2⟩ := q2
        rw [hk] at h; simp at h
        rw [← h.2]
        exact (ih _ _ _ hk).trans (hg _ _ _ hq)

theorem rdA_suffix {g : List UInt8 → Option (D × List UInt8)} (hg : ∀ s x r, g s = some (x, r) → r <:+ s) {op num : Int} {cnt : Nat} {sign : UInt8} {s : List UInt8} {x : D} {r : List UInt8} (h : rdA g op num cnt sign s = some (x, r)) : r <:+ s := by
  unfold rdA at h
  split at h
  · simp at h
  · simp at h
  · rename_i f c r1 hk
    split at h
    · simp at h
      rw [← h.2]
      exact (List.suffix_cons c r1).trans (rdK_suffix hg _ _ _ _ hk)
    · simp at h

theorem cutQ_suffix {s x y : List UInt8} (h : cutQ s = some (x, y)) : s = x ++ 34 :: y := by
  induction s generalizing x y with
  | nil => simp [cutQ] at h
  | cons c r ih =>
    rw [cutQ] at h
    split at h
    · rename_i hc; simp at h; obtain ⟨rfl, rfl⟩ := h; rw [hc]; rfl
    · cases hq : cutQ r with
      | none => rw [hq] at h; simp at h
      | some q =>
        obtain ⟨a, b⟩ := q
        rw [hq] at h; simp at h; obtain ⟨rfl, rfl⟩ := h
        rw [ih hq]; rfl

theorem rdT_suffix {chk : Bool} {s : List UInt8} {x : D} {r : List UInt8} (h : rdT chk s = some (x, r)) : r <:+ s := by
  unfold rdT at h
  split at h
  · simp at h
  · rename_i a b hc
    split at h
    · simp at h
    · simp at h
      rw [← h.2, cutQ_suffix hc]
      exact (List.suffix_cons 34 b).trans (List.suffix_append a _)

theorem rdD_suffix (chk : Bool) : ∀ d s x r, rdD chk d s = some (x, r) → r <:+ s := by
  intro d
  induction d with
  | zero => intro s x r h; simp [rdD] at h
  | succ d ih =>
    intro s x r h
    cases s with
    | nil => simp [rdD] at h
    | cons c s =>
      rw [rdD] at h
      have hc := List.suffix_cons c s
      split at h
      · simp at h; rw [← h.2]; exact hc
      split at h
      · simp at h; rw [← h.2]; exact hc
      split at h
      · simp at h; rw [← h.2]; exact hc
      split at h
      · simp at h; rw [← h.2]; exact hc
      split at h
      · exact (rdT_suffix h).trans hc
      split at h
      · exact (rdA_suffix ih h).trans hc
      split at h
      · exact (rdA_suffix ih h).trans hc
      split at h
      · cases s with
        | nil => simp [rdN] at h
        | cons b r' =>
          simp only [rdN] at h
          split at h
          · exact (rdA_suffix ih h).trans ((List.suffix_cons b r').trans hc)
          · simp at h
      · simp at h

/-- a document that is no answer -/
def AnyD (v : Value) : Prop := ∃ (o n : Int) (t : ByteArray) (a : Option Addr) (l c : Nat), v = .agg #[.int .i64 o, .int .i64 n, .string t, .slice a l c]

/-- what reading comes to: the document and the place behind it, or -1 -/
def SpOut (w : World) (N : Nat) (r : Option (D × List UInt8)) (e : Ending) (w' : World) : Prop := Below w.heap.size w w' ∧ match r with
  | none => ∃ v, AnyD v ∧ e = .returned (.tuple #[v, .int .i64 (-1)])
  | some ((o, n, t, k), l') => ∃ (a : Option Addr) (cap : Nat) (fs : List Nat), e = .returned (.tuple #[.agg #[.int .i64 o, .int .i64 n, .string t, .slice a k.len cap], .int .i64 ((N - l'.length : Nat) : Int)]) ∧ k.len ≤ cap ∧ SubAt w' a k fs ∧ Fresh w.heap.size w' fs

theorem SpOut.of_none {w : World} {N : Nat} {e : Ending} {w' : World} (h : SpOut w N none e w') : ∃ (o n : Int) (t : ByteArray) (a : Option Addr) (l c : Nat), e = .returned (.tuple #[.agg #[.int .i64 o, .int .i64 n, .string t, .slice a l c], .int .i64 (-1)]) ∧ Below w.heap.size w w' := by
  obtain ⟨h1, v, ⟨o, n, t, a, l, c, rfl⟩, h2⟩ := h
  exact ⟨o, n, t, a, l, c, h2, h1⟩
theorem SpOut.of_some {w : World} {N : Nat} {o n : Int} {t : ByteArray} {k : F} {l' : List UInt8} {e : Ending} {w' : World} (h : SpOut w N (some ((o, n, t, k), l')) e w') : ∃ (a : Option Addr) (cap : Nat) (fs : List Nat), e = .returned (.tuple #[.agg #[.int .i64 o, .int .i64 n, .string t, .slice a k.len cap], .int .i64 ((N - l'.length : Nat) : Int)]) ∧ k.len ≤ cap ∧ SubAt w' a k fs ∧ Fresh w.heap.size w' fs ∧ Below w.heap.size w w' := by
  obtain ⟨h1, a, cap, fs, h2, h3, h4, h5⟩ := h
  exact ⟨a, cap, fs, h2, h3, h4, h5, h1⟩

/-- a byte of a text, and what is behind it -/
theorem at_cons {s : ByteArray} {p : Nat} {c : UInt8} {r : List UInt8} (h : s.data.toList.drop p = c :: r) : ∃ hp : p < s.size, s[p] = c ∧ s.data.toList.drop (p + 1) = r ∧ s.size = p + 1 + r.length := by
  have hl : p < s.data.toList.length := by
    rcases Nat.lt_or_ge p s.data.toList.length with h1 | h1
    · exact h1
    · rw [List.drop_eq_nil_of_le h1] at h; cases h
  have e := List.drop_eq_getElem_cons hl
  rw [h] at e
  injection e with e1 e2
  have hls : s.data.toList.length = s.size := by simp
  refine ⟨by omega, by rw [e1]; rfl, e2.symm, ?_⟩
  have := congrArg List.length h
  simp only [List.length_drop, List.length_cons] at this
  omega
theorem at_nil {s : ByteArray} {p : Nat} (h : s.data.toList.drop p = []) : s.size ≤ p := by
  have := congrArg List.length h
  simp at this
  have hls : s.data.toList.length = s.size := by simp
  omega

theorem extract_mk (s : ByteArray) (a b : Nat) : s.extract a b = ⟨((s.data.toList.drop a).take (b - a)).toArray⟩ := by
  apply ByteArray.ext
  apply Array.ext'
  simp [List.take_drop]

/-- what is in front of the first quote, after j bytes that are none -/
def mapQ (p : List UInt8) : Option (List UInt8 × List UInt8) → Option (List UInt8 × List UInt8)
  | none => none
  | some (x, y) => some (p ++ x, y)

theorem cutQ_step {r r2 : List UInt8} {j : Nat} {c : UInt8} (h : r.drop j = c :: r2) (hc : c ≠ 34) : mapQ (r.take j) (cutQ (r.drop j)) = mapQ (r.take (j + 1)) (cutQ (r.drop (j + 1))) := by
  have hl : j < r.length := by
    rcases Nat.lt_or_ge j r.length with h1 | h1
    · exact h1
    · rw [List.drop_eq_nil_of_le h1] at h; cases h
  have e := List.drop_eq_getElem_cons hl
  rw [h] at e
  injection e with e1 e2
  rw [h, cutQ, if_neg hc, ← e2, List.take_succ_eq_append_getElem hl, ← e1]
  cases cutQ r2 with
  | none => rfl
  | some q => obtain ⟨a, b⟩ := q; simp [mapQ]

set_option maxRecDepth 100000 in
set_option maxHeartbeats 3200000 in
theorem l1Word (w : World) (s : ByteArray) (hs : s.size ≤ 1048576) (p : Nat) (r : List UInt8) (hr : s.data.toList.drop (p + 1) = r) (hp : p < s.size) :
    Calls Try.prog 94 #[.string s, .int .i64 (p : Int)] w (SpOut w s.size (rdT false r)) := by
  have hlen : s.size = p + 1 + r.length := by
    have := congrArg List.length hr
    simp only [List.length_drop] at this
    have hls : s.data.toList.length = s.size := by simp
    omega
  have HL := Lib.hid (And.intro hr hlen)
  clear hr hlen
  go_enter Try.func94, Try.ntmps94
  go_wp2_with fail
  go_loop [6] (fun e => ∃ en j : Nat, Hid (en = p + 1 + j ∧ cutQ r = mapQ (r.take j) (cutQ (r.drop j))) ∧ en ≤ s.size ∧ e = .int .i64 en) (fun e => s.size - (intOf e).toNat)
  case atStart => exact ⟨p + 1, 0, Lib.hid ⟨rfl, by simp only [List.take_zero, List.drop_zero]; cases cutQ r with
    | none => rfl
    | some q => rfl⟩, by omega, by go_num⟩
  case round =>
    obtain ⟨en, j, HE, hen, rfl⟩ := hrel
    have hdrop : s.data.toList.drop en = r.drop j := by rw [HE.out.1, ← HL.out.1, List.drop_drop]
    cases hd : r.drop j with
    | nil =>
      have hend : s.size ≤ en := at_nil (hdrop.trans hd)
      have hno : rdT false r = none := by unfold rdT; rw [HE.out.2, hd]; rfl
      have HN := Lib.hid hno
      clear hdrop hd hno
      go_wp2_with fail
      refine bodyPost_ret (v := .tuple #[.agg #[.int .i64 0, .int .i64 0, .string ⟨#[]⟩, .slice none 0 0], .int .i64 (-1)]) (by simp [results, Try.results94, go_sem]) rfl ?_
      rw [HN.out]
      exact ⟨(Below.refl _ _).alloc (Nat.le_refl _) _, _, ⟨0, 0, ⟨#[]⟩, none, 0, 0, rfl⟩, rfl⟩
    | cons c r2 =>
      obtain ⟨hlt, hc, hr2, hsz⟩ := at_cons (hdrop.trans hd)
      by_cases hq : c = 34
      · have hb : ((s[en].toNat : Int) != 34) = false := by rw [hc, hq]; rfl
        have hyes : rdT false r = some ((2, 0, ⟨(r.take j).toArray⟩, .nil), r2) := by
          unfold rdT; rw [HE.out.2, hd, hq]; simp [cutQ, mapQ]
        have hex : s.extract (p + 1) en = ⟨(r.take j).toArray⟩ := by rw [extract_mk, HL.out.1, HE.out.1]; congr 3; omega
        have hN : s.size - r2.length = en + 1 := by omega
        have HY := Lib.hid (And.intro hyes (And.intro hex hN))
        have hpe : (p : Int) + 1 ≤ (en : Int) := by rw [HE.out.1]; omega
        have hp0 : (0 : Int) ≤ (p : Int) + 1 := by omega
        have hen' : (en : Int) ≤ (s.size : Int) := by omega
        clear hdrop hd hc hr2 hsz hyes hex hN
        go_wp2_with fail
        go_goals
        refine bodyPost_ret (v := .tuple #[.agg #[.int .i64 2, .int .i64 0, .string (s.extract (p + 1) en), .slice none 0 0], .int .i64 ((en : Int) + 1)]) (by simp [results, Try.results94, go_sem]) rfl ?_
        obtain ⟨hyes, hex, hN⟩ := HY.out
        rw [hyes, hex]
        exact ⟨(Below.refl _ _).alloc (Nat.le_refl _) _, none, 0, [], by rw [hN]; rfl, by simp [F.len], .inl ⟨rfl, rfl⟩, Fresh.nil _ _⟩
      · have hb : ((s[en].toNat : Int) != 34) = true := by
          rw [bne_iff_ne, hc]; intro e; exact hq (UInt8.toNat_inj.1 (by simpa using (by omega : c.toNat = 34)))
        have HS := Lib.hid (And.intro hd hq)
        clear hdrop hd hc hr2 hsz hq
        go_wp2_with fail
        go_round
        case rel => exact ⟨en + 1, j + 1, Lib.hid ⟨by rw [HE.out.1]; omega, by rw [HE.out.2, cutQ_step HS.out.1 HS.out.2]⟩, by omega, by go_num⟩
        case measure => simp [intOf]; omega

end Go.Proofs.Ytjpgnhpfmdjamaa.SpR
