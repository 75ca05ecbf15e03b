import Derived.Test.YtmkibpimjaofgaaNfA
import Derived.Test.YtmkibpimjaofgaaDrY
/-
  The texts and newlines that a layout has, as plain functions; nothing here speaks of the program.
-/
set_option linter.unusedVariables false
set_option linter.unusedSimpArgs false
namespace Go.Proofs.Ytmkibpimjaofgaa.Nf
open P1 CatD

def pcs (s : ByteArray) : F := if h : 0 < s.size then .cons 2 0 (s.extract 0 (min s.size 12)) .nil (pcs (s.extract (min s.size 12) s.size)) else .nil
termination_by s.size
decreasing_by rw [ByteArray.size_extract]; omega
theorem pcs_none {s : ByteArray} (h : s.size = 0) : pcs s = .nil := by rw [pcs, dif_neg (by omega)]
theorem pcs_some {s : ByteArray} (h : 0 < s.size) {m : Nat} (hm : min s.size 12 = m) : pcs s = .cons 2 0 (s.extract 0 m) .nil (pcs (s.extract m s.size)) := by rw [pcs, dif_pos h, hm]
def nlD (i : Nat) : D := nests i (5, 0, ⟨#[]⟩, .nil)
def ldT : List (Int × ByteArray) → F
  | [] => .nil
  | r :: l => consD (nlD r.1.toNat) ((pcs r.2).app (ldT l))
def ldF : List (Int × ByteArray) → F
  | [] => .nil
  | r :: l => (pcs r.2).app (ldT l)
def ldG (i : Nat) (l : List (Int × ByteArray)) : F := if i = 0 then ldF (l.drop i) else ldT (l.drop i)
theorem ldG_end {i : Nat} {l : List (Int × ByteArray)} (h : l.length ≤ i) : ldG i l = .nil := by
  unfold ldG
  rw [List.drop_eq_nil_of_le h]
  split <;> rfl
theorem ldG_zero {l : List (Int × ByteArray)} (h : 0 < l.length) : ldG 0 l = (pcs l[0].2).app (ldG 1 l) := by
  cases l with
  | nil => simp at h
  | cons r l => rfl
theorem ldG_succ {i : Nat} {l : List (Int × ByteArray)} (h : i < l.length) (h0 : 0 < i) : ldG i l = consD (nlD l[i].1.toNat) ((pcs l[i].2).app (ldG (i + 1) l)) := by
  have e : l.drop i = l[i] :: l.drop (i + 1) := (List.getElem_cons_drop h).symm
  unfold ldG
  rw [if_neg (by omega), if_neg (by omega), e]
  rfl
theorem ldG_all (l : List (Int × ByteArray)) : ldG 0 l = ldF l := by unfold ldG; rw [if_pos rfl, List.drop_zero]

def ldR (l : List (Int × ByteArray)) : Bool × D := if lv l = true ∧ (ldF l).len ≤ 100 ∧ validD (catAll (ldF l)).1 (catAll (ldF l)).2.1 (catAll (ldF l)).2.2.1 (catAll (ldF l)).2.2.2 = true then (true, catAll (ldF l)) else (false, zeroD)

theorem size_app (f g : F) : (f.app g).size = f.size + g.size := F.size_app f g
theorem pcs_size : ∀ (m : Nat) (s : ByteArray), s.size ≤ m → (pcs s).size ≤ 2 * s.size ∧ (pcs s).len ≤ s.size := by
  intro m
  induction m with
  | zero => intro s hs; rw [pcs_none (by omega)]; exact ⟨Nat.zero_le _, Nat.zero_le _⟩
  | succ m ih =>
    intro s hs
    by_cases h0 : 0 < s.size
    · rw [pcs_some h0 rfl]
      obtain ⟨q, hq⟩ : ∃ q, min s.size 12 = q := ⟨_, rfl⟩
      rw [hq]
      have e1 : (s.extract q s.size).size = s.size - q := by rw [ByteArray.size_extract]; omega
      have e2 : (s.extract 0 q).size = q := by rw [ByteArray.size_extract]; omega
      obtain ⟨h1, h2⟩ := ih (s.extract q s.size) (by rw [e1]; omega)
      rw [e1] at h1 h2
      have e3 : (F.cons 2 0 (s.extract 0 q) .nil (pcs (s.extract q s.size))).size = 1 + (s.extract 0 q).size + 0 + (pcs (s.extract q s.size)).size := rfl
      have e4 : (F.cons 2 0 (s.extract 0 q) .nil (pcs (s.extract q s.size))).len = (pcs (s.extract q s.size)).len + 1 := by simp [F.len, Nat.add_comm]
      rw [e3, e4, e2]
      omega
    · rw [pcs_none (by omega)]; exact ⟨Nat.zero_le _, Nat.zero_le _⟩
theorem nests_size : ∀ (m i : Nat) (d : D), i ≤ m → (consD (nests i d) .nil).size ≤ (consD d .nil).size + i := by
  intro m
  induction m with
  | zero => intro i d hi; rw [nests, dif_neg (by omega)]; omega
  | succ m ih =>
    intro i d hi
    rw [nests]
    split
    · rename_i h0
      have h1 := ih (i - min i 9) (6, ((min i 9 : Nat) : Int), ⟨#[]⟩, consD d .nil) (by omega)
      have h2 : (consD ((6, ((min i 9 : Nat) : Int), (⟨#[]⟩ : ByteArray), consD d .nil) : D) .nil).size = 1 + 0 + (consD d .nil).size + 0 := rfl
      omega
    · omega
theorem nl_size (i : Nat) : (consD (nlD i) .nil).size ≤ 1 + i := by
  have h := nests_size i i (5, 0, ⟨#[]⟩, .nil) (Nat.le_refl _)
  exact h
theorem consD_size (d : D) (r : F) : (consD d r).size = (consD d .nil).size + r.size := by
  show 1 + d.2.2.1.size + d.2.2.2.size + r.size = 1 + d.2.2.1.size + d.2.2.2.size + 0 + r.size
  omega
theorem ldT_size : ∀ l : List (Int × ByteArray), (∀ r ∈ l, rv r = true) → (ldT l).size ≤ 5000 * l.length := by
  intro l
  induction l with
  | nil => intro _; exact Nat.zero_le _
  | cons r l ih =>
    intro h
    have h1 := ih (fun q hq => h q (by simp [hq]))
    obtain ⟨g1, g2, g3⟩ := rv_iff.1 (h r (by simp))
    have g4 := lt_len g3
    have e : r.2.data.toList.length = r.2.size := Array.length_toList
    have g5 := (pcs_size _ r.2 (Nat.le_refl _)).1
    have g6 := nl_size r.1.toNat
    show (consD (nlD r.1.toNat) ((pcs r.2).app (ldT l))).size ≤ _
    rw [consD_size, size_app]
    simp only [List.length_cons]
    omega
theorem ldF_size {l : List (Int × ByteArray)} (h : lv l = true) : (ldF l).size ≤ 1000000 := by
  have hl := lv_len h
  have hr : ∀ r ∈ l, rv r = true := fun r hr => by obtain ⟨k, hk, rfl⟩ := List.getElem_of_mem hr; exact lv_get h hk
  cases l with
  | nil => exact Nat.zero_le _
  | cons r l =>
    have h1 := ldT_size l (fun q hq => hr q (by simp [hq]))
    obtain ⟨g1, g2, g3⟩ := rv_iff.1 (hr r (by simp))
    have g4 := lt_len g3
    have e : r.2.data.toList.length = r.2.size := Array.length_toList
    have g5 := (pcs_size _ r.2 (Nat.le_refl _)).1
    show ((pcs r.2).app (ldT l)).size ≤ _
    rw [size_app]
    simp only [List.length_cons] at hl
    omega
theorem catAll_size : ∀ f : F, (consD (catAll f) .nil).size ≤ f.size + f.len + 1 := by
  intro f
  induction f with
  | nil => decide
  | cons o n t k r _ ih =>
    have e0 : (F.cons o n t k r).size = 1 + t.size + k.size + r.size := rfl
    have e1 : (F.cons o n t k r).len = r.len + 1 := by simp [F.len, Nat.add_comm]
    show (consD (if r.len = 0 then (o, n, t, k) else (7, 0, ⟨#[]⟩, .cons o n t k (consD (catAll r) .nil))) .nil).size ≤ _
    split
    · have e2 : (consD ((o, n, t, k) : D) .nil).size = 1 + t.size + k.size + 0 := rfl
      omega
    · have e2 : (consD ((7, 0, (⟨#[]⟩ : ByteArray), F.cons o n t k (consD (catAll r) .nil)) : D) .nil).size = 1 + 0 + (1 + t.size + k.size + (consD (catAll r) .nil).size) + 0 := rfl
      omega
theorem ld_fit {l : List (Int × ByteArray)} (h : lv l = true) : (catAll (ldF l)).2.2.1.size + (catAll (ldF l)).2.2.2.size ≤ 2000002 := by
  have h1 := catAll_size (ldF l)
  have h2 := ldF_size h
  have h3 := F.len_le_size (ldF l)
  have e : (consD (catAll (ldF l)) .nil).size = 1 + (catAll (ldF l)).2.2.1.size + (catAll (ldF l)).2.2.2.size + 0 := rfl
  omega
theorem ld_yes {l : List (Int × ByteArray)} (h : lv l = true) (h1 : (ldF l).len ≤ 100) (h2 : validD (catAll (ldF l)).1 (catAll (ldF l)).2.1 (catAll (ldF l)).2.2.1 (catAll (ldF l)).2.2.2 = true) : ldR l = (true, catAll (ldF l)) := if_pos ⟨h, h1, h2⟩
theorem ld_no {l : List (Int × ByteArray)} (h : ¬ (lv l = true ∧ (ldF l).len ≤ 100 ∧ validD (catAll (ldF l)).1 (catAll (ldF l)).2.1 (catAll (ldF l)).2.2.1 (catAll (ldF l)).2.2.2 = true)) : ldR l = (false, zeroD) := if_neg h
theorem ld_size (l : List (Int × ByteArray)) : (ldR l).2.2.2.2.size ≤ 2097152 := by
  by_cases h : lv l = true ∧ (ldF l).len ≤ 100 ∧ validD (catAll (ldF l)).1 (catAll (ldF l)).2.1 (catAll (ldF l)).2.2.1 (catAll (ldF l)).2.2.2 = true
  · rw [ld_yes h.1 h.2.1 h.2.2]
    have := ld_fit h.1
    show (catAll (ldF l)).2.2.2.size ≤ _
    omega
  · rw [ld_no h]; decide

theorem cat_nice : ∀ P : F, P ≠ .nil → niceD (catAll P) = true → nice P = true := by
  intro P
  induction P with
  | nil => intro h; exact absurd rfl h
  | cons o n t k r _ ih =>
    intro _ h
    have e : catAll (.cons o n t k r) = if r.len = 0 then (o, n, t, k) else (7, 0, ⟨#[]⟩, .cons o n t k (consD (catAll r) .nil)) := rfl
    rw [e] at h
    by_cases hr : r.len = 0
    · rw [if_pos hr] at h
      have hrn := F.len_eq_zero hr
      subst hrn
      rw [show nice (.cons o n t k .nil) = (niceD (o, n, t, k) && nice .nil) from rfl, h]; rfl
    · rw [if_neg hr] at h
      have h2 := (nice_kids h).2
      rw [show nice (.cons o n t k (consD (catAll r) .nil)) = (niceD (o, n, t, k) && nice (consD (catAll r) .nil)) from rfl, Bool.and_eq_true, nice_consD, Bool.and_eq_true] at h2
      have h3 := ih (fun e => hr (by rw [e]; rfl)) h2.2.1
      rw [show nice (.cons o n t k r) = (niceD (o, n, t, k) && nice r) from rfl, h2.1, h3]; rfl
theorem text_bad {s : ByteArray} (h : tv s.data.toList = false) (P Q : F) : nice (P.app (.cons 2 0 s .nil Q)) = false := by
  rw [nice_app, show nice (.cons 2 0 s .nil Q) = (nodeB 2 0 s 0 && nice .nil && nice Q) from rfl]
  have : nodeB 2 0 s 0 = false := by unfold nodeB textB; rw [if_pos rfl, h]; simp
  rw [this]; simp
theorem ld_bad {l : List (Int × ByteArray)} {s : ByteArray} {P Q : F} (e : ldF l = P.app (.cons 2 0 s .nil Q)) (h : tv s.data.toList = false) : ldR l = (false, zeroD) := by
  refine ld_no fun hh => ?_
  have h1 := (valid_nice hh.2.2).1
  have hne : ldF l ≠ .nil := by
    intro h0
    rw [h0] at e
    have := congrArg F.len e
    rw [F.len_app] at this
    simp [F.len] at this
  have h2 := cat_nice _ hne h1
  rw [e, text_bad h] at h2
  cases h2
theorem ld_long {l : List (Int × ByteArray)} {P Q : F} (e : ldF l = P.app Q) (h : 100 < P.len) : ldR l = (false, zeroD) := by
  refine ld_no fun hh => ?_
  have := hh.2.1
  rw [e, F.len_app] at this
  omega

end Go.Proofs.Ytmkibpimjaofgaa.Nf

