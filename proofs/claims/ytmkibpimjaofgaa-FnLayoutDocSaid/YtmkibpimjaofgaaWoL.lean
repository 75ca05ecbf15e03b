import Derived.Test.YtmkibpimjaofgaaLd0
import Derived.Test.YtmkibpimjaofgaaNfV
/-
  A document without its groups, as a plain function: it is valid when the document is, and has no group; nothing here speaks of the program.
-/
set_option linter.unusedVariables false
set_option linter.unusedSimpArgs false
namespace Go.Proofs.Ytmkibpimjaofgaa.Nf
open P1
end Go.Proofs.Ytmkibpimjaofgaa.Nf

namespace Go.Proofs.Ytmkibpimjaofgaa.Nf
open P1 ChP

theorem g8_cons (o n : Int) (t : ByteArray) (k r : F) : cntF (fun x => x == 8) (.cons o n t k r) = (if (o == 8) = true then 1 else 0) + cntF (fun x => x == 8) k + cntF (fun x => x == 8) r := rfl
theorem ct_none : ∀ f : F, cntF (fun x => x == 8) f = 0 → ctF f = 1 := by
  intro f
  induction f with
  | nil => intro _; rfl
  | cons o n t k r ihk ihr =>
    intro h
    rw [g8_cons] at h
    have h8 : o ≠ 8 := by intro h8; subst h8; simp at h
    rw [ctF_cons, ctD_other h8, ihk (by omega), ihr (by omega)]
end Go.Proofs.Ytmkibpimjaofgaa.Nf

namespace Go.Proofs.Ytmkibpimjaofgaa.Nf
open P1 ChP CatD

def opA (P : F) : List (Int × ByteArray) := openD (catAll P).1 (catAll P).2.1 (catAll P).2.2.1 (catAll P).2.2.2
theorem opA_nil : opA .nil = [(0, ⟨#[]⟩)] := rfl
theorem opA_cons (o n : Int) (t : ByteArray) (k r : F) (h : 0 < (openD o n t k).length) : opA (.cons o n t k r) = catL (openD o n t k) (opA r) := by
  have e : catAll (.cons o n t k r) = if r.len = 0 then (o, n, t, k) else (7, 0, ⟨#[]⟩, .cons o n t k (consD (catAll r) .nil)) := rfl
  by_cases hr : r.len = 0
  · have hrn := F.len_eq_zero hr
    subst hrn
    rw [opA_nil, catL_right h]
    rfl
  · unfold opA
    rw [e, if_neg hr]
    rfl
theorem catL_one (i : Int) (s : ByteArray) (r : Int × ByteArray) (k : List (Int × ByteArray)) : catL [(i, s)] (r :: k) = (i, s ++ r.2) :: k := by simp [catL]
theorem catL_two (a b r : Int × ByteArray) (k : List (Int × ByteArray)) : catL [a, b] (r :: k) = a :: (b.1, b.2 ++ r.2) :: k := by simp [catL]
theorem bytes_split (s : ByteArray) (m : Nat) (h : m ≤ s.size) : s.extract 0 m ++ s.extract m s.size = s := by
  rw [ByteArray.extract_append_extract]
  simp
theorem pcs_open : ∀ (q : Nat) (s : ByteArray) (R : F) (t0 : ByteArray) (k : List (Int × ByteArray)), s.size ≤ q → opA R = (0, t0) :: k → opA ((pcs s).app R) = (0, s ++ t0) :: k := by
  intro q
  induction q with
  | zero =>
    intro s R t0 k hs h
    have hz : s = ⟨#[]⟩ := by
      have e : s.size = 0 := by omega
      obtain ⟨d⟩ := s
      have : d.size = 0 := e
      rw [Array.eq_empty_of_size_eq_zero this]
    subst hz
    rw [show pcs (⟨#[]⟩ : ByteArray) = .nil from pcs_none rfl]
    show opA R = _
    rw [h]
    have : (⟨#[]⟩ : ByteArray) ++ t0 = t0 := by apply ByteArray.ext; simp
    rw [this]
  | succ q ih =>
    intro s R t0 k hs h
    by_cases h0 : 0 < s.size
    · obtain ⟨m, hm⟩ : ∃ m, min s.size 12 = m := ⟨_, rfl⟩
      rw [pcs_some h0 hm]
      show opA (.cons 2 0 (s.extract 0 m) .nil ((pcs (s.extract m s.size)).app R)) = _
      rw [opA_cons _ _ _ _ _ (by rw [openD_text]; simp), openD_text, ih (s.extract m s.size) R t0 k (by rw [ByteArray.size_extract]; omega) h, catL_one]
      show (0, s.extract 0 m ++ (s.extract m s.size ++ t0)) :: k = _
      rw [← ByteArray.append_assoc, bytes_split s m (by omega)]
    · have hz : s.size = 0 := by omega
      exact ih s R t0 k (by omega) h
theorem nests_open : ∀ (q i : Nat) (d : D) (x : Int), i ≤ q → openD d.1 d.2.1 d.2.2.1 d.2.2.2 = [(0, ⟨#[]⟩), (x, ⟨#[]⟩)] → openD (nests i d).1 (nests i d).2.1 (nests i d).2.2.1 (nests i d).2.2.2 = [(0, ⟨#[]⟩), (x + i, ⟨#[]⟩)] := by
  intro q
  induction q with
  | zero =>
    intro i d x hi h
    obtain rfl : i = 0 := by omega
    rw [nests, dif_neg (by omega), h]
    simp
  | succ q ih =>
    intro i d x hi h
    rw [nests]
    split
    · rename_i h0
      obtain ⟨m, hm⟩ : ∃ m, min i 9 = m := ⟨_, rfl⟩
      rw [hm]
      have h1 := ih (i - m) (6, (m : Int), ⟨#[]⟩, consD d .nil) (x + m) (by omega) (by
        show nestL (m : Int) (openD d.1 d.2.1 d.2.2.1 d.2.2.2) = _
        rw [h]; rfl)
      rw [h1]
      have : x + (m : Int) + ((i - m : Nat) : Int) = x + (i : Int) := by omega
      rw [this]
    · obtain rfl : i = 0 := by omega
      rw [h]; simp
theorem nl_open (i : Nat) : openD (nlD i).1 (nlD i).2.1 (nlD i).2.2.1 (nlD i).2.2.2 = [(0, ⟨#[]⟩), ((i : Int), ⟨#[]⟩)] := by
  have h := nests_open i i (5, 0, ⟨#[]⟩, .nil) 0 (Nat.le_refl _) rfl
  rw [Int.zero_add] at h
  exact h
theorem empty_app (s : ByteArray) : (⟨#[]⟩ : ByteArray) ++ s = s := by apply ByteArray.ext; simp
theorem app_empty (s : ByteArray) : s ++ (⟨#[]⟩ : ByteArray) = s := by apply ByteArray.ext; simp
theorem ldT_open : ∀ l : List (Int × ByteArray), (∀ r ∈ l, 0 ≤ r.1) → opA (ldT l) = (0, ⟨#[]⟩) :: l := by
  intro l
  induction l with
  | nil => intro _; exact opA_nil
  | cons r l ih =>
    intro h
    have h1 := ih (fun q hq => h q (by simp [hq]))
    have h2 := pcs_open _ r.2 (ldT l) ⟨#[]⟩ l (Nat.le_refl _) h1
    show opA (consD (nlD r.1.toNat) ((pcs r.2).app (ldT l))) = _
    have h3 := nl_open r.1.toNat
    have h4 := opA_cons (nlD r.1.toNat).1 (nlD r.1.toNat).2.1 (nlD r.1.toNat).2.2.1 (nlD r.1.toNat).2.2.2 ((pcs r.2).app (ldT l)) (by rw [h3]; simp)
    show opA (.cons (nlD r.1.toNat).1 (nlD r.1.toNat).2.1 (nlD r.1.toNat).2.2.1 (nlD r.1.toNat).2.2.2 ((pcs r.2).app (ldT l))) = _
    rw [h4, h3, h2, catL_two, app_empty]
    have h5 : ((r.1.toNat : Nat) : Int) = r.1 := Int.toNat_of_nonneg (h r (by simp))
    rw [h5, empty_app]
theorem ldF_open {l : List (Int × ByteArray)} (h : lv l = true) : opA (ldF l) = l := by
  have hl := lv_len h
  have hr : ∀ r ∈ l, 0 ≤ r.1 := fun r hr => by obtain ⟨k, hk, rfl⟩ := List.getElem_of_mem hr; exact (rv_iff.1 (lv_get h hk)).1
  cases l with
  | nil => simp at hl
  | cons r l =>
    have h1 := ldT_open l (fun q hq => hr q (by simp [hq]))
    have h2 := pcs_open _ r.2 (ldT l) ⟨#[]⟩ l (Nat.le_refl _) h1
    have h3 : r.1 = 0 := by
      simp only [lv, Bool.and_eq_true] at h
      have := h.1.2
      simpa [head0] using this
    show opA ((pcs r.2).app (ldT l)) = _
    rw [h2, app_empty, ← h3]

theorem g8_app (f g : F) : cntF (fun x => x == 8) (f.app g) = cntF (fun x => x == 8) f + cntF (fun x => x == 8) g := by
  induction f with
  | nil => show _ = 0 + _; rw [Nat.zero_add]; rfl
  | cons o n t k r _ ih => show cntF (fun x => x == 8) (.cons o n t k (r.app g)) = _; rw [g8_cons, g8_cons, ih]; omega
theorem g8_consD (d : D) (r : F) : cntF (fun x => x == 8) (consD d r) = cntF (fun x => x == 8) (consD d .nil) + cntF (fun x => x == 8) r := by
  show (if (d.1 == 8) = true then 1 else 0) + cntF (fun x => x == 8) d.2.2.2 + _ = (if (d.1 == 8) = true then 1 else 0) + cntF (fun x => x == 8) d.2.2.2 + 0 + _
  omega
theorem g8_pcs : ∀ (q : Nat) (s : ByteArray), s.size ≤ q → cntF (fun x => x == 8) (pcs s) = 0 := by
  intro q
  induction q with
  | zero => intro s hs; rw [pcs_none (by omega)]; rfl
  | succ q ih =>
    intro s hs
    by_cases h0 : 0 < s.size
    · obtain ⟨m, hm⟩ : ∃ m, min s.size 12 = m := ⟨_, rfl⟩
      rw [pcs_some h0 hm, g8_cons, ih _ (by rw [ByteArray.size_extract]; omega)]; rfl
    · rw [pcs_none (by omega)]; rfl
theorem g8_ldT : ∀ l : List (Int × ByteArray), cntF (fun x => x == 8) (ldT l) = 0 := by
  intro l
  induction l with
  | nil => rfl
  | cons r l ih =>
    show cntF (fun x => x == 8) (consD (nlD r.1.toNat) ((pcs r.2).app (ldT l))) = 0
    rw [g8_consD, g8_app, ih, g8_pcs _ _ (Nat.le_refl _)]
    have := nests_ops (fun x => x == 8) rfl r.1.toNat r.1.toNat (5, 0, ⟨#[]⟩, .nil) (Nat.le_refl _)
    show cntF (fun x => x == 8) (consD (nests r.1.toNat (5, 0, ⟨#[]⟩, .nil)) .nil) + _ = 0
    rw [this]; rfl
theorem g8_ldF (l : List (Int × ByteArray)) : cntF (fun x => x == 8) (ldF l) = 0 := by
  cases l with
  | nil => rfl
  | cons r l =>
    show cntF (fun x => x == 8) ((pcs r.2).app (ldT l)) = 0
    rw [g8_app, g8_ldT, g8_pcs _ _ (Nat.le_refl _)]
theorem g8_cat : ∀ P : F, cntF (fun x => x == 8) P = 0 → cntF (fun x => x == 8) (consD (catAll P) .nil) = 0 := by
  intro P
  induction P with
  | nil => intro _; rfl
  | cons o n t k r _ ih =>
    intro h
    rw [g8_cons] at h
    have e : catAll (.cons o n t k r) = if r.len = 0 then (o, n, t, k) else (7, 0, ⟨#[]⟩, .cons o n t k (consD (catAll r) .nil)) := rfl
    rw [e]
    by_cases hr : r.len = 0
    · rw [if_pos hr]
      show cntF (fun x => x == 8) (.cons o n t k .nil) = 0
      rw [g8_cons]
      show _ + _ + 0 = 0
      omega
    · rw [if_neg hr]
      show cntF (fun x => x == 8) (.cons 7 0 ⟨#[]⟩ (.cons o n t k (consD (catAll r) .nil)) .nil) = 0
      rw [g8_cons, g8_cons, ih (by omega)]
      show 0 + (_ + _ + 0) + 0 = 0
      omega

theorem ld_all {l : List (Int × ByteArray)} (h : (ldR l).1 = true) :
    lv l = true ∧ validD (ldR l).2.1 (ldR l).2.2.1 (ldR l).2.2.2.1 (ldR l).2.2.2.2 = true ∧ ctD (ldR l).2.1 (ldR l).2.2.2.2 = 1 ∧ openD (ldR l).2.1 (ldR l).2.2.1 (ldR l).2.2.2.1 (ldR l).2.2.2.2 = l ∧ cntF (fun x => x == 8) (consD (ldR l).2 .nil) = 0 := by
  by_cases hh : lv l = true ∧ (ldF l).len ≤ 100 ∧ validD (catAll (ldF l)).1 (catAll (ldF l)).2.1 (catAll (ldF l)).2.2.1 (catAll (ldF l)).2.2.2 = true
  · have h8 := g8_cat _ (g8_ldF l)
    have e : ctF (consD (catAll (ldF l)) .nil) = ctD (catAll (ldF l)).1 (catAll (ldF l)).2.2.2 := ctF_one _ _ _ _
    rw [ld_yes hh.1 hh.2.1 hh.2.2]
    exact ⟨hh.1, hh.2.2, by rw [← ct_none _ h8]; exact e.symm, ldF_open hh.1, h8⟩
  · rw [ld_no hh] at h; cases h

end Go.Proofs.Ytmkibpimjaofgaa.Nf

