import Derived.Test.YtafhefmjnjibdaaNfP
/-
  PushNest as a plain function: what it makes is well-formed, and not too large; nothing here speaks of the program.
-/
set_option linter.unusedVariables false
set_option linter.unusedSimpArgs false
namespace Go.Proofs.Ytafhefmjnjibdaa.Nf
open P1

theorem hd_consD (d : D) (r : F) : hd (consD d r) = d := rfl
theorem nice_hd {f : F} (h : nice f = true) (hf : f.len ≠ 0) : niceD (hd f) = true ∧ 1 + (hd f).2.2.2.cnt ≤ f.cnt := by
  cases f with
  | nil => exact absurd rfl hf
  | cons o n t k r =>
    simp only [nice, Bool.and_eq_true] at h
    exact ⟨Bool.and_eq_true_iff.2 h.1, by show 1 + k.cnt ≤ 1 + k.cnt + r.cnt; omega⟩

theorem nests_nice : ∀ (m i : Nat) (d : D), i ≤ m → niceD d = true → niceD (nests i d) = true := by
  intro m
  induction m with
  | zero =>
    intro i d hi h
    rw [nests, dif_neg (by omega)]
    exact h
  | succ m ih =>
    intro i d hi h
    rw [nests]
    split
    · rename_i h0
      refine ih _ _ (by omega) ?_
      obtain ⟨q, hq⟩ : ∃ q, min i 9 = q := ⟨_, rfl⟩
      have hq9 : q ≤ 9 := by omega
      rw [hq]
      have h1 : nodeB 6 (q : Int) ⟨#[]⟩ 1 = true := by
        have : (q : Int) ≤ 9 := by omega
        simp [nodeB, textB, numB, kidsOf, this]
      exact Bool.and_eq_true_iff.2 ⟨h1, by rw [show nice (consD d .nil) = (niceD d && nice .nil) from rfl, h]; rfl⟩
    · exact h

theorem nests_cnt : ∀ (m i e : Nat) (d : D), i ≤ m → i ≤ 9 * e → (nests i d).2.2.2.cnt ≤ d.2.2.2.cnt + e := by
  intro m
  induction m with
  | zero =>
    intro i e d hi h
    rw [nests, dif_neg (by omega)]
    omega
  | succ m ih =>
    intro i e d hi h
    rw [nests]
    split
    · rename_i h0
      obtain ⟨q, hq⟩ : ∃ q, min i 9 = q := ⟨_, rfl⟩
      rw [hq]
      have h1 := ih (i - q) (e - 1) (6, (q : Int), ⟨#[]⟩, consD d .nil) (by omega) (by omega)
      have h2 : (consD d .nil).cnt = 1 + d.2.2.2.cnt := by show 1 + d.2.2.2.cnt + 0 = _; omega
      have h3 : ((6, (q : Int), (⟨#[]⟩ : ByteArray), consD d .nil) : D).2.2.2.cnt = 1 + d.2.2.2.cnt := h2
      omega
    · omega

theorem len_pushL (f : F) (i : Nat) : (pushL f i).len = f.len := by rw [pushL_map, len_mapL]

theorem push_nice : ∀ (f : F) (i : Nat), nice f = true → nice (pushL f i) = true := by
  intro f
  induction f with
  | nil => intro i _; rfl
  | cons o n t k r ihk ihr =>
    intro i h
    have hD : niceD (o, n, t, k) = true := by simp only [nice, Bool.and_eq_true] at h; exact Bool.and_eq_true_iff.2 h.1
    have hr : nice r = true := by simp only [nice, Bool.and_eq_true] at h; exact h.2
    have hk : nice k = true := (nice_kids hD).2
    rw [pushL, nice_consD, ihr i hr, Bool.and_true]
    split
    · rename_i h6
      obtain ⟨a, ha⟩ := kids_one hD (Or.inl h6)
      exact (nice_hd (ihk _ hk) (by rw [len_pushL, ha]; simp [consD, F.len])).1
    · split
      · exact nests_nice i i _ (Nat.le_refl _) hD
      · unfold niceD at hD ⊢
        rw [Bool.and_eq_true] at hD ⊢
        exact ⟨by rw [len_pushL]; exact hD.1, ihk i hk⟩

theorem push_cnt : ∀ (f : F) (i e : Nat), nice f = true → i ≤ 9 * e → (pushL f i).cnt ≤ f.cnt * (1 + e + f.deep) := by
  intro f
  induction f with
  | nil => intro i e _ _; simp [pushL, F.cnt]
  | cons o n t k r ihk ihr =>
    intro i e h he
    have hD : niceD (o, n, t, k) = true := by simp only [nice, Bool.and_eq_true] at h; exact Bool.and_eq_true_iff.2 h.1
    have hr : nice r = true := by simp only [nice, Bool.and_eq_true] at h; exact h.2
    have hk : nice k = true := (nice_kids hD).2
    have h1 := ihr i e hr he
    have hm : r.cnt * (1 + e + r.deep) ≤ r.cnt * (1 + e + (F.cons o n t k r).deep) := Nat.mul_le_mul_left _ (by show _ ≤ 1 + e + max (k.deep + 1) r.deep; omega)
    obtain ⟨B, hB⟩ : ∃ B, 1 + e + (F.cons o n t k r).deep = B := ⟨_, rfl⟩
    have hB1 : 1 + e + (k.deep + 1) ≤ B := by rw [← hB]; show _ ≤ 1 + e + max (k.deep + 1) r.deep; omega
    rw [hB] at hm ⊢
    have hc : (F.cons o n t k r).cnt * B = B + k.cnt * B + r.cnt * B := by show (1 + k.cnt + r.cnt) * B = _; rw [Nat.add_mul, Nat.add_mul, Nat.one_mul]
    rw [hc, pushL]
    show 1 + _ + (pushL r i).cnt ≤ _
    have h2 : k.cnt * (1 + e + (k.deep + 1)) ≤ k.cnt * B := Nat.mul_le_mul_left _ hB1
    split
    · rename_i h6
      obtain ⟨a, ha⟩ := kids_one hD (Or.inl h6)
      have hn9 : n.toNat ≤ 9 := by
        have := nice_kids hD
        unfold niceD nodeB numB at hD
        rw [if_pos h6] at hD
        simp only [Bool.and_eq_true, decide_eq_true_eq] at hD
        omega
      have h3 := ihk (i + n.toNat) (e + 1) hk (by omega)
      have h4 := (nice_hd (push_nice k (i + n.toNat) hk) (by rw [len_pushL, ha]; simp [consD, F.len])).2
      rw [show 1 + (e + 1) + k.deep = 1 + e + (k.deep + 1) by omega] at h3
      omega
    · split
      · rename_i h6 h3
        have hkn : k = .nil := kids_none hD h6 (by omega) (by omega)
        have h5 := nests_cnt i i e (o, n, t, k) (Nat.le_refl _) he
        subst hkn
        have h6 : ((o, n, t, F.nil) : D).2.2.2.cnt = 0 := rfl
        rw [h6] at h5
        omega
      · have h3 := ihk i e hk he
        have h4 : k.cnt * (1 + e + k.deep) ≤ k.cnt * (1 + e + (k.deep + 1)) := Nat.mul_le_mul_left _ (by omega)
        show 1 + (pushL k i).cnt + _ ≤ _
        omega

theorem pushD_nice {o n : Int} {t : ByteArray} {k : F} (h : niceD (o, n, t, k) = true) (i : Nat) : niceD (pushD i o n t k) = true := by
  have h1 := push_nice (.cons o n t k .nil) i (by rw [show nice (.cons o n t k .nil) = (niceD (o, n, t, k) && nice .nil) from rfl, h]; rfl)
  rw [pushL_map] at h1
  exact (Bool.and_eq_true_iff.1 h1).1
theorem pushD_cnt {o n : Int} {t : ByteArray} {k : F} (h : niceD (o, n, t, k) = true) : 1 + (pushD 0 o n t k).2.2.2.cnt ≤ (1 + k.cnt) * (2 + k.deep) := by
  have h1 := push_cnt (.cons o n t k .nil) 0 0 (by rw [show nice (.cons o n t k .nil) = (niceD (o, n, t, k) && nice .nil) from rfl, h]; rfl) (by omega)
  rw [pushL_map] at h1
  have e1 : (mapL (pushD 0) (.cons o n t k .nil)).cnt = 1 + (pushD 0 o n t k).2.2.2.cnt := by show 1 + (pushD 0 o n t k).2.2.2.cnt + 0 = _; omega
  have e2 : (F.cons o n t k .nil).cnt = 1 + k.cnt := by show 1 + k.cnt + 0 = _; omega
  have e3 : (F.cons o n t k .nil).deep = k.deep + 1 := by show max (k.deep + 1) 0 = _; omega
  rw [e1, e2, e3, show 1 + 0 + (k.deep + 1) = 2 + k.deep by omega] at h1
  exact h1
theorem push_fit {o n : Int} {t : ByteArray} {k : F} (h : niceD (o, n, t, k) = true) (hd : k.deep ≤ 39) (hc : 1 + k.cnt ≤ 80) : niceD (pushD 0 o n t k) = true ∧ (pushD 0 o n t k).2.2.2.cnt ≤ 10000 := by
  refine ⟨pushD_nice h 0, ?_⟩
  have h1 := pushD_cnt h
  have h2 : (1 + k.cnt) * (2 + k.deep) ≤ 80 * 41 := Nat.mul_le_mul hc (by omega)
  omega

theorem nest_num {n : Int} {t : ByteArray} {k : F} (h : niceD (6, n, t, k) = true) : 0 ≤ n ∧ n ≤ 9 := by
  unfold niceD nodeB numB at h
  simp at h
  exact h.1.2

end Go.Proofs.Ytafhefmjnjibdaa.Nf

