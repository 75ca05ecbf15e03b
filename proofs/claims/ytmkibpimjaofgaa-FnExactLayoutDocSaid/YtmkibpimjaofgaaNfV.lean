import Derived.Test.YtmkibpimjaofgaaPl
import Derived.Test.YtmkibpimjaofgaaChP
import Derived.Test.YtmkibpimjaofgaaNfA
/-
  What holds of nested and joined layouts, as plain data; nothing here speaks of the program.
-/
set_option linter.unusedVariables false
set_option linter.unusedSimpArgs false
namespace Go.Proofs.Ytmkibpimjaofgaa.P1
open Go.RowKit

theorem nestR_true {n : Int} {l X : List (Int × ByteArray)} (h : nestR n l = (X, true)) : lv l = true ∧ 0 ≤ n ∧ n ≤ 200 ∧ X = nestL n l ∧ lv X = true := by
  unfold nestR at h
  split at h
  · rename_i hc
    simp only [Prod.mk.injEq, and_true] at h
    exact ⟨hc.1, hc.2.1, hc.2.2.1, h.symm, by rw [← h]; exact hc.2.2.2⟩
  · simp at h
theorem nestR_false {n : Int} {l X : List (Int × ByteArray)} (h : nestR n l = (X, false)) : X = [] := by
  unfold nestR at h
  split at h
  · simp at h
  · simp only [Prod.mk.injEq, and_true] at h; exact h.symm
theorem catLR_true {a b X : List (Int × ByteArray)} (h : catLR a b = (X, true)) : lv a = true ∧ lv b = true ∧ X = catL a b ∧ lv X = true := by
  unfold catLR at h
  split at h
  · rename_i hc
    simp only [Prod.mk.injEq, and_true] at h
    exact ⟨hc.1, hc.2.1, h.symm, by rw [← h]; exact hc.2.2⟩
  · simp at h
theorem catLR_false {a b X : List (Int × ByteArray)} (h : catLR a b = (X, false)) : X = [] := by
  unfold catLR at h
  split at h
  · simp at h
  · simp only [Prod.mk.injEq, and_true] at h; exact h.symm

theorem nestL_nought (l : List (Int × ByteArray)) : nestL 0 l = l := by
  cases l with
  | nil => rfl
  | cons r l => simp [nestL]
theorem nestL_one {n : Int} {l : List (Int × ByteArray)} (h : l.length ≤ 1) : nestL n l = l := by
  cases l with
  | nil => rfl
  | cons r l =>
    cases l with
    | nil => rfl
    | cons => simp at h
theorem nestL_add (m n : Int) (l : List (Int × ByteArray)) : nestL m (nestL n l) = nestL (n + m) l := by
  cases l with
  | nil => rfl
  | cons r l => simp [nestL, Function.comp_def, Int.add_assoc]
theorem nestR_nought {l : List (Int × ByteArray)} (h : lv l = true) : nestR 0 l = (l, true) := by
  rw [nestR_yes h (by omega) (by omega) (by rw [nestL_nought]; exact h), nestL_nought]
theorem snoc_of {a : List (Int × ByteArray)} (h : 0 < a.length) : ∃ p q, a = p ++ [q] :=
  ⟨a.dropLast, a.getLast (List.length_pos_iff.1 h), (List.dropLast_concat_getLast _).symm⟩
theorem catL_snoc (p : List (Int × ByteArray)) (q r : Int × ByteArray) (k : List (Int × ByteArray)) : catL (p ++ [q]) (r :: k) = p ++ (q.1, q.2 ++ r.2) :: k := by simp [catL]
theorem catL_nest (n : Int) {a b : List (Int × ByteArray)} (ha : 0 < a.length) (hb : 0 < b.length) : catL (nestL n a) (nestL n b) = nestL n (catL a b) := by
  obtain ⟨p, q, rfl⟩ := snoc_of ha
  cases b with
  | nil => simp at hb
  | cons r k =>
    rw [catL_snoc]
    cases p with
    | nil =>
      have := catL_snoc [] q r (k.map fun r => (r.1 + n, r.2))
      simpa [nestL] using this
    | cons x p =>
      have := catL_snoc (x :: p.map fun r => (r.1 + n, r.2)) (q.1 + n, q.2) r (k.map fun r => (r.1 + n, r.2))
      simpa [nestL] using this
theorem catL_assoc {a b : List (Int × ByteArray)} (c : List (Int × ByteArray)) (ha : 0 < a.length) (hb : 0 < b.length) : catL (catL a b) c = catL a (catL b c) := by
  obtain ⟨p, q, rfl⟩ := snoc_of ha
  cases c with
  | nil => simp [catL]
  | cons s m =>
    obtain ⟨u, v, rfl⟩ := snoc_of hb
    cases u with
    | nil =>
      have h1 := catL_snoc p q v []
      have h2 := catL_snoc [] v s m
      have h3 := catL_snoc p (q.1, q.2 ++ v.2) s m
      have h4 := catL_snoc p q (v.1, v.2 ++ s.2) m
      simp only [List.nil_append] at h2 ⊢
      rw [h1, h2, h3, h4, ByteArray.append_assoc]
    | cons x u =>
      have h1 := catL_snoc p q x (u ++ [v])
      have h2 := catL_snoc (x :: u) v s m
      have h3 := catL_snoc (p ++ (q.1, q.2 ++ x.2) :: u) v s m
      have h4 := catL_snoc p q x (u ++ (v.1, v.2 ++ s.2) :: m)
      simp only [List.cons_append, List.append_assoc] at h1 h2 h3 h4 ⊢
      rw [h1, h2, h3, h4]
theorem catL_left {a : List (Int × ByteArray)} (h : lv a = true) : catL [(0, ⟨#[]⟩)] a = a := by
  have hl := lv_len h
  cases a with
  | nil => simp at hl
  | cons r k =>
    have h0 : r.1 = 0 := by
      simp only [lv, head0, Bool.and_eq_true, decide_eq_true_eq] at h; exact h.1.2
    have := catL_snoc [] (0, ⟨#[]⟩) r k
    simp only [List.nil_append] at this
    rw [this]
    obtain ⟨n, t⟩ := r
    simp only at h0
    subst h0
    have e : (⟨#[]⟩ : ByteArray) ++ t = t := by apply ByteArray.ext; simp
    rw [e]
theorem catL_right {a : List (Int × ByteArray)} (h : 0 < a.length) : catL a [(0, ⟨#[]⟩)] = a := by
  obtain ⟨p, q, rfl⟩ := snoc_of h
  rw [catL_snoc]
  have e : q.2 ++ (⟨#[]⟩ : ByteArray) = q.2 := by apply ByteArray.ext; simp
  rw [e]
theorem lv_empty : lv [(0, ⟨#[]⟩)] = true := by decide
theorem catLR_left {a : List (Int × ByteArray)} (h : lv a = true) : catLR [(0, ⟨#[]⟩)] a = (a, true) := by rw [catLR_yes lv_empty h (by rw [catL_left h]; exact h), catL_left h]
theorem catLR_right {a : List (Int × ByteArray)} (h : lv a = true) : catLR a [(0, ⟨#[]⟩)] = (a, true) := by
  have := lv_len h
  rw [catLR_yes h lv_empty (by rw [catL_right (by omega)]; exact h), catL_right (by omega)]

end Go.Proofs.Ytmkibpimjaofgaa.P1

/-
  PushNest keeps the layout of each choice; nothing here speaks of the program's own pushing.
-/
set_option linter.unusedVariables false
set_option linter.unusedSimpArgs false
namespace Go.Proofs.Ytmkibpimjaofgaa.Nf
open P1 Flat Wid ChP

def ctO (d : D) : Nat := ctD d.1 d.2.2.2
def noO (d : D) : Bool := noD d.1 d.2.2.2
def flO (d : D) : ByteArray := flD d.1 d.2.2.1 d.2.2.2
def pkO (d : D) (c : Nat) : Lay := pkD d.1 d.2.1 d.2.2.1 d.2.2.2 c

/-- d' is d with i more spaces behind each newline -/
structure Eqv (i : Nat) (d d' : D) : Prop where
  ct : ctO d' = ctO d
  no : noO d' = noO d
  fd : flO d' = flO d
  pk : ∀ c, pkO d' c = nestL (i : Int) (pkO d c)

theorem ct_one (d : D) : ctF (consD d .nil) = ctO d := ctF_one _ _ _ _
theorem no_one (d : D) : noF (consD d .nil) = noO d := by show ((d.1 != 5) && noF d.2.2.2 && noF .nil) = _; simp [noF, noO, noD]
theorem fl_oneD (d : D) : fl (consD d .nil) = flO d := fl_one _ _ _ _

theorem pk_pos {d : D} (h : niceD d = true) (c : Nat) : 0 < (pkO d c).length := by
  obtain ⟨o, n, t, k⟩ := d
  have h1 : okD (k.deep + 1) o n t k = true := by
    unfold okD
    rw [ok_nice]
    unfold niceD at h
    rw [Bool.and_eq_true] at h
    simp [h.1, h.2]
  exact (pick_good _ o n t k h1 c).1

theorem Eqv.refl0 (d : D) : Eqv 0 d d := ⟨rfl, rfl, rfl, fun c => (nestL_nought _).symm⟩
theorem Eqv.comp {i j : Nat} {a b c : D} (h : Eqv i a b) (k : Eqv j b c) : Eqv (i + j) a c :=
  ⟨k.ct.trans h.ct, k.no.trans h.no, k.fd.trans h.fd, fun x => by rw [k.pk, h.pk, nestL_add]; congr 1⟩
theorem eqv_nest (q : Nat) (d : D) : Eqv q d (6, (q : Int), ⟨#[]⟩, consD d .nil) := by
  refine ⟨?_, ?_, ?_, fun c => rfl⟩
  · show ctD 6 (consD d .nil) = _; rw [ctD_other (by omega), ct_one]
  · show noD 6 (consD d .nil) = _; unfold noD; rw [no_one]; rfl
  · show flD 6 ⟨#[]⟩ (consD d .nil) = _; unfold flD; rw [fl_oneD]; exact none_app _
theorem eqv_nests : ∀ (m i : Nat) (d : D), i ≤ m → Eqv i d (nests i d) := by
  intro m
  induction m with
  | zero =>
    intro i d hi
    rw [nests, dif_neg (by omega), show i = 0 by omega]
    exact Eqv.refl0 d
  | succ m ih =>
    intro i d hi
    rw [nests]
    split
    · rename_i h0
      obtain ⟨q, hq⟩ : ∃ q, min i 9 = q := ⟨_, rfl⟩
      rw [hq]
      have h1 := (eqv_nest q d).comp (ih (i - q) (6, (q : Int), ⟨#[]⟩, consD d .nil) (by omega))
      rw [show q + (i - q) = i by omega] at h1
      exact h1
    · rw [show i = 0 by omega]; exact Eqv.refl0 d

/-- the lists of documents, one by one -/
def EqvL (i : Nat) : F → F → Prop
  | .nil, .nil => True
  | .cons o n t k r, .cons o' n' t' k' r' => Eqv i (o, n, t, k) (o', n', t', k') ∧ EqvL i r r'
  | .nil, .cons _ _ _ _ _ => False
  | .cons _ _ _ _ _, .nil => False
theorem EqvL.ct {i : Nat} : ∀ {f g : F}, EqvL i f g → ctF g = ctF f := by
  intro f
  induction f with
  | nil => intro g h; cases g with
    | nil => rfl
    | cons => exact h.elim
  | cons o n t k r _ ih => intro g h; cases g with
    | nil => exact h.elim
    | cons o' n' t' k' r' => rw [ctF_cons, ctF_cons, ih h.2]; congr 1; exact h.1.ct
theorem EqvL.no {i : Nat} : ∀ {f g : F}, EqvL i f g → noF g = noF f := by
  intro f
  induction f with
  | nil => intro g h; cases g with
    | nil => rfl
    | cons => exact h.elim
  | cons o n t k r _ ih => intro g h; cases g with
    | nil => exact h.elim
    | cons o' n' t' k' r' =>
      have h1 : noD o' k' = noD o k := h.1.no
      show ((o' != 5) && noF k' && noF r') = ((o != 5) && noF k && noF r)
      rw [ih h.2]
      unfold noD at h1
      rw [h1]
theorem EqvL.fl {i : Nat} : ∀ {f g : F}, EqvL i f g → Flat.fl g = Flat.fl f := by
  intro f
  induction f with
  | nil => intro g h; cases g with
    | nil => rfl
    | cons => exact h.elim
  | cons o n t k r _ ih => intro g h; cases g with
    | nil => exact h.elim
    | cons o' n' t' k' r' =>
      have h1 : flD o' t' k' = flD o t k := h.1.fd
      show flD o' t' k' ++ Flat.fl r' = flD o t k ++ Flat.fl r
      rw [ih h.2, h1]

theorem push_eqv : ∀ (f : F) (i : Nat), nice f = true → EqvL i f (pushL f i) := by
  intro f
  induction f with
  | nil => intro i _; trivial
  | cons o n t k r ihk ihr =>
    intro i h
    have hD : niceD (o, n, t, k) = true := by simp only [nice, Bool.and_eq_true] at h; exact Bool.and_eq_true_iff.2 h.1
    have hr : nice r = true := by simp only [nice, Bool.and_eq_true] at h; exact h.2
    have hk : nice k = true := (nice_kids hD).2
    refine ⟨?_, ihr i hr⟩
    show Eqv i (o, n, t, k) (pushD i o n t k)
    by_cases h6 : o = 6
    · obtain ⟨a, ha⟩ := kids_one hD (Or.inl h6)
      subst h6
      obtain ⟨h0, _⟩ := nest_num hD
      have ht : t = ⟨#[]⟩ := by
        unfold niceD nodeB textB at hD
        simp at hD
        exact hD.1.1.2
      have h1 := ihk (i + n.toNat) hk
      subst ht
      rw [ha] at h1 ⊢
      rw [push_six]
      have h2 : Eqv (i + n.toNat) a (pushOf (i + n.toNat) a) := h1.1
      have h3 := eqv_nest n.toNat a
      rw [show ((n.toNat : Nat) : Int) = n by omega] at h3
      refine ⟨h2.ct.trans h3.ct.symm, h2.no.trans h3.no.symm, h2.fd.trans h3.fd.symm, fun c => ?_⟩
      rw [h2.pk, h3.pk, nestL_add]
      congr 1
      omega
    · by_cases hl : o = 3 ∨ o = 4 ∨ o = 5
      · rw [show pushD i o n t k = nests i (o, n, t, k) by unfold pushD; rw [if_neg h6, if_pos hl]]
        exact eqv_nests i i _ (Nat.le_refl _)
      · rw [show pushD i o n t k = (o, n, t, pushL k i) by unfold pushD; rw [if_neg h6, if_neg hl]]
        have h1 := ihk i hk
        have hc := h1.ct
        have hno := h1.no
        have hfl := h1.fl
        refine ⟨?_, ?_, ?_, fun c => ?_⟩
        · show ctD o (pushL k i) = ctD o k
          unfold ctD
          rw [hc, hno]
        · show noD o (pushL k i) = noD o k
          unfold noD
          rw [hno]
        · show flD o t (pushL k i) = flD o t k
          unfold flD
          rw [hfl]
        · show pkD o n t (pushL k i) c = nestL i (pkD o n t k c)
          by_cases h7 : o = 7
          · obtain ⟨a, b, hab⟩ := kids_two hD h7
            subst h7
            rw [hab] at h1 hk ⊢
            have ha : Eqv i a (pushOf i a) := h1.1
            have hb : Eqv i b (pushOf i b) := h1.2.1
            rw [nice_consD, nice_consD, Bool.and_eq_true, Bool.and_eq_true] at hk
            show catL (pkO (pushOf i a) (c / ctO (pushOf i b))) (pkO (pushOf i b) (c % ctO (pushOf i b))) = nestL i (catL (pkO a (c / ctO b)) (pkO b (c % ctO b)))
            rw [hb.ct, ha.pk, hb.pk, catL_nest _ (pk_pos hk.1 _) (pk_pos hk.2.1 _)]
          · by_cases h8 : o = 8
            · obtain ⟨a, ha⟩ := kids_one hD (Or.inr h8)
              subst h8
              rw [ha] at h1 hno hfl ⊢
              have ha : Eqv i a (pushOf i a) := h1.1
              have e1 : pkD 8 n t (consD a .nil) c = if noF (consD a .nil) then (if c = 0 then [(0, flD 8 t (consD a .nil))] else pkO a (c - 1)) else pkO a c := rfl
              have e2 : pkD 8 n t (pushL (consD a .nil) i) c = if noF (pushL (consD a .nil) i) then (if c = 0 then [(0, flD 8 t (pushL (consD a .nil) i))] else pkO (pushOf i a) (c - 1)) else pkO (pushOf i a) c := rfl
              rw [e1, e2, hno]
              have e3 : flD 8 t (pushL (consD a .nil) i) = flD 8 t (consD a .nil) := by unfold flD; rw [hfl]
              rw [e3]
              split
              · split
                · rw [nestL_one (by simp)]
                · exact ha.pk _
              · exact ha.pk _
            · have hkn : k = .nil := kids_none hD h6 h7 h8
              subst hkn
              rw [pkD_leaf h6 h7 h8, pkD_leaf h6 h7 h8]
              have e : openD o n t (pushL .nil i) = openD o n t .nil := rfl
              rw [e]
              have hlen : (openD o n t .nil).length ≤ 1 := by
                unfold openD opn
                rw [if_neg hl, if_neg h6, if_neg h7, if_neg h8]
                split <;> simp
              rw [nestL_one hlen]

theorem push_keeps {d : D} (h : niceD d = true) : Eqv 0 d (pushOf 0 d) := by
  have h1 := push_eqv (consD d .nil) 0 (by rw [nice_consD, h]; rfl)
  exact h1.1

end Go.Proofs.Ytmkibpimjaofgaa.Nf

