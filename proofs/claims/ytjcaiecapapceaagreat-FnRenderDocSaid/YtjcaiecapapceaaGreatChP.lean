import Derived.Test.YtjcaiecapapceaaGreatWid
/-
 How many choices a document has, and the layouts of its choices, as plain functions; nothing here speaks of the program.
-/
set_option linter.unusedVariables false
set_option linter.unusedSimpArgs false
namespace Go.Proofs.YtjcaiecapapceaaGreat.ChP
open Go.RowKit P1 Cnt CntC Flat Wid
abbrev Lay := List (Int × ByteArray)
def ctF : F → Nat
 | .nil => 1
 | .cons o _ _ k r => (if o == 8 && noF k then ctF k + 1 else ctF k) * ctF r
def ctD (o : Int) (k : F) : Nat := if o == 8 && noF k then ctF k + 1 else ctF k
theorem ctF_cons (o n : Int) (t : ByteArray) (k r : F) : ctF (.cons o n t k r) = ctD o k * ctF r := rfl
theorem ctF_one (o n : Int) (t : ByteArray) (k : F) : ctF (.cons o n t k .nil) = ctD o k := by rw [ctF_cons, ctF, Nat.mul_one]
theorem ctF_app (f g : F) : ctF (f.app g) = ctF f * ctF g := by
 induction f with
 | nil => simp [F.app, ctF]
 | cons o n t k r _ ih => simp only [F.app, ctF_cons, ih, Nat.mul_assoc]
theorem ctF_pos (f : F) : 0 < ctF f := by
 induction f with
 | nil => exact Nat.one_pos
 | cons o n t k r ihk ihr =>
   rw [ctF_cons]
   refine Nat.mul_pos ?_ ihr
   unfold ctD; split <;> omega
theorem ctD_pos (o : Int) (k : F) : 0 < ctD o k := by
 have := ctF_pos k
 unfold ctD; split <;> omega
theorem ctD_leaf (o : Int) : ctD o .nil = if o == 8 then 2 else 1 := by simp [ctD, ctF, noF]
theorem ctD_other {o : Int} (h : o ≠ 8) (k : F) : ctD o k = ctF k := by
 have h1 : (o == 8) = false := by rw [beq_eq_false_iff_ne]; exact h
 simp [ctD, h1]
theorem ctD_group (k : F) : ctD 8 k = if noF k then ctF k + 1 else ctF k := by simp [ctD]
def c2 : F → Nat
 | .cons _ _ _ _ (.cons o _ _ k _) => ctD o k
 | _ => 1
def pkn (o n : Int) (t : ByteArray) (k : F) (ls : List (Nat → Lay)) (i : Nat) : Lay :=
 if o = 6 then nestL n (ls.getD 0 (fun _ => []) i) else if o = 7 then catL (ls.getD 0 (fun _ => []) (i / c2 k)) (ls.getD 1 (fun _ => []) (i % c2 k)) else if o = 8 then (if noF k then (if i = 0 then [(0, flD o t k)] else ls.getD 0 (fun _ => []) (i - 1)) else ls.getD 0 (fun _ => []) i) else openD o n t k
def pks : F → List (Nat → Lay)
 | .nil => []
 | .cons o n t k r => pkn o n t k (pks k) :: pks r
def pkD (o n : Int) (t : ByteArray) (k : F) (i : Nat) : Lay := pkn o n t k (pks k) i
theorem pkD_nest (n : Int) (t : ByteArray) (o1 n1 : Int) (t1 : ByteArray) (k1 : F) (i : Nat) : pkD 6 n t (.cons o1 n1 t1 k1 .nil) i = nestL n (pkD o1 n1 t1 k1 i) := rfl
theorem pkD_cat (n : Int) (t : ByteArray) (o1 n1 : Int) (t1 : ByteArray) (k1 : F) (o2 n2 : Int) (t2 : ByteArray) (k2 : F) (i : Nat) : pkD 7 n t (.cons o1 n1 t1 k1 (.cons o2 n2 t2 k2 .nil)) i = catL (pkD o1 n1 t1 k1 (i / ctD o2 k2)) (pkD o2 n2 t2 k2 (i % ctD o2 k2)) := rfl
theorem pkD_group (n : Int) (t : ByteArray) (o1 n1 : Int) (t1 : ByteArray) (k1 : F) (i : Nat) : pkD 8 n t (.cons o1 n1 t1 k1 .nil) i = if noF (.cons o1 n1 t1 k1 .nil) then (if i = 0 then [(0, flD 8 t (.cons o1 n1 t1 k1 .nil))] else pkD o1 n1 t1 k1 (i - 1)) else pkD o1 n1 t1 k1 i := rfl
theorem pkD_leaf {o : Int} (h6 : o ≠ 6) (h7 : o ≠ 7) (h8 : o ≠ 8) (n : Int) (t : ByteArray) (k : F) (i : Nat) : pkD o n t k i = openD o n t k := by
 unfold pkD pkn; rw [if_neg h6, if_neg h7, if_neg h8]
theorem fl_good (f : F) : ∀ d, f.ok d = true → (fl f).data.toList.all lb = true ∧ (fl f).size ≤ 12 * f.cnt := by
 induction f with
 | nil => intro d _; exact ⟨rfl, Nat.le_refl 0⟩
 | cons o n t k r ihk ihr =>
   intro d h
   simp only [F.ok, Bool.and_eq_true] at h
   obtain ⟨⟨⟨_, hn⟩, hk⟩, hr⟩ := h
   obtain ⟨a1, a2⟩ := ihk _ hk
   obtain ⟨b1, b2⟩ := ihr _ hr
   have ht : t.data.toList.all lb = true ∧ t.size ≤ 12 := by
    rcases node_kinds hn with ⟨_, ht, _⟩ | ⟨_, rfl, _⟩ | ⟨_, rfl, _⟩ | ⟨_, rfl, _⟩ | ⟨_, rfl, _⟩
    ·exact tv_chars ht
    all_goals exact ⟨rfl, by decide⟩
   simp only [fl, F.cnt]
   cases h3 : (o == 3) with
   | true =>
     have h1 : (⟨#[32]⟩ : ByteArray).size = 1 := rfl
     simp only [if_true, ByteArray.data_append, Array.toList_append, List.all_append, b1, ByteArray.size_append, h1, Bool.and_true]
     exact ⟨rfl, by omega⟩
   | false =>
     simp only [Bool.false_eq_true, if_false, ByteArray.data_append, Array.toList_append, List.all_append, ht.1, a1, b1, ByteArray.size_append, Bool.and_true]
     exact ⟨trivial, by omega⟩
theorem flD_good {d : Nat} {o n : Int} {t : ByteArray} {k : F} (h : okD d o n t k = true) : Gd [(0, flD o t k)] (1 + k.cnt) d := by
 have h1 : (F.cons o n t k .nil).ok d = true := by rw [ok_cons, h]; rfl
 obtain ⟨g1, g2⟩ := fl_good _ _ h1
 rw [fl_one] at g1 g2
 simp only [F.cnt] at g2
 exact ⟨by simp, by simp, fun _ => rfl, fun r hr => by simp at hr; subst hr; simp only; omega, fun r hr => by simp at hr; subst hr; exact g1, by simp only [L.tsz]; omega⟩
theorem okD_parts {d : Nat} {o n : Int} {t : ByteArray} {k : F} (h : okD (d + 1) o n t k = true) : nodeB o n t k.len = true ∧ k.ok d = true := by
 simp only [okD, Bool.and_eq_true, decide_eq_true_eq] at h
 obtain ⟨⟨_, hn⟩, hk⟩ := h
 rw [show d + 1 - 1 = d by omega] at hk
 exact ⟨hn, hk⟩
theorem leaf_ne {o : Int} (h : o = 1 ∨ o = 3 ∨ o = 4 ∨ o = 5) : o ≠ 6 ∧ o ≠ 7 ∧ o ≠ 8 := by omega
theorem pick_good : ∀ (d : Nat) (o n : Int) (t : ByteArray) (k : F), okD d o n t k = true → ∀ i, Gd (pkD o n t k i) (1 + k.cnt) d := by
 intro d
 induction d with
 | zero => intro o n t k h; rw [okD_zero] at h; cases h
 | succ d ih =>
   intro o n t k h i
   have hop := open_good _ o n t k h
   obtain ⟨hn, hk⟩ := okD_parts h
   rcases node_kinds hn with ⟨rfl, ht, hl⟩ | ⟨ho, rfl, hl⟩ | ⟨rfl, rfl, h0, h9, hl⟩ | ⟨rfl, rfl, hl⟩ | ⟨rfl, rfl, hl⟩
   ·rw [pkD_leaf (by omega) (by omega) (by omega)]; exact hop
   ·obtain ⟨h6, h7, h8⟩ := leaf_ne ho
    rw [pkD_leaf h6 h7 h8]; exact hop
   ·obtain ⟨o1, n1, t1, k1, rfl⟩ := one_kid hl
    rw [pkD_nest]
    rw [ok_cons, Bool.and_eq_true] at hk
    exact ((ih _ _ _ _ hk.1 i).nest h0 h9).mono (by simp only [F.cnt]; omega) (Nat.le_refl _)
   ·obtain ⟨o1, n1, t1, k1, o2, n2, t2, k2, rfl⟩ := two_kids hl
    rw [pkD_cat]
    rw [ok_cons, ok_cons, Bool.and_eq_true, Bool.and_eq_true] at hk
    exact ((ih _ _ _ _ hk.1 _).cat (ih _ _ _ _ hk.2.1 _)).mono (by simp only [F.cnt]; omega) (by omega)
   ·obtain ⟨o1, n1, t1, k1, rfl⟩ := one_kid hl
    have hf := flD_good h
    rw [pkD_group]
    rw [ok_cons, Bool.and_eq_true] at hk
    split
    ·split
     ·exact hf
     ·exact (ih _ _ _ _ hk.1 _).mono (by simp only [F.cnt]; omega) (by omega)
    ·exact (ih _ _ _ _ hk.1 _).mono (by simp only [F.cnt]; omega) (by omega)
theorem pick_lv {o n : Int} {t : ByteArray} {k : F} (h : validD o n t k = true) (i : Nat) : lv (pkD o n t k i) = true := by
 have h1 : okD 40 o n t k = true ∧ 1 + k.cnt ≤ 80 := by simpa [validD] using h
 exact (pick_good 40 o n t k h1.1 i).lv h1.2 (by omega)
def manyD (o n : Int) (t : ByteArray) (k : F) : Bool := validD o n t k && decide (ctD o k ≤ 100000)
end Go.Proofs.YtjcaiecapapceaaGreat.ChP
