import Derived.Test.YtcpbhkgdeaanmaaPl
import Derived.Test.YtcpbhkgdeaanmaaChP
import Derived.Test.YtcpbhkgdeaanmaaNfA
/-
  What holds of nested and joined layouts, as plain data; nothing here speaks of the program.
-/
set_option linter.unusedVariables false
set_option linter.unusedSimpArgs false
namespace Go.Proofs.Ytcpbhkgdeaanmaa.P1
open Go.RowKit
theorem nestL_nought (l : List (Int × ByteArray)) : nestL 0 l = l := by
  cases l with
  | nil => rfl
  | cons r l => simp [nestL]
theorem nestL_one {n : Int} {l : List (Int × ByteArray)} (h : l.length ≤ 1) : nestL n l = l := by
  cases l with
  | nil => rfl
  | cons r l =>
    cases l with
    | nil => rfl
    | cons => simp at h
theorem nestL_add (m n : Int) (l : List (Int × ByteArray)) : nestL m (nestL n l) = nestL (n + m) l := by
  cases l with
  | nil => rfl
  | cons r l => simp [nestL, Function.comp_def, Int.add_assoc]
theorem snoc_of {a : List (Int × ByteArray)} (h : 0 < a.length) : ∃ p q, a = p ++ [q] :=
  ⟨a.dropLast, a.getLast (List.length_pos_iff.1 h), (List.dropLast_concat_getLast _).symm⟩
theorem catL_snoc (p : List (Int × ByteArray)) (q r : Int × ByteArray) (k : List (Int × ByteArray)) : catL (p ++ [q]) (r :: k) = p ++ (q.1, q.2 ++ r.2) :: k := by simp [catL]
theorem catL_assoc {a b : List (Int × ByteArray)} (c : List (Int × ByteArray)) (ha : 0 < a.length) (hb : 0 < b.length) : catL (catL a b) c = catL a (catL b c) := by
  obtain ⟨p, q, rfl⟩ := snoc_of ha
  cases c with
  | nil => simp [catL]
  | cons s m =>
    obtain ⟨u, v, rfl⟩ := snoc_of hb
    cases u with
    | nil =>
      have h1 := catL_snoc p q v []
      have h2 := catL_snoc [] v s m
      have h3 := catL_snoc p (q.1, q.2 ++ v.2) s m
      have h4 := catL_snoc p q (v.1, v.2 ++ s.2) m
      simp only [List.nil_append] at h2 ⊢
      rw [h1, h2, h3, h4, ByteArray.append_assoc]
    | cons x u =>
      have h1 := catL_snoc p q x (u ++ [v])
      have h2 := catL_snoc (x :: u) v s m
      have h3 := catL_snoc (p ++ (q.1, q.2 ++ x.2) :: u) v s m
      have h4 := catL_snoc p q x (u ++ (v.1, v.2 ++ s.2) :: m)
      simp only [List.cons_append, List.append_assoc] at h1 h2 h3 h4 ⊢
      rw [h1, h2, h3, h4]
theorem catL_right {a : List (Int × ByteArray)} (h : 0 < a.length) : catL a [(0, ⟨#[]⟩)] = a := by
  obtain ⟨p, q, rfl⟩ := snoc_of h
  rw [catL_snoc]
  have e : q.2 ++ (⟨#[]⟩ : ByteArray) = q.2 := by apply ByteArray.ext; simp
  rw [e]
end Go.Proofs.Ytcpbhkgdeaanmaa.P1

/-
  PushNest keeps the layout of each choice; nothing here speaks of the program's own pushing.
-/
set_option linter.unusedVariables false
set_option linter.unusedSimpArgs false
namespace Go.Proofs.Ytcpbhkgdeaanmaa.Nf
open P1 Flat Wid ChP

def ctO (d : D) : Nat := ctD d.1 d.2.2.2
def noO (d : D) : Bool := noD d.1 d.2.2.2
def flO (d : D) : ByteArray := flD d.1 d.2.2.1 d.2.2.2
def pkO (d : D) (c : Nat) : Lay := pkD d.1 d.2.1 d.2.2.1 d.2.2.2 c

structure Eqv (i : Nat) (d d' : D) : Prop where
  ct : ctO d' = ctO d
  no : noO d' = noO d
  fd : flO d' = flO d
  pk : ∀ c, pkO d' c = nestL (i : Int) (pkO d c)

theorem ct_one (d : D) : ctF (consD d .nil) = ctO d := ctF_one _ _ _ _
theorem no_one (d : D) : noF (consD d .nil) = noO d := by show ((d.1 != 5) && noF d.2.2.2 && noF .nil) = _; simp [noF, noO, noD]
theorem fl_oneD (d : D) : fl (consD d .nil) = flO d := fl_one _ _ _ _

theorem pk_pos {d : D} (h : niceD d = true) (c : Nat) : 0 < (pkO d c).length := by
  obtain ⟨o, n, t, k⟩ := d
  have h1 : okD (k.deep + 1) o n t k = true := by
    unfold okD
    rw [ok_nice]
    unfold niceD at h
    rw [Bool.and_eq_true] at h
    simp [h.1, h.2]
  exact (pick_good _ o n t k h1 c).1

theorem Eqv.comp {i j : Nat} {a b c : D} (h : Eqv i a b) (k : Eqv j b c) : Eqv (i + j) a c :=
  ⟨k.ct.trans h.ct, k.no.trans h.no, k.fd.trans h.fd, fun x => by rw [k.pk, h.pk, nestL_add]; congr 1⟩
def EqvL (i : Nat) : F → F → Prop
  | .nil, .nil => True
  | .cons o n t k r, .cons o' n' t' k' r' => Eqv i (o, n, t, k) (o', n', t', k') ∧ EqvL i r r'
  | .nil, .cons _ _ _ _ _ => False
  | .cons _ _ _ _ _, .nil => False
theorem EqvL.ct {i : Nat} : ∀ {f g : F}, EqvL i f g → ctF g = ctF f := by
  intro f
  induction f with
  | nil => intro g h; cases g with
    | nil => rfl
    | cons => exact h.elim
  | cons o n t k r _ ih => intro g h; cases g with
    | nil => exact h.elim
    | cons o' n' t' k' r' => rw [ctF_cons, ctF_cons, ih h.2]; congr 1; exact h.1.ct
theorem EqvL.no {i : Nat} : ∀ {f g : F}, EqvL i f g → noF g = noF f := by
  intro f
  induction f with
  | nil => intro g h; cases g with
    | nil => rfl
    | cons => exact h.elim
  | cons o n t k r _ ih => intro g h; cases g with
    | nil => exact h.elim
    | cons o' n' t' k' r' =>
      have h1 : noD o' k' = noD o k := h.1.no
      show ((o' != 5) && noF k' && noF r') = ((o != 5) && noF k && noF r)
      rw [ih h.2]
      unfold noD at h1
      rw [h1]
theorem EqvL.fl {i : Nat} : ∀ {f g : F}, EqvL i f g → Flat.fl g = Flat.fl f := by
  intro f
  induction f with
  | nil => intro g h; cases g with
    | nil => rfl
    | cons => exact h.elim
  | cons o n t k r _ ih => intro g h; cases g with
    | nil => exact h.elim
    | cons o' n' t' k' r' =>
      have h1 : flD o' t' k' = flD o t k := h.1.fd
      show flD o' t' k' ++ Flat.fl r' = flD o t k ++ Flat.fl r
      rw [ih h.2, h1]

end Go.Proofs.Ytcpbhkgdeaanmaa.Nf

