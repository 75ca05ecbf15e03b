import Derived.Test.YtcealfjkcbaelaaChP
import Derived.Test.YtcealfjkcbaelaaLayQ
/-
  Rendering, as plain functions: what a document is laid out to in a width. Nothing here speaks of the program.
-/
set_option linter.unusedVariables false
set_option linter.unusedSimpArgs false
namespace Go.Proofs.Ytcealfjkcbaelaa.Rn
open Go.RowKit P1 Cnt CntC Flat Wid ChP

/-- a layout so far: the lines that are complete, the one that is not, and what was told of groups -/
structure St where
  rows : Lay
  ind : Int
  txt : ByteArray
  flags : List Bool
def St.line (s : St) (i : Int) : St := { rows := s.rows ++ [(s.ind, s.txt)], ind := i, txt := ⟨#[]⟩, flags := s.flags }
def St.put (s : St) (t : ByteArray) : St := { s with txt := s.txt ++ t }
def St.flag (s : St) (b : Bool) : St := { s with flags := s.flags ++ [b] }
def St.used (s : St) : Int := s.ind + (s.txt.size : Int)
def St.fin (s : St) : Lay := s.rows ++ [(s.ind, s.txt)]
def St.zero : St := ⟨[], 0, ⟨#[]⟩, []⟩
theorem St.put_none (s : St) : s.put ⟨#[]⟩ = s := by unfold St.put; rw [app_none]

/-- a group fits -/
def fitB (W : Int) (B : Nat) (s : St) (t : ByteArray) (k : F) : Bool := noF k && decide (s.used + ((flD 8 t k).size : Int) + (B : Int) ≤ W)
/-- an item: a document, with the sum of N of all nests around it -/
structure Itm where
  i : Int
  o : Int
  n : Int
  t : ByteArray
  k : F
/-- the bytes in front of the first newline of items -/
def ldI : List Itm → Nat
  | [] => 0
  | x :: r => nD x.o x.t x.k + if eD x.o x.k then 0 else ldI r
/-- a list's documents as items -/
def kidsI : F → Int → List Itm
  | .nil, _ => []
  | .cons o n t k r, i => ⟨i, o, n, t, k⟩ :: kidsI r i
theorem eight_nl : nl 8 = false := by decide
/-! ### what stays in bounds -/
/-- all nodes of items -/
def wtI : List Itm → Nat
  | [] => 0
  | x :: r => 1 + x.k.cnt + wtI r
theorem wtI_kids (f : F) (i : Int) (r : List Itm) : wtI (kidsI f i ++ r) = f.cnt + wtI r := by
  induction f with
  | nil => simp [kidsI, F.cnt]
  | cons o n t k g _ ih => simp only [kidsI, List.cons_append, wtI, ih, F.cnt]; omega
/-- all bytes of items, in one line -/
def szI : List Itm → Nat
  | [] => 0
  | x :: r => 1 + x.t.size + x.k.size + szI r
theorem szI_kids (f : F) (i : Int) (r : List Itm) : szI (kidsI f i ++ r) ≤ f.size + szI r := by
  induction f with
  | nil => simp [kidsI, F.size]
  | cons o n t k g _ ih => simp only [kidsI, List.cons_append, szI, F.size]; omega
/-- an item of a valid document -/
def OkI (x : Itm) : Prop := (∃ d, d ≤ 40 ∧ okD d x.o x.n x.t x.k = true) ∧ 0 ≤ x.i ∧ x.i + 9 * (1 + x.k.cnt : Nat) ≤ 720
theorem okI_list : ∀ (f : F) (d : Nat) (i : Int), d ≤ 40 → f.ok d = true → 0 ≤ i → i + 9 * (f.cnt : Nat) ≤ 720 → ∀ x ∈ kidsI f i, OkI x := by
  intro f
  induction f with
  | nil => intro d i _ _ _ _ x hx; simp [kidsI] at hx
  | cons o n t k r _ ih =>
    intro d i hd h h0 h1 x hx
    rw [ok_cons, Bool.and_eq_true] at h
    simp only [F.cnt] at h1
    simp only [kidsI, List.mem_cons] at hx
    rcases hx with rfl | hx
    · exact ⟨⟨d, hd, h.1⟩, h0, by show i + 9 * ((1 + k.cnt : Nat) : Int) ≤ 720; omega⟩
    · exact ih d i hd h.2 h0 (by omega) x hx
theorem node_n {o n : Int} {t : ByteArray} {l : Nat} (h : nodeB o n t l = true) : 0 ≤ n ∧ n ≤ 9 ∧ (o ≠ 6 → n = 0) ∧ (o ≠ 2 → t = ⟨#[]⟩) := by
  have h2 := h
  simp only [nodeB, numB, Bool.and_eq_true] at h2
  rcases node_kinds h with ⟨rfl, ht, hl⟩ | ⟨ho, rfl, hl⟩ | ⟨rfl, rfl, h0, h9, hl⟩ | ⟨rfl, rfl, hl⟩ | ⟨rfl, rfl, hl⟩
  · have := h2.2; simp at this; omega
  · have hn : n = 0 := by have := h2.2; rcases ho with rfl | rfl | rfl | rfl <;> simpa using this
    exact ⟨by omega, by omega, fun _ => hn, fun _ => rfl⟩
  · exact ⟨h0, h9, fun h => absurd rfl h, fun _ => rfl⟩
  · have := h2.2; simp at this; exact ⟨by omega, by omega, fun _ => this, fun _ => rfl⟩
  · have := h2.2; simp at this; exact ⟨by omega, by omega, fun _ => this, fun _ => rfl⟩
theorem okI_kids {x : Itm} (h : OkI x) : ∀ y ∈ kidsI x.k (x.i + x.n), OkI y := by
  obtain ⟨⟨d, hd, h1⟩, h2, h3⟩ := h
  cases d with
  | zero => rw [okD_zero] at h1; cases h1
  | succ d =>
    obtain ⟨hn, hk⟩ := okD_parts h1
    obtain ⟨n0, n9, _⟩ := node_n hn
    exact okI_list x.k d (x.i + x.n) (by omega) hk (by omega) (by omega)

end Go.Proofs.Ytcealfjkcbaelaa.Rn

/-
  What is rendered is the layout of a choice; it is the open one where no group is flat. Nothing here speaks of the program.
-/
set_option linter.unusedVariables false
set_option linter.unusedSimpArgs false
namespace Go.Proofs.Ytcealfjkcbaelaa.Rn
open Go.RowKit P1 Cnt CntC Flat Wid ChP
/-! ### what was there stays in front -/
def St.pre (R : Lay) (G : List Bool) (s : St) : St := { s with rows := R ++ s.rows, flags := G ++ s.flags }
end Go.Proofs.Ytcealfjkcbaelaa.Rn

/-
  Rendering in wide pages, of a group around a document, and in all widths. Nothing here speaks of the program.
-/
set_option linter.unusedVariables false
set_option linter.unusedSimpArgs false
namespace Go.Proofs.Ytcealfjkcbaelaa.Rn
open Go.RowKit P1 Cnt CntC Flat Wid ChP
/-! ### wide pages -/
/-- indents, texts and ends of lines, together -/
def ms : Lay → Int
  | [] => 0
  | r :: l => r.1 + (r.2.size : Int) + 1 + ms l
/-- the lines so far -/
def us (s : St) : Int := ms s.rows + s.ind + (s.txt.size : Int) + 1
end Go.Proofs.Ytcealfjkcbaelaa.Rn

/-
  The steps of rendering: what they come to, and what they keep in bounds. Nothing here speaks of the program.
-/
set_option linter.unusedVariables false
set_option linter.unusedSimpArgs false
namespace Go.Proofs.Ytcealfjkcbaelaa.Rn
open Go.RowKit P1 Cnt CntC Flat Wid ChP

/-- one step -/
def stepI (W : Int) (x : Itm) (r : List Itm) (s : St) : List Itm × St :=
  if nl x.o then (r, s.line x.i) else if x.o == 8 && fitB W (ldI r) s x.t x.k then (r, (s.flag true).put (flD 8 x.t x.k)) else (kidsI x.k (x.i + x.n) ++ r, (if x.o == 8 then s.flag false else s).put x.t)
/-- what stays in bounds -/
structure Bnd (Z : Nat) (its : List Itm) (s : St) : Prop where
  ok : ∀ x ∈ its, OkI x
  wt : wtI its + s.rows.length + s.flags.length ≤ 80
  ind : 0 ≤ s.ind ∧ s.ind ≤ 720
  sz : s.txt.size + szI its ≤ Z

theorem flD_le {d : Nat} {n : Int} {t : ByteArray} {k : F} (hok : okD d 8 n t k = true) : (flD 8 t k).size ≤ 1 + t.size + k.size := by
  have h2 := zf_fl (.cons 8 n t k .nil) d (by rw [ok_cons, hok]; rfl)
  rw [zf_one, fl_one] at h2
  rw [← h2]; exact zD_size 8 t k
theorem Bnd.step {Z : Nat} {x : Itm} {r : List Itm} {s : St} (h : Bnd Z (x :: r) s) (W : Int) : Bnd Z (stepI W x r s).1 (stepI W x r s).2 ∧ wtI (stepI W x r s).1 < wtI (x :: r) := by
  have hx := h.ok x (by simp)
  have hr : ∀ y ∈ r, OkI y := fun y hy => h.ok y (by simp [hy])
  have hw := h.wt
  have hz := h.sz
  simp only [wtI, szI] at hw hz
  have e0 : (⟨#[]⟩ : ByteArray).size = 0 := rfl
  unfold stepI
  by_cases hn : nl x.o = true
  · rw [if_pos hn]
    obtain ⟨_, hi0, hi1⟩ := hx
    refine ⟨⟨hr, ?_, ⟨hi0, ?_⟩, ?_⟩, by simp only [wtI]; omega⟩
    · simp only [St.line, List.length_append, List.length_cons, List.length_nil]; omega
    · show x.i ≤ 720
      omega
    · simp only [St.line, e0]; omega
  · rw [if_neg hn]
    by_cases hf : (x.o == 8 && fitB W (ldI r) s x.t x.k) = true
    · rw [if_pos hf]
      simp only [Bool.and_eq_true, beq_iff_eq] at hf
      obtain ⟨⟨d, _, hok⟩, _⟩ := hx
      rw [hf.1] at hok
      have := flD_le hok
      refine ⟨⟨hr, ?_, h.ind, ?_⟩, by simp only [wtI]; omega⟩
      · simp only [St.put, St.flag, List.length_append, List.length_cons, List.length_nil]; omega
      · simp only [St.put, St.flag, ByteArray.size_append]; omega
    · rw [if_neg hf]
      have h1 := szI_kids x.k (x.i + x.n) r
      have h2 := wtI_kids x.k (x.i + x.n) r
      refine ⟨⟨fun y hy => ?_, ?_, ?_, ?_⟩, by simp only [wtI, h2]; omega⟩
      · rcases List.mem_append.1 hy with hy | hy
        · exact okI_kids hx y hy
        · exact hr y hy
      · rw [h2]
        split <;> simp only [St.put, St.flag, List.length_append, List.length_cons, List.length_nil] <;> omega
      · split <;> exact h.ind
      · have : ((if x.o == 8 then s.flag false else s).put x.t).txt.size = s.txt.size + x.t.size := by
          split <;> simp only [St.put, St.flag, ByteArray.size_append]
        show ((if x.o == 8 then s.flag false else s).put x.t).txt.size + szI (kidsI x.k (x.i + x.n) ++ r) ≤ Z
        rw [this]; omega
end Go.Proofs.Ytcealfjkcbaelaa.Rn

