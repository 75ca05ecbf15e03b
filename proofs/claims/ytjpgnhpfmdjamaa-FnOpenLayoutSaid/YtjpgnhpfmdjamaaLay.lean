/-
  Layouts as plain data, and how they lie in memory; nothing here speaks of the program. A layout is a list of lines, each with its indentation and its text.
-/
import Derived.Test.YtjpgnhpfmdjamaaDocs
import Derived.Test.YtjpgnhpfmdjamaaPure1
import Derived.Test.YtjpgnhpfmdjamaaMarkP
set_option linter.unusedVariables false
set_option linter.unusedSimpArgs false
namespace Go.Proofs.Ytjpgnhpfmdjamaa
open Go.RowKit P1

/-- what a helper that counts bytes hands back: what is left, or -1 -/
def leftR (s : Nat) (left : Int) : Int := if (s : Int) ≤ left then left - s else -1
theorem leftR_yes {s : Nat} {left : Int} (h : (s : Int) ≤ left) : leftR s left = left - s := if_pos h
theorem leftR_no {s : Nat} {left : Int} (h : left < s) : leftR s left = -1 := if_neg (by omega)

namespace L
/-- the bytes of all texts -/
def tsz : List (Int × ByteArray) → Nat
  | [] => 0
  | r :: l => r.2.size + tsz l
theorem tsz_app (l k : List (Int × ByteArray)) : tsz (l ++ k) = tsz l + tsz k := by
  induction l with
  | nil => simp [tsz]
  | cons r l ih => simp [tsz, ih]; omega
theorem take_succ {α : Type} {l : List α} {k : Nat} (h : k < l.length) : l.take (k + 1) = l.take k ++ [l[k]] := by
  rw [List.take_succ_eq_append_getElem h]
theorem tsz_take {l : List (Int × ByteArray)} {k : Nat} (h : k < l.length) : tsz (l.take (k + 1)) = tsz (l.take k) + l[k].2.size := by
  rw [take_succ h, tsz_app]; simp [tsz]
theorem tsz_take_le (l : List (Int × ByteArray)) (k : Nat) : tsz (l.take k) ≤ tsz l := by
  have := tsz_app (l.take k) (l.drop k)
  rw [List.take_append_drop] at this; omega
theorem tsz_get_le {l : List (Int × ByteArray)} {k : Nat} (h : k < l.length) : l[k].2.size ≤ tsz l := by
  have := tsz_take h; have := tsz_take_le l (k + 1); omega
/-- the lines and bytes: what the law's 'sz' counts -/
def size (l : List (Int × ByteArray)) : Nat := l.length + tsz l
def Fits (l : List (Int × ByteArray)) : Prop := ∀ r ∈ l, r.2.size ≤ maxLen
theorem Fits.get {l : List (Int × ByteArray)} (h : Fits l) {k : Nat} (hk : k < l.length) : l[k].2.size ≤ maxLen := h _ (List.getElem_mem hk)
theorem fits_of {l : List (Int × ByteArray)} {m : Nat} (hm : m ≤ maxLen) (h : size l ≤ m) : Fits l := by
  intro r hr
  obtain ⟨k, hk, rfl⟩ := List.getElem_of_mem hr
  have := tsz_get_le hk
  unfold size at h; omega
end L

/-- The lines l lie in block b from cell off on, two cells a line. -/
def LayAt (w : World) (l : List (Int × ByteArray)) (b off : Nat) : Prop := ∀ i, (h : i < l.length) → w.cell? ⟨b, off + i * 2, none⟩ = some (.int .i64 l[i].1) ∧ w.cell? ⟨b, off + i * 2 + 1, none⟩ = some (.string l[i].2)

/-- The array behind a slice holds l; fs: its block. -/
def LaySub (w : World) (a : Option Addr) (l : List (Int × ByteArray)) (fs : List Nat) : Prop :=
  (l = [] ∧ fs = []) ∨ (∃ b off, a = some ⟨b, off, none⟩ ∧ l ≠ [] ∧ fs = [b] ∧ LayAt w l b off)

theorem LayAt.congr {w w' : World} {l : List (Int × ByteArray)} {b off : Nat} (h : LayAt w l b off) (hb : ∀ o, off ≤ o → o < off + l.length * 2 → w'.cell? ⟨b, o, none⟩ = w.cell? ⟨b, o, none⟩) : LayAt w' l b off := fun i hi =>
  ⟨(hb _ (by omega) (by omega)).trans (h i hi).1, (hb _ (by omega) (by omega)).trans (h i hi).2⟩
theorem LayAt.below {w w' : World} {l : List (Int × ByteArray)} {b off B : Nat} (h : LayAt w l b off) (hb : b < B) (k : Below B w w') : LayAt w' l b off := h.congr fun _ _ _ => k.cell (p := ⟨_, _, _⟩) hb
theorem LayAt.nil (w : World) (b off : Nat) : LayAt w [] b off := fun i h => by simp at h
theorem LayAt.lt {w : World} {l : List (Int × ByteArray)} {b off : Nat} (h : LayAt w l b off) (hl : l ≠ []) : b < w.heap.size := by
  have h0 : 0 < l.length := List.length_pos_iff.2 hl
  exact World.block_lt_of_cell? w _ (h 0 h0).1
theorem LayAt.drop {w : World} {l : List (Int × ByteArray)} {b off : Nat} (h : LayAt w l b off) (k : Nat) : LayAt w (l.drop k) b (off + k * 2) := fun i hi => by
  have hi' : k + i < l.length := by simp at hi; omega
  have := h (k + i) hi'
  rw [List.getElem_drop]
  rw [show off + k * 2 + i * 2 = off + (k + i) * 2 by omega]
  exact this
theorem LayAt.take {w : World} {l : List (Int × ByteArray)} {b off : Nat} (h : LayAt w l b off) (k : Nat) : LayAt w (l.take k) b off := fun i hi => by
  have hi' : i < l.length := by simp at hi; omega
  have := h i hi'
  rw [List.getElem_take]
  exact this
theorem LayAt.app {w : World} {l k : List (Int × ByteArray)} {b off : Nat} (h : LayAt w l b off) (g : LayAt w k b (off + l.length * 2)) : LayAt w (l ++ k) b off := fun i hi => by
  by_cases hl : i < l.length
  · rw [List.getElem_append_left hl]; exact h i hl
  · have hi' : i - l.length < k.length := by simp at hi; omega
    have := g (i - l.length) hi'
    rw [List.getElem_append_right (by omega)]
    rw [show off + l.length * 2 + (i - l.length) * 2 = off + i * 2 by omega] at this
    exact this

theorem LaySub.congr {w w' : World} {a : Option Addr} {l : List (Int × ByteArray)} {fs : List Nat} (h : LaySub w a l fs) (hb : ∀ b ∈ fs, ∀ o, w'.cell? ⟨b, o, none⟩ = w.cell? ⟨b, o, none⟩) : LaySub w' a l fs := by
  rcases h with h | ⟨b, off, ha, hl, rfl, hr⟩
  · exact .inl h
  · exact .inr ⟨b, off, ha, hl, rfl, hr.congr fun o _ _ => hb b (by simp) o⟩
theorem LaySub.below {w w' : World} {a : Option Addr} {l : List (Int × ByteArray)} {fs : List Nat} {B : Nat} (h : LaySub w a l fs) (hfs : ∀ c ∈ fs, c < B) (k : Below B w w') : LaySub w' a l fs :=
  h.congr fun b hb _ => k.cell (p := ⟨_, _, _⟩) (hfs b hb)
theorem LaySub.lt {w : World} {a : Option Addr} {l : List (Int × ByteArray)} {fs : List Nat} (h : LaySub w a l fs) : ∀ c ∈ fs, c < w.heap.size := by
  rcases h with ⟨_, rfl⟩ | ⟨b, off, ha, hl, rfl, hr⟩
  · simp
  · simpa using hr.lt hl
theorem LaySub.only {gs : List Nat} {w w' : World} {a : Option Addr} {l : List (Int × ByteArray)} {fs : List Nat} (h : LaySub w a l fs) (k : Only gs w w') (hg : ∀ c ∈ fs, c ∉ gs) : LaySub w' a l fs :=
  h.congr fun b hb _ => k.cell (h.lt b hb) (hg b hb) _
theorem LaySub.drew {w : World} {a : Option Addr} {l : List (Int × ByteArray)} {fs : List Nat} (h : LaySub w a l fs) : LaySub w.drew a l fs := h.congr fun _ _ _ => rfl

/-- One line more behind lines that lie there. -/
theorem LayAt.put {w : World} {l : List (Int × ByteArray)} {b L k : Nat} {n : Int} {t : ByteArray} (h : LayAt w l b 0) (hk : l.length = k) (ht : w.there b 0 (L * 2)) (hL : k < L) :
    LayAt (w.setCells b (k * 2) [.int .i64 n, .string t]) (l ++ [(n, t)]) b 0 := by
  subst hk
  have hth : w.there b (l.length * 2) 2 := there_part ht (by omega)
  have hr := World.rangeAt_setCells_same w b (l.length * 2) [.int .i64 n, .string t] hth
  refine LayAt.app (h.congr fun o' _ h2 => World.cell?_setCells_out b _ _ w ⟨b, o', none⟩ (fun _ _ => Or.inl (by simp; omega))) ?_
  intro i hi
  obtain rfl : i = 0 := by simpa using hi
  refine ⟨?_, ?_⟩
  · have := hr 0 _ rfl; simpa using this
  · have := hr 1 _ rfl; simpa using this

/-- A line of lines that lie there is written anew: its indentation, its text. -/
theorem LayAt.setN {w : World} {l : List (Int × ByteArray)} {b off k : Nat} {n : Int} {t : ByteArray} (h : LayAt w l b off) (hk : k < l.length) (e : l[k] = (n, t)) (m : Int) :
    LayAt (w.setCell ⟨b, off + k * 2, none⟩ (.int .i64 m)) (l.set k (m, t)) b off := fun i hi => by
  have hi' : i < l.length := by simpa using hi
  have h0 := h i hi'
  by_cases hik : i = k
  · subst hik
    rw [e] at h0
    rw [List.getElem_set_self]
    exact ⟨World.cell?_setCell_same _ _ _ h0.1, by rw [World.cell?_setCell_other _ _ _ _ (by simp)]; exact h0.2⟩
  · rw [List.getElem_set_ne (fun e => hik e.symm)]
    refine ⟨?_, ?_⟩
    · rw [World.cell?_setCell_other _ _ _ _ (by intro e; injection e with e1 e2; omega)]; exact h0.1
    · rw [World.cell?_setCell_other _ _ _ _ (by intro e; injection e with e1 e2; omega)]; exact h0.2
theorem LayAt.setT {w : World} {l : List (Int × ByteArray)} {b off k : Nat} {n : Int} {t : ByteArray} (h : LayAt w l b off) (hk : k < l.length) (e : l[k] = (n, t)) (u : ByteArray) :
    LayAt (w.setCell ⟨b, off + k * 2 + 1, none⟩ (.string u)) (l.set k (n, u)) b off := fun i hi => by
  have hi' : i < l.length := by simpa using hi
  have h0 := h i hi'
  by_cases hik : i = k
  · subst hik
    rw [e] at h0
    rw [List.getElem_set_self]
    exact ⟨by rw [World.cell?_setCell_other _ _ _ _ (by simp)]; exact h0.1, World.cell?_setCell_same _ _ _ h0.2⟩
  · rw [List.getElem_set_ne (fun e => hik e.symm)]
    refine ⟨?_, ?_⟩
    · rw [World.cell?_setCell_other _ _ _ _ (by intro e; injection e with e1 e2; omega)]; exact h0.1
    · rw [World.cell?_setCell_other _ _ _ _ (by intro e; injection e with e1 e2; omega)]; exact h0.2

namespace L
/-- the lines of a layout with marks from m on -/
def mk : List (Int × ByteArray) → Nat → List (Int × ByteArray)
  | [], _ => []
  | _ :: l, m => ((m : Int), mt (m + 1)) :: mk l (m + 2)
theorem length_mk (l : List (Int × ByteArray)) : ∀ m, (mk l m).length = l.length := by
  induction l with
  | nil => intro m; rfl
  | cons r l ih => intro m; simp [mk, ih]
theorem mk_nil_iff (l : List (Int × ByteArray)) (m : Nat) : mk l m = [] ↔ l = [] := by cases l <;> simp [mk]
theorem mk_get (l : List (Int × ByteArray)) : ∀ (m i : Nat) (h : i < (mk l m).length), (mk l m)[i] = (((m + 2 * i : Nat) : Int), mt (m + 2 * i + 1)) := by
  induction l with
  | nil => intro m i h; simp [mk] at h
  | cons r l ih =>
    intro m i h
    cases i with
    | zero => simp [mk]
    | succ i =>
      simp only [mk, List.getElem_cons_succ]
      rw [ih, show m + 2 + 2 * i = m + 2 * (i + 1) by omega]
end L

namespace P1
/-- A byte that a line can have, and a text of a line. -/
def lb (c : UInt8) : Bool := c == 32 || tb c
def lt (l : List UInt8) : Bool := decide (l.length < 2000) && l.all lb
theorem lt_long {l : List UInt8} (h : 2000 ≤ l.length) : lt l = false := by simp [lt]; intro h1; omega
theorem lt_of {l : List UInt8} (h : l.length < 2000) : lt l = l.all lb := by simp [lt, h]
theorem lb_num (c : UInt8) : lb c = (((c.toNat : Int) == 32) || tb c) := by unfold lb; rw [u8_beq]; rfl
/-- a line that can be one of a layout, and a layout -/
def rv (r : Int × ByteArray) : Bool := decide (0 ≤ r.1) && decide (r.1 ≤ 400) && lt r.2.data.toList
def head0 : List (Int × ByteArray) → Bool
  | [] => false
  | r :: _ => decide (r.1 = 0)
def lv (l : List (Int × ByteArray)) : Bool := decide (1 ≤ l.length) && decide (l.length ≤ 200) && head0 l && l.all rv
theorem head0_get {l : List (Int × ByteArray)} (h : 0 < l.length) : head0 l = decide (l[0].1 = 0) := by
  cases l with
  | nil => simp at h
  | cons r l => rfl
theorem lv_nil : lv [] = false := rfl
theorem lv_long {l : List (Int × ByteArray)} (h : 200 < l.length) : lv l = false := by simp [lv]; intro h1 h2; omega
theorem lv_head {l : List (Int × ByteArray)} (h : 0 < l.length) (h0 : l[0].1 ≠ 0) : lv l = false := by unfold lv; rw [head0_get h]; simp [h0]
theorem lv_of {l : List (Int × ByteArray)} (h : 0 < l.length) (h1 : l.length ≤ 200) (h0 : l[0].1 = 0) : lv l = l.all rv := by unfold lv; rw [head0_get h]; simp [h0, h1]; omega
theorem all_get {l : List (Int × ByteArray)} {k : Nat} (hk : k < l.length) (h : rv l[k] = false) : l.all rv = false := by
  rw [List.all_eq_false]; exact ⟨_, List.getElem_mem hk, by simp [h]⟩
theorem lv_bad {l : List (Int × ByteArray)} {k : Nat} (hk : k < l.length) (h : rv l[k] = false) : lv l = false := by
  unfold lv; rw [all_get hk h, Bool.and_false]
theorem all_take {l : List (Int × ByteArray)} {k : Nat} (hk : k < l.length) : (l.take (k + 1)).all rv = ((l.take k).all rv && rv l[k]) := by
  rw [L.take_succ hk]; simp only [List.all_append, List.all_cons, List.all_nil, Bool.and_true]
theorem lv_len {l : List (Int × ByteArray)} (h : lv l = true) : 1 ≤ l.length ∧ l.length ≤ 200 := by
  simp only [lv, Bool.and_eq_true, decide_eq_true_eq] at h; exact h.1.1
theorem lv_get {l : List (Int × ByteArray)} (h : lv l = true) {k : Nat} (hk : k < l.length) : rv l[k] = true := by
  simp only [lv, Bool.and_eq_true, List.all_eq_true] at h; exact h.2 _ (List.getElem_mem hk)
theorem rv_iff {r : Int × ByteArray} : rv r = true ↔ 0 ≤ r.1 ∧ r.1 ≤ 400 ∧ lt r.2.data.toList = true := by simp [rv, and_assoc]
theorem lt_len {l : List UInt8} (h : lt l = true) : l.length < 2000 := by simp [lt] at h; exact h.1
theorem lt_stop (s : ByteArray) (k : Nat) (h : k < s.size) (hp : lb s[k] = false) : lt s.data.toList = false := by
  unfold lt; rw [all_stop s k h lb hp, Bool.and_false]
end P1

end Go.Proofs.Ytjpgnhpfmdjamaa
