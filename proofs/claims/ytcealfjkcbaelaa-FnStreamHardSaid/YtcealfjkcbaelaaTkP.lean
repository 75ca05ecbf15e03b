import Derived.Test.YtcealfjkcbaelaaPl
/-
  Tokens as plain data, and how they lie in memory; nothing here speaks of the program. A token has its kind, its number and its text.
-/
set_option linter.unusedVariables false
set_option linter.unusedSimpArgs false
namespace Go.Proofs.Ytcealfjkcbaelaa
open Go.RowKit P1

namespace TL
/-- the bytes of all texts -/
def tsz : List (Int × Int × ByteArray) → Nat
  | [] => 0
  | r :: l => r.2.2.size + tsz l
/-- the lines and bytes: what the law's 'sz' counts -/
def size (l : List (Int × Int × ByteArray)) : Nat := l.length + tsz l
def Fits (l : List (Int × Int × ByteArray)) : Prop := ∀ r ∈ l, r.2.2.size ≤ maxLen
theorem Fits.get {l : List (Int × Int × ByteArray)} (h : Fits l) {k : Nat} (hk : k < l.length) : l[k].2.2.size ≤ maxLen := h _ (List.getElem_mem hk)
end TL

/-- The lines l lie in block b from cell off on, three cells a token. -/
def TkAt (w : World) (l : List (Int × Int × ByteArray)) (b off : Nat) : Prop := ∀ i, (h : i < l.length) → w.cell? ⟨b, off + i * 3, none⟩ = some (.int .i64 l[i].1) ∧ w.cell? ⟨b, off + i * 3 + 1, none⟩ = some (.int .i64 l[i].2.1) ∧ w.cell? ⟨b, off + i * 3 + 2, none⟩ = some (.string l[i].2.2)

/-- The array behind a slice holds l; fs: its block. -/
def TkSub (w : World) (a : Option Addr) (l : List (Int × Int × ByteArray)) (fs : List Nat) : Prop :=
  (l = [] ∧ fs = []) ∨ (∃ b off, a = some ⟨b, off, none⟩ ∧ l ≠ [] ∧ fs = [b] ∧ TkAt w l b off)

theorem TkAt.congr {w w' : World} {l : List (Int × Int × ByteArray)} {b off : Nat} (h : TkAt w l b off) (hb : ∀ o, off ≤ o → o < off + l.length * 3 → w'.cell? ⟨b, o, none⟩ = w.cell? ⟨b, o, none⟩) : TkAt w' l b off := fun i hi =>
  ⟨(hb _ (by omega) (by omega)).trans (h i hi).1, (hb _ (by omega) (by omega)).trans (h i hi).2.1, (hb _ (by omega) (by omega)).trans (h i hi).2.2⟩
theorem TkAt.below {w w' : World} {l : List (Int × Int × ByteArray)} {b off B : Nat} (h : TkAt w l b off) (hb : b < B) (k : Below B w w') : TkAt w' l b off := h.congr fun _ _ _ => k.cell (p := ⟨_, _, _⟩) hb
theorem TkAt.nil (w : World) (b off : Nat) : TkAt w [] b off := fun i h => by simp at h
theorem TkAt.lt {w : World} {l : List (Int × Int × ByteArray)} {b off : Nat} (h : TkAt w l b off) (hl : l ≠ []) : b < w.heap.size := by
  have h0 : 0 < l.length := List.length_pos_iff.2 hl
  exact World.block_lt_of_cell? w _ (h 0 h0).1
theorem TkAt.drop {w : World} {l : List (Int × Int × ByteArray)} {b off : Nat} (h : TkAt w l b off) (k : Nat) : TkAt w (l.drop k) b (off + k * 3) := fun i hi => by
  have hi' : k + i < l.length := by simp at hi; omega
  have := h (k + i) hi'
  rw [List.getElem_drop]
  rw [show off + k * 3 + i * 3 = off + (k + i) * 3 by omega]
  exact this
theorem TkAt.take {w : World} {l : List (Int × Int × ByteArray)} {b off : Nat} (h : TkAt w l b off) (k : Nat) : TkAt w (l.take k) b off := fun i hi => by
  have hi' : i < l.length := by simp at hi; omega
  have := h i hi'
  rw [List.getElem_take]
  exact this
theorem TkAt.app {w : World} {l k : List (Int × Int × ByteArray)} {b off : Nat} (h : TkAt w l b off) (g : TkAt w k b (off + l.length * 3)) : TkAt w (l ++ k) b off := fun i hi => by
  by_cases hl : i < l.length
  · rw [List.getElem_append_left hl]; exact h i hl
  · have hi' : i - l.length < k.length := by simp at hi; omega
    have := g (i - l.length) hi'
    rw [List.getElem_append_right (by omega)]
    rw [show off + l.length * 3 + (i - l.length) * 3 = off + i * 3 by omega] at this
    exact this

theorem TkSub.congr {w w' : World} {a : Option Addr} {l : List (Int × Int × ByteArray)} {fs : List Nat} (h : TkSub w a l fs) (hb : ∀ b ∈ fs, ∀ o, w'.cell? ⟨b, o, none⟩ = w.cell? ⟨b, o, none⟩) : TkSub w' a l fs := by
  rcases h with h | ⟨b, off, ha, hl, rfl, hr⟩
  · exact .inl h
  · exact .inr ⟨b, off, ha, hl, rfl, hr.congr fun o _ _ => hb b (by simp) o⟩
theorem TkSub.below {w w' : World} {a : Option Addr} {l : List (Int × Int × ByteArray)} {fs : List Nat} {B : Nat} (h : TkSub w a l fs) (hfs : ∀ c ∈ fs, c < B) (k : Below B w w') : TkSub w' a l fs :=
  h.congr fun b hb _ => k.cell (p := ⟨_, _, _⟩) (hfs b hb)
theorem TkSub.lt {w : World} {a : Option Addr} {l : List (Int × Int × ByteArray)} {fs : List Nat} (h : TkSub w a l fs) : ∀ c ∈ fs, c < w.heap.size := by
  rcases h with ⟨_, rfl⟩ | ⟨b, off, ha, hl, rfl, hr⟩
  · simp
  · simpa using hr.lt hl
theorem TkSub.only {gs : List Nat} {w w' : World} {a : Option Addr} {l : List (Int × Int × ByteArray)} {fs : List Nat} (h : TkSub w a l fs) (k : Only gs w w') (hg : ∀ c ∈ fs, c ∉ gs) : TkSub w' a l fs :=
  h.congr fun b hb _ => k.cell (h.lt b hb) (hg b hb) _
theorem TkSub.drew {w : World} {a : Option Addr} {l : List (Int × Int × ByteArray)} {fs : List Nat} (h : TkSub w a l fs) : TkSub w.drew a l fs := h.congr fun _ _ _ => rfl

/-- One line more behind lines that lie there. -/
theorem TkAt.put {w : World} {l : List (Int × Int × ByteArray)} {b L k : Nat} {n m : Int} {t : ByteArray} (h : TkAt w l b 0) (hk : l.length = k) (ht : w.there b 0 (L * 3)) (hL : k < L) :
    TkAt (w.setCells b (k * 3) [.int .i64 n, .int .i64 m, .string t]) (l ++ [(n, m, t)]) b 0 := by
  subst hk
  have hth : w.there b (l.length * 3) 3 := there_part ht (by omega)
  have hr := World.rangeAt_setCells_same w b (l.length * 3) [.int .i64 n, .int .i64 m, .string t] hth
  refine TkAt.app (h.congr fun o' _ h2 => World.cell?_setCells_out b _ _ w ⟨b, o', none⟩ (fun _ _ => Or.inl (by simp; omega))) ?_
  intro i hi
  obtain rfl : i = 0 := by simpa using hi
  refine ⟨?_, ?_, ?_⟩
  · have := hr 0 _ rfl; simpa using this
  · have := hr 1 _ rfl; simpa using this
  · have := hr 2 _ rfl; simpa using this

/-- A token of those that lie there is written anew: its kind, its number, its text. -/
theorem TkAt.setK {w : World} {l : List (Int × Int × ByteArray)} {b off k : Nat} {n m : Int} {t : ByteArray} (h : TkAt w l b off) (hk : k < l.length) (e : l[k] = (n, m, t)) (x : Int) :
    TkAt (w.setCell ⟨b, off + k * 3, none⟩ (.int .i64 x)) (l.set k (x, m, t)) b off := fun i hi => by
  have hi' : i < l.length := by simpa using hi
  have h0 := h i hi'
  by_cases hik : i = k
  · subst hik
    rw [e] at h0
    rw [List.getElem_set_self]
    exact ⟨World.cell?_setCell_same _ _ _ h0.1, by rw [World.cell?_setCell_other _ _ _ _ (by simp)]; exact h0.2.1, by rw [World.cell?_setCell_other _ _ _ _ (by simp)]; exact h0.2.2⟩
  · rw [List.getElem_set_ne (fun e => hik e.symm)]
    refine ⟨?_, ?_, ?_⟩
    · rw [World.cell?_setCell_other _ _ _ _ (by intro e; injection e with e1 e2; omega)]; exact h0.1
    · rw [World.cell?_setCell_other _ _ _ _ (by intro e; injection e with e1 e2; omega)]; exact h0.2.1
    · rw [World.cell?_setCell_other _ _ _ _ (by intro e; injection e with e1 e2; omega)]; exact h0.2.2
theorem TkAt.setN {w : World} {l : List (Int × Int × ByteArray)} {b off k : Nat} {n m : Int} {t : ByteArray} (h : TkAt w l b off) (hk : k < l.length) (e : l[k] = (n, m, t)) (x : Int) :
    TkAt (w.setCell ⟨b, off + k * 3 + 1, none⟩ (.int .i64 x)) (l.set k (n, x, t)) b off := fun i hi => by
  have hi' : i < l.length := by simpa using hi
  have h0 := h i hi'
  by_cases hik : i = k
  · subst hik
    rw [e] at h0
    rw [List.getElem_set_self]
    exact ⟨by rw [World.cell?_setCell_other _ _ _ _ (by simp)]; exact h0.1, World.cell?_setCell_same _ _ _ h0.2.1, by rw [World.cell?_setCell_other _ _ _ _ (by simp)]; exact h0.2.2⟩
  · rw [List.getElem_set_ne (fun e => hik e.symm)]
    refine ⟨?_, ?_, ?_⟩
    · rw [World.cell?_setCell_other _ _ _ _ (by intro e; injection e with e1 e2; omega)]; exact h0.1
    · rw [World.cell?_setCell_other _ _ _ _ (by intro e; injection e with e1 e2; omega)]; exact h0.2.1
    · rw [World.cell?_setCell_other _ _ _ _ (by intro e; injection e with e1 e2; omega)]; exact h0.2.2
end Go.Proofs.Ytcealfjkcbaelaa

