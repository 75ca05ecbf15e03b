/-
  Documents as plain data, and how they lie in memory; nothing here speaks of the program. 'F' is a list of documents: its first one by its fields and its Kids, and the rest.
-/
import Derived.WalkKit
import Derived.Lib.Hide
import Derived.Lib.Strings
import Derived.Deep.MidRow
set_option linter.unusedVariables false
set_option linter.unusedSimpArgs false
namespace Go.Proofs.Ytjpgnhpfmdjamaa
open Go.RowKit

/-- A list of documents. -/
inductive F where
  | nil : F
  | cons (op n : Int) (tx : ByteArray) (ks rest : F) : F

namespace F

def len : F → Nat
  | nil => 0
  | cons _ _ _ _ r => r.len + 1

def app : F → F → F
  | nil, g => g
  | cons o n t k r, g => cons o n t k (r.app g)

/-- the nodes and bytes of a list, each list's places counted: what the law's 'sz' counts -/
def size : F → Nat
  | nil => 0
  | cons _ _ t k r => 1 + t.size + k.size + r.size

/-- equality, as a test -/
def same : F → F → Bool
  | nil, nil => true
  | cons o n t k r, cons o' n' t' k' r' => decide (o = o') && decide (n = n') && decide (t = t') && k.same k' && r.same r'
  | nil, cons _ _ _ _ _ => false
  | cons _ _ _ _ _, nil => false

/-- how deep a list is -/
def deep : F → Nat
  | nil => 0
  | cons _ _ _ k r => max (k.deep + 1) r.deep

/-- every text and list is of a length that a machine can hold -/
def Fits : F → Prop
  | nil => True
  | cons _ _ t k r => t.size ≤ maxLen ∧ k.len ≤ maxLen ∧ k.Fits ∧ r.Fits

theorem Fits.app_iff {f g : F} : (f.app g).Fits ↔ f.Fits ∧ g.Fits := by
  induction f with
  | nil => simp [app, Fits]
  | cons o n t k r _ ih => simp [app, Fits, ih, and_assoc]

theorem len_app (f g : F) : (f.app g).len = f.len + g.len := by
  induction f with
  | nil => simp [app, len]
  | cons o n t k r _ ih => simp [app, len, ih]; omega

theorem app_nil (f : F) : f.app nil = f := by
  induction f with
  | nil => rfl
  | cons o n t k r _ ih => simp [app, ih]

theorem app_assoc (f g h : F) : (f.app g).app h = f.app (g.app h) := by
  induction f with
  | nil => rfl
  | cons o n t k r _ ih => simp [app, ih]

theorem size_app (f g : F) : (f.app g).size = f.size + g.size := by
  induction f with
  | nil => simp [app, size]
  | cons o n t k r _ ih => simp [app, size, ih]; omega

theorem deep_app (f g : F) : (f.app g).deep = max f.deep g.deep := by
  induction f with
  | nil => simp [app, deep]
  | cons o n t k r _ ih => simp only [app, deep, ih]; omega

theorem len_le_size (f : F) : f.len ≤ f.size := by
  induction f with
  | nil => simp [len, size]
  | cons o n t k r _ ih => simp [len, size]; omega

theorem len_eq_zero {f : F} (h : f.len = 0) : f = nil := by
  cases f with
  | nil => rfl
  | cons => simp [len] at h

theorem same_iff {f : F} : ∀ {g : F}, f.same g = true ↔ f = g := by
  induction f with
  | nil => intro g; cases g <;> simp [same]
  | cons o n t k r ihk ihr => intro g; cases g <;> simp [same, ihk, ihr, and_assoc]

theorem same_self (f : F) : f.same f = true := same_iff.2 rfl

theorem same_app (p : F) {f g : F} : (p.app f).same (p.app g) = f.same g := by
  induction p with
  | nil => rfl
  | cons o n t k r _ ih => simp [app, same, ih, same_self]

theorem same_len {f g : F} (h : f.len ≠ g.len) : f.same g = false := by
  cases hs : f.same g with
  | false => rfl
  | true => exact absurd (by rw [same_iff.1 hs]) h

end F

/-- Two documents, by their fields and Kids, are equal. -/
def sameD (o n : Int) (t : ByteArray) (k : F) (o' n' : Int) (t' : ByteArray) (k' : F) : Bool := decide (o = o') && decide (n = n') && decide (t = t') && k.same k'

theorem sameD_yes (o n : Int) (t : ByteArray) (k k' : F) : sameD o n t k o n t k' = k.same k' := by simp [sameD]
theorem sameD_no1 {o o' : Int} (h : o ≠ o') (n : Int) (t : ByteArray) (k : F) (n' : Int) (t' : ByteArray) (k' : F) : sameD o n t k o' n' t' k' = false := by simp [sameD, h]
theorem sameD_no2 {n n' : Int} (h : n ≠ n') (o : Int) (t : ByteArray) (k : F) (o' : Int) (t' : ByteArray) (k' : F) : sameD o n t k o' n' t' k' = false := by simp [sameD, h]
theorem sameD_no3 {t t' : ByteArray} (h : t ≠ t') (o n : Int) (k : F) (o' n' : Int) (k' : F) : sameD o n t k o' n' t' k' = false := by simp [sameD, h]
theorem same_cons {o n : Int} {t : ByteArray} {k r : F} {o' n' : Int} {t' : ByteArray} {k' r' : F} : (F.cons o n t k r).same (.cons o' n' t' k' r') = (sameD o n t k o' n' t' k' && r.same r') := rfl
theorem sameD_iff {o n : Int} {t : ByteArray} {k : F} {o' n' : Int} {t' : ByteArray} {k' : F} : sameD o n t k o' n' t' k' = true ↔ o = o' ∧ n = n' ∧ t = t' ∧ k = k' := by simp [sameD, F.same_iff, and_assoc]

theorem bytes_ne {t t' : ByteArray} (h : t ≠ t') : (t.toList == t'.toList) = false := by
  rw [beq_eq_false_iff_ne]
  intro e
  apply h
  rw [Lib.toList_data, Lib.toList_data] at e
  cases t; cases t'
  simp at e
  rw [e]

/-- The list f lies in block b from cell off on, four cells a document; fs: the blocks of all lists of Kids that are not empty, in order. -/
def RowAt (w : World) : F → Nat → Nat → List Nat → Prop
  | .nil, _, _, fs => fs = []
  | .cons op n tx ks rest, b, off, fs => ∃ (a : Option Addr) (cap : Nat) (f1 f2 : List Nat),
      w.cell? ⟨b, off, none⟩ = some (.int .i64 op) ∧ w.cell? ⟨b, off + 1, none⟩ = some (.int .i64 n) ∧ w.cell? ⟨b, off + 2, none⟩ = some (.string tx) ∧
      w.cell? ⟨b, off + 3, none⟩ = some (.slice a ks.len cap) ∧ ks.len ≤ cap ∧
      ((ks = .nil ∧ f1 = []) ∨ (∃ b' off' f', a = some ⟨b', off', none⟩ ∧ ks ≠ .nil ∧ f1 = b' :: f' ∧ RowAt w ks b' off' f')) ∧
      RowAt w rest b (off + 4) f2 ∧ fs = f1 ++ f2

/-- The array behind a slice holds f. -/
def SubAt (w : World) (a : Option Addr) (f : F) (fs : List Nat) : Prop :=
  (f = .nil ∧ fs = []) ∨ (∃ b off f', a = some ⟨b, off, none⟩ ∧ f ≠ .nil ∧ fs = b :: f' ∧ RowAt w f b off f')

theorem RowAt.cons_iff {w : World} {op n : Int} {tx : ByteArray} {ks rest : F} {b off : Nat} {fs : List Nat} : RowAt w (.cons op n tx ks rest) b off fs ↔ ∃ (a : Option Addr) (cap : Nat) (f1 f2 : List Nat),
      w.cell? ⟨b, off, none⟩ = some (.int .i64 op) ∧ w.cell? ⟨b, off + 1, none⟩ = some (.int .i64 n) ∧ w.cell? ⟨b, off + 2, none⟩ = some (.string tx) ∧
      w.cell? ⟨b, off + 3, none⟩ = some (.slice a ks.len cap) ∧ ks.len ≤ cap ∧ SubAt w a ks f1 ∧ RowAt w rest b (off + 4) f2 ∧ fs = f1 ++ f2 := by
  rw [RowAt]; rfl

theorem RowAt.app_iff {w : World} {f g : F} : ∀ {b off : Nat} {fs : List Nat}, RowAt w (f.app g) b off fs ↔ ∃ f1 f2, RowAt w f b off f1 ∧ RowAt w g b (off + 4 * f.len) f2 ∧ fs = f1 ++ f2 := by
  induction f with
  | nil =>
    intro b off fs
    constructor
    · intro h; exact ⟨[], fs, rfl, by simpa [F.len, F.app] using h, rfl⟩
    · rintro ⟨f1, f2, rfl, h, rfl⟩; simpa [F.len, F.app] using h
  | cons o n t k r _ ih =>
    intro b off fs
    rw [F.app, RowAt.cons_iff]
    constructor
    · rintro ⟨a, cap, f1, f2, h1, h2, h3, h4, h5, h6, h7, rfl⟩
      obtain ⟨g1, g2, h8, h9, rfl⟩ := ih.1 h7
      exact ⟨f1 ++ g1, g2, RowAt.cons_iff.2 ⟨a, cap, f1, g1, h1, h2, h3, h4, h5, h6, h8, rfl⟩, by simp only [F.len]; rw [show off + 4 * (r.len + 1) = off + 4 + 4 * r.len by omega]; exact h9, by simp⟩
    · rintro ⟨f1, f2, h, h9, rfl⟩
      obtain ⟨a, cap, g1, g2, h1, h2, h3, h4, h5, h6, h7, rfl⟩ := RowAt.cons_iff.1 h
      exact ⟨a, cap, g1, g2 ++ f2, h1, h2, h3, h4, h5, h6, ih.2 ⟨g2, f2, h7, by simp only [F.len] at h9; rw [show off + 4 * (r.len + 1) = off + 4 + 4 * r.len by omega] at h9; exact h9, rfl⟩, by simp⟩

theorem row_at {w : World} {p : F} {b off : Nat} {fs : List Nat} {o n : Int} {t : ByteArray} {k r : F} (h : RowAt w (p.app (.cons o n t k r)) b off fs) :
    ∃ (a : Option Addr) (cap : Nat) (f1 : List Nat), w.cell? ⟨b, off + p.len * 4, none⟩ = some (.int .i64 o) ∧ w.cell? ⟨b, off + p.len * 4 + 1, none⟩ = some (.int .i64 n) ∧ w.cell? ⟨b, off + p.len * 4 + 2, none⟩ = some (.string t) ∧
      w.cell? ⟨b, off + p.len * 4 + 3, none⟩ = some (.slice a k.len cap) ∧ k.len ≤ cap ∧ SubAt w a k f1 ∧ (∀ c ∈ f1, c ∈ fs) := by
  obtain ⟨f1, f2, _, h2, rfl⟩ := RowAt.app_iff.1 h
  rw [Nat.mul_comm 4] at h2
  obtain ⟨a, cap, g1, g2, h3, h4, h5, h6, h7, h8, _, rfl⟩ := RowAt.cons_iff.1 h2
  exact ⟨a, cap, g1, h3, h4, h5, h6, h7, h8, fun c hc => by simp [hc]⟩

/-- A list lies where the same cells hold the same. -/
theorem RowAt.congr' {w w' : World} {f : F} : ∀ {b off : Nat} {fs : List Nat}, RowAt w f b off fs → (∀ o, off ≤ o → o < off + 4 * f.len → w'.cell? ⟨b, o, none⟩ = w.cell? ⟨b, o, none⟩) → (∀ c ∈ fs, ∀ o, w'.cell? ⟨c, o, none⟩ = w.cell? ⟨c, o, none⟩) → RowAt w' f b off fs := by
  induction f with
  | nil => intro b off fs h _ _; exact h
  | cons o n t k r ihk ihr =>
    intro b off fs h hb hfs
    simp only [F.len] at hb
    obtain ⟨a, cap, f1, f2, h1, h2, h3, h4, h5, h6, h7, rfl⟩ := RowAt.cons_iff.1 h
    refine RowAt.cons_iff.2 ⟨a, cap, f1, f2, by rw [hb _ (by omega) (by omega)]; exact h1, by rw [hb _ (by omega) (by omega)]; exact h2, by rw [hb _ (by omega) (by omega)]; exact h3, by rw [hb _ (by omega) (by omega)]; exact h4, h5, ?_, ihr h7 (fun o h1 h2 => hb o (by omega) (by omega)) (fun c hc => hfs c (by simp [hc])), rfl⟩
    rcases h6 with h6 | ⟨b', off', f', ha, hk, rfl, h8⟩
    · exact .inl h6
    · exact .inr ⟨b', off', f', ha, hk, rfl, ihk h8 (fun o _ _ => hfs b' (by simp) o) (fun c hc => hfs c (by simp [hc]))⟩

theorem RowAt.congr {w w' : World} {f : F} {b off : Nat} {fs : List Nat} (h : RowAt w f b off fs) (hb : ∀ o, w'.cell? ⟨b, o, none⟩ = w.cell? ⟨b, o, none⟩) (hfs : ∀ c ∈ fs, ∀ o, w'.cell? ⟨c, o, none⟩ = w.cell? ⟨c, o, none⟩) : RowAt w' f b off fs :=
  h.congr' (fun o _ _ => hb o) hfs

theorem SubAt.congr {w w' : World} {a : Option Addr} {f : F} {fs : List Nat} (h : SubAt w a f fs) (hfs : ∀ c ∈ fs, ∀ o, w'.cell? ⟨c, o, none⟩ = w.cell? ⟨c, o, none⟩) : SubAt w' a f fs := by
  rcases h with h | ⟨b', off', f', ha, hk, rfl, h8⟩
  · exact .inl h
  · exact .inr ⟨b', off', f', ha, hk, rfl, h8.congr (hfs b' (by simp)) (fun c hc => hfs c (by simp [hc]))⟩

theorem RowAt.below {w w' : World} {f : F} {b off B : Nat} {fs : List Nat} (h : RowAt w f b off fs) (hb : b < B) (hfs : ∀ c ∈ fs, c < B) (k : Below B w w') : RowAt w' f b off fs :=
  h.congr (fun _ => k.cell (p := ⟨_, _, _⟩) hb) (fun c hc _ => k.cell (p := ⟨_, _, _⟩) (hfs c hc))

theorem SubAt.below {w w' : World} {a : Option Addr} {f : F} {B : Nat} {fs : List Nat} (h : SubAt w a f fs) (hfs : ∀ c ∈ fs, c < B) (k : Below B w w') : SubAt w' a f fs :=
  h.congr (fun c hc _ => k.cell (p := ⟨_, _, _⟩) (hfs c hc))

/-- The blocks fs are the call's own: each once, from lo on, and may be written. -/
def Fresh (lo : Nat) (w : World) (fs : List Nat) : Prop := fs.Nodup ∧ ∀ c ∈ fs, lo ≤ c ∧ c < w.heap.size ∧ ∀ o, w.frozen? ⟨c, o, none⟩ = false

theorem Fresh.nil (lo : Nat) (w : World) : Fresh lo w [] := ⟨List.nodup_nil, fun c hc => by cases hc⟩
theorem Fresh.lt {lo : Nat} {w : World} {fs : List Nat} (h : Fresh lo w fs) : ∀ c ∈ fs, c < w.heap.size := fun c hc => (h.2 c hc).2.1
theorem Fresh.mono {lo lo' : Nat} {w : World} {fs : List Nat} (h : Fresh lo w fs) (hl : lo' ≤ lo) : Fresh lo' w fs := ⟨h.1, fun c hc => ⟨Nat.le_trans hl (h.2 c hc).1, (h.2 c hc).2⟩⟩
theorem Fresh.below {lo : Nat} {w w' : World} {fs : List Nat} {B : Nat} (h : Fresh lo w fs) (hB : ∀ c ∈ fs, c < B) (k : Below B w w') : Fresh lo w' fs :=
  ⟨h.1, fun c hc => ⟨(h.2 c hc).1, Nat.lt_of_lt_of_le (h.2 c hc).2.1 k.size, fun o => by rw [k.frozen (p := ⟨_, _, _⟩) (hB c hc)]; exact (h.2 c hc).2.2 o⟩⟩
theorem Fresh.app {lo hi : Nat} {w : World} {fs gs : List Nat} (h : Fresh lo w fs) (hf : ∀ c ∈ fs, c < hi) (k : Fresh hi w gs) (hlh : lo ≤ hi) : Fresh lo w (fs ++ gs) :=
  ⟨List.nodup_append.2 ⟨h.1, k.1, fun a ha b hb e => by have := hf a ha; have := (k.2 b hb).1; omega⟩, fun c hc => by
    rcases List.mem_append.1 hc with hc | hc
    · exact h.2 c hc
    · exact ⟨Nat.le_trans hlh (k.2 c hc).1, (k.2 c hc).2⟩⟩
theorem Fresh.cons {lo b hi : Nat} {w : World} {fs : List Nat} (hb : lo ≤ b) (hw : b < w.heap.size) (hz : ∀ o, w.frozen? ⟨b, o, none⟩ = false) (k : Fresh hi w fs) (hh : b < hi) : Fresh lo w (b :: fs) :=
  ⟨List.nodup_cons.2 ⟨fun hm => by have := (k.2 b hm).1; omega, k.1⟩, fun c hc => by
    rcases List.mem_cons.1 hc with rfl | hc
    · exact ⟨hb, hw, hz⟩
    · exact ⟨by have := (k.2 c hc).1; omega, (k.2 c hc).2⟩⟩
theorem Fresh.alike {lo : Nat} {w w' : World} {fs : List Nat} (h : Fresh lo w fs) (hs : w.heap.size ≤ w'.heap.size) (hz : ∀ c ∈ fs, ∀ o, w'.frozen? ⟨c, o, none⟩ = w.frozen? ⟨c, o, none⟩) : Fresh lo w' fs :=
  ⟨h.1, fun c hc => ⟨(h.2 c hc).1, Nat.lt_of_lt_of_le (h.2 c hc).2.1 hs, fun o => by rw [hz c hc]; exact (h.2 c hc).2.2 o⟩⟩

theorem there_below {w w' : World} {b o n B : Nat} (h : w.there b o n) (hb : b < B) (k : Below B w w') : w'.there b o n := fun j hj =>
  ⟨by rw [k.cell (p := ⟨_, _, _⟩) hb]; exact (h j hj).1, by rw [k.frozen (p := ⟨_, _, _⟩) hb]; exact (h j hj).2⟩
theorem there_part {w : World} {b o n m : Nat} (h : w.there b 0 n) (hm : o + m ≤ n) : w.there b o m := fun j hj => by
  have := h (o + j) (by omega)
  rwa [Nat.zero_add] at this
theorem there_new (w : World) (C : Array Value) (t : TypeId) (n : Nat) (h : n ≤ C.size) : (w.alloc (.cells C t)).there w.heap.size 0 n := fun j hj => by
  constructor
  · rw [World.cell?_alloc_new]; simp; omega
  · exact World.frozen?_alloc_new _ _ _ _

/-- One document more behind a list that lies there. -/
theorem RowAt.put {w : World} {p : F} {b : Nat} {fs f1 : List Nat} {L : Nat} {o n : Int} {t : ByteArray} {k : F} {a : Option Addr} {cap : Nat} (h : RowAt w p b 0 fs) (hb : ∀ c ∈ fs, c ≠ b) (hb1 : ∀ c ∈ f1, c ≠ b) (ht : w.there b 0 L) (hL : p.len * 4 + 4 ≤ L)
    (hs : SubAt w a k f1) (hc : k.len ≤ cap) :
    RowAt (w.setCells b (p.len * 4) [.int .i64 o, .int .i64 n, .string t, .slice a k.len cap]) (p.app (.cons o n t k .nil)) b 0 (fs ++ f1) := by
  have hth : w.there b (p.len * 4) 4 := there_part ht hL
  have hr := World.rangeAt_setCells_same w b (p.len * 4) [.int .i64 o, .int .i64 n, .string t, .slice a k.len cap] hth
  have out : ∀ c, c ≠ b → ∀ o', (w.setCells b (p.len * 4) [.int .i64 o, .int .i64 n, .string t, .slice a k.len cap]).cell? ⟨c, o', none⟩ = w.cell? ⟨c, o', none⟩ := fun c hcb o' => World.cell?_setCells_out b _ _ w ⟨c, o', none⟩ (fun e => absurd e hcb)
  refine RowAt.app_iff.2 ⟨fs, f1, h.congr' (fun o' _ h2 => World.cell?_setCells_out b _ _ w ⟨b, o', none⟩ (fun _ _ => Or.inl (by simp; omega))) (fun c hc => out c (hb c hc)), ?_, rfl⟩
  have e : 0 + 4 * p.len = p.len * 4 := by omega
  rw [e]
  exact RowAt.cons_iff.2 ⟨a, cap, f1, [], hr 0 _ rfl, hr 1 _ rfl, hr 2 _ rfl, hr 3 _ rfl, hc, hs.congr (fun c hc => out c (hb1 c hc)), rfl, by simp⟩

theorem Below.setCells {B : Nat} {a : World} {b : Nat} (hb : B ≤ b) : ∀ (vs : List Value) (o : Nat) (w : World), Below B a w → Below B a (w.setCells b o vs)
  | [], _, _, h => h
  | _ :: r, o, _, h => Below.setCells hb r (o + 1) _ (h.setCell (p := ⟨b, o, none⟩) hb _)

theorem size_setCells (b : Nat) : ∀ (vs : List Value) (o : Nat) (w : World), (w.setCells b o vs).heap.size = w.heap.size
  | [], _, _ => rfl
  | _ :: r, o, w => by rw [World.setCells, size_setCells b r]; simp

/-- From w to w' only the blocks from lo up to hi have been written. -/
structure Touch (lo hi : Nat) (w w' : World) : Prop where
  os : w'.os = w.os
  tape : w'.tape = w.tape
  output : w'.output = w.output
  size : w'.heap.size = w.heap.size
  block : ∀ k, (k < lo ∨ hi ≤ k) → w'.heap[k]? = w.heap[k]?

theorem Touch.refl (lo hi : Nat) (w : World) : Touch lo hi w w := ⟨rfl, rfl, rfl, rfl, fun _ _ => rfl⟩
theorem Touch.setCell {lo hi : Nat} {a w : World} (h : Touch lo hi a w) {p : Addr} (h1 : lo ≤ p.block) (h2 : p.block < hi) (u : Value) : Touch lo hi a (w.setCell p u) :=
  ⟨h.os, h.tape, h.output, by simp [h.size], fun k hk => by rw [Below.heap_setCell _ _ _ _ (by omega)]; exact h.block k hk⟩
theorem Touch.drew {lo hi : Nat} {a w : World} (h : Touch lo hi a w) : Touch lo hi a w.drew := ⟨h.os, h.tape, h.output, h.size, h.block⟩
theorem Touch.cell {lo hi : Nat} {w w' : World} (h : Touch lo hi w w') {c o : Nat} (hc : c < lo ∨ hi ≤ c) : w'.cell? ⟨c, o, none⟩ = w.cell? ⟨c, o, none⟩ := World.cell?_of_block (w := w) (h.block c hc)
theorem Touch.frozen {lo hi : Nat} {w w' : World} (h : Touch lo hi w w') {c o : Nat} (hc : c < lo ∨ hi ≤ c) : w'.frozen? ⟨c, o, none⟩ = w.frozen? ⟨c, o, none⟩ := World.frozen?_of_block (w := w) (h.block c hc)
theorem Touch.sub {lo hi : Nat} {w w' : World} (h : Touch lo hi w w') {a : Option Addr} {f : F} {fs : List Nat} (hs : SubAt w a f fs) (hc : ∀ c ∈ fs, c < lo ∨ hi ≤ c) : SubAt w' a f fs :=
  hs.congr (fun c hm _ => h.cell (hc c hm))
theorem Touch.fresh {lo hi : Nat} {w w' : World} (h : Touch lo hi w w') {B : Nat} {fs : List Nat} (hs : Fresh B w fs) (hc : ∀ c ∈ fs, c < lo ∨ hi ≤ c) : Fresh B w' fs :=
  hs.alike (Nat.le_of_eq h.size.symm) (fun c hm _ => h.frozen (hc c hm))
theorem Touch.below {lo hi : Nat} {w w' : World} (h : Touch lo hi w w') {B : Nat} {a : World} (hb : Below B a w) (hB : B ≤ lo) : Below B a w' :=
  hb.trans ⟨h.os, h.tape, h.output, Nat.le_of_eq h.size.symm, fun k hk => h.block k (Or.inl (by omega))⟩

/-- Below block B the world w' is as w was, but for block x. -/
structure But (B x : Nat) (w w' : World) : Prop where
  os : w'.os = w.os
  tape : w'.tape = w.tape
  output : w'.output = w.output
  size : w.heap.size ≤ w'.heap.size
  block : ∀ k, k < B → k ≠ x → w'.heap[k]? = w.heap[k]?

theorem But.refl (B x : Nat) (w : World) : But B x w w := ⟨rfl, rfl, rfl, Nat.le_refl _, fun _ _ _ => rfl⟩
theorem But.trans {B x : Nat} {a b c : World} (h : But B x a b) (k : But B x b c) : But B x a c :=
  ⟨k.os.trans h.os, k.tape.trans h.tape, k.output.trans h.output, Nat.le_trans h.size k.size, fun i hi hx => (k.block i hi hx).trans (h.block i hi hx)⟩
theorem But.of_below {B x : Nat} {a b : World} (h : Below B a b) : But B x a b := ⟨h.os, h.tape, h.output, h.size, fun k hk _ => h.block k hk⟩
theorem But.below {B x C : Nat} {a b : World} (h : But B x a b) (hC : C ≤ B) (hx : C ≤ x) : Below C a b := ⟨h.os, h.tape, h.output, h.size, fun k hk => h.block k (by omega) (by omega)⟩
theorem But.mono {B C x : Nat} {a b : World} (h : But B x a b) (hC : C ≤ B) : But C x a b := ⟨h.os, h.tape, h.output, h.size, fun k hk hx => h.block k (by omega) hx⟩
theorem But.drew {B x : Nat} {a w : World} (h : But B x a w) : But B x a w.drew := ⟨h.os, h.tape, h.output, h.size, h.block⟩
theorem But.alloc {B x : Nat} {a w : World} (h : But B x a w) (hB : B ≤ w.heap.size) (o : Obj) : But B x a (w.alloc o) :=
  h.trans ⟨rfl, rfl, rfl, by simp, fun k hk _ => Below.heap_alloc _ _ _ (by omega)⟩
theorem But.setCell {B x : Nat} {a w : World} (h : But B x a w) {p : Addr} (hp : p.block = x ∨ B ≤ p.block) (u : Value) : But B x a (w.setCell p u) :=
  h.trans ⟨rfl, rfl, rfl, by simp [World.setCell], fun k hk hx => Below.heap_setCell _ _ _ _ (by omega)⟩
theorem But.cell {B x : Nat} {w w' : World} (h : But B x w w') {c o : Nat} (hc : c < B) (hx : c ≠ x) : w'.cell? ⟨c, o, none⟩ = w.cell? ⟨c, o, none⟩ := World.cell?_of_block (w := w) (h.block c hc hx)
theorem But.frozen {B x : Nat} {w w' : World} (h : But B x w w') {c o : Nat} (hc : c < B) (hx : c ≠ x) : w'.frozen? ⟨c, o, none⟩ = w.frozen? ⟨c, o, none⟩ := World.frozen?_of_block (w := w) (h.block c hc hx)
theorem But.sub {B x : Nat} {w w' : World} (h : But B x w w') {a : Option Addr} {f : F} {fs : List Nat} (hs : SubAt w a f fs) (hc : ∀ c ∈ fs, c < B ∧ c ≠ x) : SubAt w' a f fs :=
  hs.congr (fun c hm _ => h.cell (hc c hm).1 (hc c hm).2)

end Go.Proofs.Ytjpgnhpfmdjamaa
