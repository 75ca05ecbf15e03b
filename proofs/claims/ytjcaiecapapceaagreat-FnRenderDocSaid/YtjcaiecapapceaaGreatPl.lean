import Derived.WalkKit
import Derived.Lib.IndexLaws
import Derived.Lib.IndexAny
import Derived.Lib.Hide
import Derived.Lib.Strings
import Derived.Deep.MidRow
import Derived.Maps.Own
import Derived.Maps.OwnOps
import Derived.LaidEqlPtr
import Derived.Laws.AppendOwn
import Derived.ChangeKeysEq
/-
 Plain facts about the bytes and lengths of texts of documents; nothing here speaks of the program.
-/
set_option linter.unusedVariables false
set_option linter.unusedSimpArgs false
namespace Go.Proofs.YtjcaiecapapceaaGreat
theorem zpu {α : Type} : (∀ (l : List α) (i : Nat) (a : α), l.toArray.setIfInBounds i a = (l.set i a).toArray) ∧ (∀ (x : α) (l : List α) (a : α), (x :: l).set 0 a = a :: l) ∧ (∀ (x : α) (l : List α) (i : Nat) (a : α), (x :: l).set (i + 1) a = x :: l.set i a) :=
 ⟨fun _ _ _ => by simp, fun _ _ _ => rfl, fun _ _ _ _ => rfl⟩
end Go.Proofs.YtjcaiecapapceaaGreat
namespace Go.Proofs.YtjcaiecapapceaaGreat.P1
def tb (c : UInt8) : Bool := (97 ≤ c && c ≤ 122) || (48 ≤ c && c ≤ 57) || ([44, 58, 61, 123, 125, 40, 41, 91, 93] : List UInt8).contains c
def tv (l : List UInt8) : Bool := decide (1 ≤ l.length) && decide (l.length ≤ 12) && l.all tb
theorem tv_len {l : List UInt8} (h : tv l = true) : 1 ≤ l.length ∧ l.length ≤ 12 := by
 simp [tv] at h; exact h.1
theorem tv_short {l : List UInt8} (h : l.length < 1) : tv l = false := by
 simp [tv]; intro h1; omega
theorem tv_long {l : List UInt8} (h : 12 < l.length) : tv l = false := by
 simp [tv]; intro h1; omega
theorem tv_of {l : List UInt8} (h1 : 1 ≤ l.length) (h2 : l.length ≤ 12) : tv l = l.all tb := by
 simp [tv, h1, h2]
theorem u8_le (a b : UInt8) : decide (a ≤ b) = decide ((a.toNat : Int) ≤ (b.toNat : Int)) := by
 rw [Bool.eq_iff_iff]; simp [UInt8.le_iff_toNat_le]
theorem u8_beq (a b : UInt8) : (a == b) = ((a.toNat : Int) == (b.toNat : Int)) := by
 rw [Bool.eq_iff_iff]; simp only [beq_iff_eq, ← UInt8.toNat_inj]; omega
theorem tb_num (c : UInt8) : tb c = ((decide (97 ≤ (c.toNat : Int)) && decide ((c.toNat : Int) ≤ 122)) || (decide (48 ≤ (c.toNat : Int)) && decide ((c.toNat : Int) ≤ 57)) ||
  ((c.toNat : Int) == 44 || (c.toNat : Int) == 58 || (c.toNat : Int) == 61 || (c.toNat : Int) == 123 || (c.toNat : Int) == 125 || (c.toNat : Int) == 40 || (c.toNat : Int) == 41 || (c.toNat : Int) == 91 || (c.toNat : Int) == 93)) := by
 simp only [tb, u8_le, List.contains_cons, List.contains_nil, u8_beq, Bool.or_false, Bool.or_assoc]
 rfl
theorem tb_yes (c : UInt8) (h : (97 ≤ (c.toNat : Int) ∧ (c.toNat : Int) ≤ 122) ∨ (48 ≤ (c.toNat : Int) ∧ (c.toNat : Int) ≤ 57) ∨ (c.toNat : Int) = 44 ∨ (c.toNat : Int) = 58 ∨ (c.toNat : Int) = 61 ∨ (c.toNat : Int) = 123 ∨ (c.toNat : Int) = 125 ∨ (c.toNat : Int) = 40 ∨ (c.toNat : Int) = 41 ∨ (c.toNat : Int) = 91 ∨ (c.toNat : Int) = 93) : tb c = true := by
 rw [tb_num]; simp; omega
theorem tb_no (c : UInt8) (h1 : ¬ (97 ≤ (c.toNat : Int) ∧ (c.toNat : Int) ≤ 122)) (h2 : ¬ (48 ≤ (c.toNat : Int) ∧ (c.toNat : Int) ≤ 57)) (h3 : (c.toNat : Int) ≠ 44 ∧ (c.toNat : Int) ≠ 58 ∧ (c.toNat : Int) ≠ 61 ∧ (c.toNat : Int) ≠ 123 ∧ (c.toNat : Int) ≠ 125 ∧ (c.toNat : Int) ≠ 40 ∧ (c.toNat : Int) ≠ 41 ∧ (c.toNat : Int) ≠ 91 ∧ (c.toNat : Int) ≠ 93) : tb c = false := by
 rw [tb_num]; simp; omega
theorem tb_index (c : UInt8) (h1 : ¬ (97 ≤ (c.toNat : Int) ∧ (c.toNat : Int) ≤ 122)) (h2 : ¬ (48 ≤ (c.toNat : Int) ∧ (c.toNat : Int) ≤ 57)) :
  tb c = decide (0 ≤ Lib.indexByte [44, 58, 61, 123, 125, 40, 41, 91, 93] c) := by
 rw [← Lib.contains_iff_indexByte]
 have e1 : (decide (97 ≤ c) && decide (c ≤ 122)) = false := by
  rw [u8_le, u8_le]; simp; intro h; show 122 < (c.toNat : Int); omega
 have e2 : (decide (48 ≤ c) && decide (c ≤ 57)) = false := by
  rw [u8_le, u8_le]; simp; intro h; show 57 < (c.toNat : Int); omega
 simp only [tb, e1, e2, Bool.false_or]
theorem take_all_snoc (s : ByteArray) (k : Nat) (h : k < s.size) (p : UInt8 → Bool) :
  (s.data.toList.take (k + 1)).all p = ((s.data.toList.take k).all p && p s[k]) := by
 rw [List.take_succ_eq_append_getElem (by simpa using h)]
 simp only [List.all_append, List.all_cons, List.all_nil, Bool.and_true]; rfl
theorem all_stop (s : ByteArray) (k : Nat) (h : k < s.size) (p : UInt8 → Bool) (hp : p s[k] = false) : s.data.toList.all p = false := by
 have h1 : ((s.data.toList.take (k + 1)).all p) = false := by rw [take_all_snoc s k h]; simp [hp]
 rw [← List.take_append_drop (k + 1) s.data.toList, List.all_append, h1, Bool.false_and]
theorem signs_no (x : Int) (h : x ≠ 44 ∧ x ≠ 58 ∧ x ≠ 61 ∧ x ≠ 123 ∧ x ≠ 125 ∧ x ≠ 40 ∧ x ≠ 41 ∧ x ≠ 91 ∧ x ≠ 93) :
  (x == 44) = false ∧ (x == 58) = false ∧ (x == 61) = false ∧ (x == 123) = false ∧ (x == 125) = false ∧ (x == 40) = false ∧ (x == 41) = false ∧ (x == 91) = false ∧ (x == 93) = false := by
 simp; exact h
theorem byte_ways (x : Int) : (97 ≤ x ∧ x ≤ 122) ∨ (48 ≤ x ∧ x ≤ 57) ∨ x = 44 ∨ x = 58 ∨ x = 61 ∨ x = 123 ∨ x = 125 ∨ x = 40 ∨ x = 41 ∨ x = 91 ∨ x = 93 ∨
  ((x < 48 ∨ (57 < x ∧ x < 97) ∨ 122 < x) ∧ x ≠ 44 ∧ x ≠ 58 ∧ x ≠ 61 ∧ x ≠ 123 ∧ x ≠ 125 ∧ x ≠ 40 ∧ x ≠ 41 ∧ x ≠ 91 ∧ x ≠ 93) := by omega
end Go.Proofs.YtjcaiecapapceaaGreat.P1
namespace Go.Proofs.YtjcaiecapapceaaGreat
open Go.RowKit
inductive F where
 | nil : F
 | cons (op n : Int) (tx : ByteArray) (ks rest : F) : F
namespace F
def len : F → Nat
 | nil => 0
 | cons _ _ _ _ r => r.len + 1
def app : F → F → F
 | nil, g => g
 | cons o n t k r, g => cons o n t k (r.app g)
def size : F → Nat
 | nil => 0
 | cons _ _ t k r => 1 + t.size + k.size + r.size
def same : F → F → Bool
 | nil, nil => true
 | cons o n t k r, cons o' n' t' k' r' => decide (o = o') && decide (n = n') && decide (t = t') && k.same k' && r.same r'
 | nil, cons _ _ _ _ _ => false
 | cons _ _ _ _ _, nil => false
def deep : F → Nat
 | nil => 0
 | cons _ _ _ k r => max (k.deep + 1) r.deep
def Fits : F → Prop
 | nil => True
 | cons _ _ t k r => t.size ≤ maxLen ∧ k.len ≤ maxLen ∧ k.Fits ∧ r.Fits
theorem Fits.app_iff {f g : F} : (f.app g).Fits ↔ f.Fits ∧ g.Fits := by
 induction f with
 | nil => simp [app, Fits]
 | cons o n t k r _ ih => simp [app, Fits, ih, and_assoc]
theorem len_app (f g : F) : (f.app g).len = f.len + g.len := by
 induction f with
 | nil => simp [app, len]
 | cons o n t k r _ ih => simp [app, len, ih]; omega
theorem app_nil (f : F) : f.app nil = f := by
 induction f with
 | nil => rfl
 | cons o n t k r _ ih => simp [app, ih]
theorem app_assoc (f g h : F) : (f.app g).app h = f.app (g.app h) := by
 induction f with
 | nil => rfl
 | cons o n t k r _ ih => simp [app, ih]
theorem size_app (f g : F) : (f.app g).size = f.size + g.size := by
 induction f with
 | nil => simp [app, size]
 | cons o n t k r _ ih => simp [app, size, ih]; omega
theorem deep_app (f g : F) : (f.app g).deep = max f.deep g.deep := by
 induction f with
 | nil => simp [app, deep]
 | cons o n t k r _ ih => simp only [app, deep, ih]; omega
theorem len_le_size (f : F) : f.len ≤ f.size := by
 induction f with
 | nil => simp [len, size]
 | cons o n t k r _ ih => simp [len, size]; omega
theorem len_eq_zero {f : F} (h : f.len = 0) : f = nil := by
 cases f with
 | nil => rfl
 | cons => simp [len] at h
end F
theorem bytes_ne {t t' : ByteArray} (h : t ≠ t') : (t.toList == t'.toList) = false := by
 rw [beq_eq_false_iff_ne]
 intro e
 apply h
 rw [Lib.toList_data, Lib.toList_data] at e
 cases t; cases t'
 simp at e
 rw [e]
def RowAt (w : World) : F → Nat → Nat → List Nat → Prop
 | .nil, _, _, fs => fs = []
 | .cons op n tx ks rest, b, off, fs => ∃ (a : Option Addr) (cap : Nat) (f1 f2 : List Nat),
   w.cell? ⟨b, off, none⟩ = some (.int .i64 op) ∧ w.cell? ⟨b, off + 1, none⟩ = some (.int .i64 n) ∧ w.cell? ⟨b, off + 2, none⟩ = some (.string tx) ∧
   w.cell? ⟨b, off + 3, none⟩ = some (.slice a ks.len cap) ∧ ks.len ≤ cap ∧
   ((ks = .nil ∧ f1 = []) ∨ (∃ b' off' f', a = some ⟨b', off', none⟩ ∧ ks ≠ .nil ∧ f1 = b' :: f' ∧ RowAt w ks b' off' f')) ∧
   RowAt w rest b (off + 4) f2 ∧ fs = f1 ++ f2
def SubAt (w : World) (a : Option Addr) (f : F) (fs : List Nat) : Prop :=
 (f = .nil ∧ fs = []) ∨ (∃ b off f', a = some ⟨b, off, none⟩ ∧ f ≠ .nil ∧ fs = b :: f' ∧ RowAt w f b off f')
theorem RowAt.cons_iff {w : World} {op n : Int} {tx : ByteArray} {ks rest : F} {b off : Nat} {fs : List Nat} : RowAt w (.cons op n tx ks rest) b off fs ↔ ∃ (a : Option Addr) (cap : Nat) (f1 f2 : List Nat),
   w.cell? ⟨b, off, none⟩ = some (.int .i64 op) ∧ w.cell? ⟨b, off + 1, none⟩ = some (.int .i64 n) ∧ w.cell? ⟨b, off + 2, none⟩ = some (.string tx) ∧
   w.cell? ⟨b, off + 3, none⟩ = some (.slice a ks.len cap) ∧ ks.len ≤ cap ∧ SubAt w a ks f1 ∧ RowAt w rest b (off + 4) f2 ∧ fs = f1 ++ f2 := by
 rw [RowAt]; rfl
theorem RowAt.app_iff {w : World} {f g : F} : ∀ {b off : Nat} {fs : List Nat}, RowAt w (f.app g) b off fs ↔ ∃ f1 f2, RowAt w f b off f1 ∧ RowAt w g b (off + 4 * f.len) f2 ∧ fs = f1 ++ f2 := by
 induction f with
 | nil =>
   intro b off fs
   constructor
   ·intro h; exact ⟨[], fs, rfl, by simpa [F.len, F.app] using h, rfl⟩
   ·rintro ⟨f1, f2, rfl, h, rfl⟩; simpa [F.len, F.app] using h
 | cons o n t k r _ ih =>
   intro b off fs
   rw [F.app, RowAt.cons_iff]
   constructor
   ·rintro ⟨a, cap, f1, f2, h1, h2, h3, h4, h5, h6, h7, rfl⟩
    obtain ⟨g1, g2, h8, h9, rfl⟩ := ih.1 h7
    exact ⟨f1 ++ g1, g2, RowAt.cons_iff.2 ⟨a, cap, f1, g1, h1, h2, h3, h4, h5, h6, h8, rfl⟩, by simp only [F.len]; rw [show off + 4 * (r.len + 1) = off + 4 + 4 * r.len by omega]; exact h9, by simp⟩
   ·rintro ⟨f1, f2, h, h9, rfl⟩
    obtain ⟨a, cap, g1, g2, h1, h2, h3, h4, h5, h6, h7, rfl⟩ := RowAt.cons_iff.1 h
    exact ⟨a, cap, g1, g2 ++ f2, h1, h2, h3, h4, h5, h6, ih.2 ⟨g2, f2, h7, by simp only [F.len] at h9; rw [show off + 4 * (r.len + 1) = off + 4 + 4 * r.len by omega] at h9; exact h9, rfl⟩, by simp⟩
theorem row_at {w : World} {p : F} {b off : Nat} {fs : List Nat} {o n : Int} {t : ByteArray} {k r : F} (h : RowAt w (p.app (.cons o n t k r)) b off fs) :
  ∃ (a : Option Addr) (cap : Nat) (f1 : List Nat), w.cell? ⟨b, off + p.len * 4, none⟩ = some (.int .i64 o) ∧ w.cell? ⟨b, off + p.len * 4 + 1, none⟩ = some (.int .i64 n) ∧ w.cell? ⟨b, off + p.len * 4 + 2, none⟩ = some (.string t) ∧
   w.cell? ⟨b, off + p.len * 4 + 3, none⟩ = some (.slice a k.len cap) ∧ k.len ≤ cap ∧ SubAt w a k f1 ∧ (∀ c ∈ f1, c ∈ fs) := by
 obtain ⟨f1, f2, _, h2, rfl⟩ := RowAt.app_iff.1 h
 rw [Nat.mul_comm 4] at h2
 obtain ⟨a, cap, g1, g2, h3, h4, h5, h6, h7, h8, _, rfl⟩ := RowAt.cons_iff.1 h2
 exact ⟨a, cap, g1, h3, h4, h5, h6, h7, h8, fun c hc => by simp [hc]⟩
theorem RowAt.congr' {w w' : World} {f : F} : ∀ {b off : Nat} {fs : List Nat}, RowAt w f b off fs → (∀ o, off ≤ o → o < off + 4 * f.len → w'.cell? ⟨b, o, none⟩ = w.cell? ⟨b, o, none⟩) → (∀ c ∈ fs, ∀ o, w'.cell? ⟨c, o, none⟩ = w.cell? ⟨c, o, none⟩) → RowAt w' f b off fs := by
 induction f with
 | nil => intro b off fs h _ _; exact h
 | cons o n t k r ihk ihr =>
   intro b off fs h hb hfs
   simp only [F.len] at hb
   obtain ⟨a, cap, f1, f2, h1, h2, h3, h4, h5, h6, h7, rfl⟩ := RowAt.cons_iff.1 h
   refine RowAt.cons_iff.2 ⟨a, cap, f1, f2, by rw [hb _ (by omega) (by omega)]; exact h1, by rw [hb _ (by omega) (by omega)]; exact h2, by rw [hb _ (by omega) (by omega)]; exact h3, by rw [hb _ (by omega) (by omega)]; exact h4, h5, ?_, ihr h7 (fun o h1 h2 => hb o (by omega) (by omega)) (fun c hc => hfs c (by simp [hc])), rfl⟩
   rcases h6 with h6 | ⟨b', off', f', ha, hk, rfl, h8⟩
   ·exact .inl h6
   ·exact .inr ⟨b', off', f', ha, hk, rfl, ihk h8 (fun o _ _ => hfs b' (by simp) o) (fun c hc => hfs c (by simp [hc]))⟩
theorem RowAt.congr {w w' : World} {f : F} {b off : Nat} {fs : List Nat} (h : RowAt w f b off fs) (hb : ∀ o, w'.cell? ⟨b, o, none⟩ = w.cell? ⟨b, o, none⟩) (hfs : ∀ c ∈ fs, ∀ o, w'.cell? ⟨c, o, none⟩ = w.cell? ⟨c, o, none⟩) : RowAt w' f b off fs :=
 h.congr' (fun o _ _ => hb o) hfs
theorem SubAt.congr {w w' : World} {a : Option Addr} {f : F} {fs : List Nat} (h : SubAt w a f fs) (hfs : ∀ c ∈ fs, ∀ o, w'.cell? ⟨c, o, none⟩ = w.cell? ⟨c, o, none⟩) : SubAt w' a f fs := by
 rcases h with h | ⟨b', off', f', ha, hk, rfl, h8⟩
 ·exact .inl h
 ·exact .inr ⟨b', off', f', ha, hk, rfl, h8.congr (hfs b' (by simp)) (fun c hc => hfs c (by simp [hc]))⟩
theorem RowAt.below {w w' : World} {f : F} {b off B : Nat} {fs : List Nat} (h : RowAt w f b off fs) (hb : b < B) (hfs : ∀ c ∈ fs, c < B) (k : Below B w w') : RowAt w' f b off fs :=
 h.congr (fun _ => k.cell (p := ⟨_, _, _⟩) hb) (fun c hc _ => k.cell (p := ⟨_, _, _⟩) (hfs c hc))
theorem SubAt.below {w w' : World} {a : Option Addr} {f : F} {B : Nat} {fs : List Nat} (h : SubAt w a f fs) (hfs : ∀ c ∈ fs, c < B) (k : Below B w w') : SubAt w' a f fs :=
 h.congr (fun c hc _ => k.cell (p := ⟨_, _, _⟩) (hfs c hc))
def Fresh (lo : Nat) (w : World) (fs : List Nat) : Prop := fs.Nodup ∧ ∀ c ∈ fs, lo ≤ c ∧ c < w.heap.size ∧ ∀ o, w.frozen? ⟨c, o, none⟩ = false
theorem Fresh.nil (lo : Nat) (w : World) : Fresh lo w [] := ⟨List.nodup_nil, fun c hc => by cases hc⟩
theorem Fresh.lt {lo : Nat} {w : World} {fs : List Nat} (h : Fresh lo w fs) : ∀ c ∈ fs, c < w.heap.size := fun c hc => (h.2 c hc).2.1
theorem Fresh.mono {lo lo' : Nat} {w : World} {fs : List Nat} (h : Fresh lo w fs) (hl : lo' ≤ lo) : Fresh lo' w fs := ⟨h.1, fun c hc => ⟨Nat.le_trans hl (h.2 c hc).1, (h.2 c hc).2⟩⟩
theorem Fresh.below {lo : Nat} {w w' : World} {fs : List Nat} {B : Nat} (h : Fresh lo w fs) (hB : ∀ c ∈ fs, c < B) (k : Below B w w') : Fresh lo w' fs :=
 ⟨h.1, fun c hc => ⟨(h.2 c hc).1, Nat.lt_of_lt_of_le (h.2 c hc).2.1 k.size, fun o => by rw [k.frozen (p := ⟨_, _, _⟩) (hB c hc)]; exact (h.2 c hc).2.2 o⟩⟩
theorem Fresh.app {lo hi : Nat} {w : World} {fs gs : List Nat} (h : Fresh lo w fs) (hf : ∀ c ∈ fs, c < hi) (k : Fresh hi w gs) (hlh : lo ≤ hi) : Fresh lo w (fs ++ gs) :=
 ⟨List.nodup_append.2 ⟨h.1, k.1, fun a ha b hb e => by have := hf a ha; have := (k.2 b hb).1; omega⟩, fun c hc => by
  rcases List.mem_append.1 hc with hc | hc
  ·exact h.2 c hc
  ·exact ⟨Nat.le_trans hlh (k.2 c hc).1, (k.2 c hc).2⟩⟩
theorem Fresh.cons {lo b hi : Nat} {w : World} {fs : List Nat} (hb : lo ≤ b) (hw : b < w.heap.size) (hz : ∀ o, w.frozen? ⟨b, o, none⟩ = false) (k : Fresh hi w fs) (hh : b < hi) : Fresh lo w (b :: fs) :=
 ⟨List.nodup_cons.2 ⟨fun hm => by have := (k.2 b hm).1; omega, k.1⟩, fun c hc => by
  rcases List.mem_cons.1 hc with rfl | hc
  ·exact ⟨hb, hw, hz⟩
  ·exact ⟨by have := (k.2 c hc).1; omega, (k.2 c hc).2⟩⟩
theorem Fresh.alike {lo : Nat} {w w' : World} {fs : List Nat} (h : Fresh lo w fs) (hs : w.heap.size ≤ w'.heap.size) (hz : ∀ c ∈ fs, ∀ o, w'.frozen? ⟨c, o, none⟩ = w.frozen? ⟨c, o, none⟩) : Fresh lo w' fs :=
 ⟨h.1, fun c hc => ⟨(h.2 c hc).1, Nat.lt_of_lt_of_le (h.2 c hc).2.1 hs, fun o => by rw [hz c hc]; exact (h.2 c hc).2.2 o⟩⟩
theorem there_below {w w' : World} {b o n B : Nat} (h : w.there b o n) (hb : b < B) (k : Below B w w') : w'.there b o n := fun j hj =>
 ⟨by rw [k.cell (p := ⟨_, _, _⟩) hb]; exact (h j hj).1, by rw [k.frozen (p := ⟨_, _, _⟩) hb]; exact (h j hj).2⟩
theorem there_part {w : World} {b o n m : Nat} (h : w.there b 0 n) (hm : o + m ≤ n) : w.there b o m := fun j hj => by
 have := h (o + j) (by omega)
 rwa [Nat.zero_add] at this
theorem there_new (w : World) (C : Array Value) (t : TypeId) (n : Nat) (h : n ≤ C.size) : (w.alloc (.cells C t)).there w.heap.size 0 n := fun j hj => by
 constructor
 ·rw [World.cell?_alloc_new]; simp; omega
 ·exact World.frozen?_alloc_new _ _ _ _
theorem Below.setCells {B : Nat} {a : World} {b : Nat} (hb : B ≤ b) : ∀ (vs : List Value) (o : Nat) (w : World), Below B a w → Below B a (w.setCells b o vs)
 | [], _, _, h => h
 | _ :: r, o, _, h => Below.setCells hb r (o + 1) _ (h.setCell (p := ⟨b, o, none⟩) hb _)
theorem size_setCells (b : Nat) : ∀ (vs : List Value) (o : Nat) (w : World), (w.setCells b o vs).heap.size = w.heap.size
 | [], _, _ => rfl
 | _ :: r, o, w => by rw [World.setCells, size_setCells b r]; simp
structure Touch (lo hi : Nat) (w w' : World) : Prop where
 os : w'.os = w.os
 tape : w'.tape = w.tape
 output : w'.output = w.output
 size : w'.heap.size = w.heap.size
 block : ∀ k, (k < lo ∨ hi ≤ k) → w'.heap[k]? = w.heap[k]?
theorem Touch.refl (lo hi : Nat) (w : World) : Touch lo hi w w := ⟨rfl, rfl, rfl, rfl, fun _ _ => rfl⟩
theorem Touch.setCell {lo hi : Nat} {a w : World} (h : Touch lo hi a w) {p : Addr} (h1 : lo ≤ p.block) (h2 : p.block < hi) (u : Value) : Touch lo hi a (w.setCell p u) :=
 ⟨h.os, h.tape, h.output, by simp [h.size], fun k hk => by rw [Below.heap_setCell _ _ _ _ (by omega)]; exact h.block k hk⟩
theorem Touch.cell {lo hi : Nat} {w w' : World} (h : Touch lo hi w w') {c o : Nat} (hc : c < lo ∨ hi ≤ c) : w'.cell? ⟨c, o, none⟩ = w.cell? ⟨c, o, none⟩ := World.cell?_of_block (w := w) (h.block c hc)
theorem Touch.frozen {lo hi : Nat} {w w' : World} (h : Touch lo hi w w') {c o : Nat} (hc : c < lo ∨ hi ≤ c) : w'.frozen? ⟨c, o, none⟩ = w.frozen? ⟨c, o, none⟩ := World.frozen?_of_block (w := w) (h.block c hc)
theorem Touch.sub {lo hi : Nat} {w w' : World} (h : Touch lo hi w w') {a : Option Addr} {f : F} {fs : List Nat} (hs : SubAt w a f fs) (hc : ∀ c ∈ fs, c < lo ∨ hi ≤ c) : SubAt w' a f fs :=
 hs.congr (fun c hm _ => h.cell (hc c hm))
theorem Touch.fresh {lo hi : Nat} {w w' : World} (h : Touch lo hi w w') {B : Nat} {fs : List Nat} (hs : Fresh B w fs) (hc : ∀ c ∈ fs, c < lo ∨ hi ≤ c) : Fresh B w' fs :=
 hs.alike (Nat.le_of_eq h.size.symm) (fun c hm _ => h.frozen (hc c hm))
theorem Touch.below {lo hi : Nat} {w w' : World} (h : Touch lo hi w w') {B : Nat} {a : World} (hb : Below B a w) (hB : B ≤ lo) : Below B a w' :=
 hb.trans ⟨h.os, h.tape, h.output, Nat.le_of_eq h.size.symm, fun k hk => h.block k (Or.inl (by omega))⟩
structure But (B x : Nat) (w w' : World) : Prop where
 os : w'.os = w.os
 tape : w'.tape = w.tape
 output : w'.output = w.output
 size : w.heap.size ≤ w'.heap.size
 block : ∀ k, k < B → k ≠ x → w'.heap[k]? = w.heap[k]?
theorem But.refl (B x : Nat) (w : World) : But B x w w := ⟨rfl, rfl, rfl, Nat.le_refl _, fun _ _ _ => rfl⟩
theorem But.trans {B x : Nat} {a b c : World} (h : But B x a b) (k : But B x b c) : But B x a c :=
 ⟨k.os.trans h.os, k.tape.trans h.tape, k.output.trans h.output, Nat.le_trans h.size k.size, fun i hi hx => (k.block i hi hx).trans (h.block i hi hx)⟩
theorem But.of_below {B x : Nat} {a b : World} (h : Below B a b) : But B x a b := ⟨h.os, h.tape, h.output, h.size, fun k hk _ => h.block k hk⟩
theorem But.below {B x C : Nat} {a b : World} (h : But B x a b) (hC : C ≤ B) (hx : C ≤ x) : Below C a b := ⟨h.os, h.tape, h.output, h.size, fun k hk => h.block k (by omega) (by omega)⟩
theorem But.mono {B C x : Nat} {a b : World} (h : But B x a b) (hC : C ≤ B) : But C x a b := ⟨h.os, h.tape, h.output, h.size, fun k hk hx => h.block k (by omega) hx⟩
theorem But.drew {B x : Nat} {a w : World} (h : But B x a w) : But B x a w.drew := ⟨h.os, h.tape, h.output, h.size, h.block⟩
theorem But.alloc {B x : Nat} {a w : World} (h : But B x a w) (hB : B ≤ w.heap.size) (o : Obj) : But B x a (w.alloc o) :=
 h.trans ⟨rfl, rfl, rfl, by simp, fun k hk _ => Below.heap_alloc _ _ _ (by omega)⟩
theorem But.setCell {B x : Nat} {a w : World} (h : But B x a w) {p : Addr} (hp : p.block = x ∨ B ≤ p.block) (u : Value) : But B x a (w.setCell p u) :=
 h.trans ⟨rfl, rfl, rfl, by simp [World.setCell], fun k hk hx => Below.heap_setCell _ _ _ _ (by omega)⟩
theorem But.cell {B x : Nat} {w w' : World} (h : But B x w w') {c o : Nat} (hc : c < B) (hx : c ≠ x) : w'.cell? ⟨c, o, none⟩ = w.cell? ⟨c, o, none⟩ := World.cell?_of_block (w := w) (h.block c hc hx)
theorem But.frozen {B x : Nat} {w w' : World} (h : But B x w w') {c o : Nat} (hc : c < B) (hx : c ≠ x) : w'.frozen? ⟨c, o, none⟩ = w.frozen? ⟨c, o, none⟩ := World.frozen?_of_block (w := w) (h.block c hc hx)
theorem But.sub {B x : Nat} {w w' : World} (h : But B x w w') {a : Option Addr} {f : F} {fs : List Nat} (hs : SubAt w a f fs) (hc : ∀ c ∈ fs, c < B ∧ c ≠ x) : SubAt w' a f fs :=
 hs.congr (fun c hm _ => h.cell (hc c hm).1 (hc c hm).2)
end Go.Proofs.YtjcaiecapapceaaGreat
namespace Go.Proofs.YtjcaiecapapceaaGreat
open Go.RowKit P1
def kidsOf (o : Int) : Int := if o = 1 ∨ o = 2 ∨ o = 3 ∨ o = 4 ∨ o = 5 then 0 else if o = 6 ∨ o = 8 then 1 else if o = 7 then 2 else -1
def textB (o : Int) (t : ByteArray) : Bool := if o = 2 then tv t.data.toList else decide (t = ⟨#[]⟩)
def numB (o n : Int) : Bool := if o = 6 then decide (0 ≤ n) && decide (n ≤ 9) else decide (n = 0)
def nodeB (o n : Int) (t : ByteArray) (l : Nat) : Bool := decide ((l : Int) = kidsOf o) && textB o t && numB o n
namespace F
def ok : F → Nat → Bool
 | nil, _ => true
 | cons o n t k r, d => decide (0 < d) && nodeB o n t k.len && k.ok (d - 1) && r.ok d
def cnt : F → Nat
 | nil => 0
 | cons _ _ _ k r => 1 + k.cnt + r.cnt
theorem ok_app (f g : F) (d : Nat) : (f.app g).ok d = (f.ok d && g.ok d) := by
 induction f with
 | nil => simp [app, ok]
 | cons o n t k r _ ih => simp [app, ok, ih, Bool.and_assoc]
theorem cnt_app (f g : F) : (f.app g).cnt = f.cnt + g.cnt := by
 induction f with
 | nil => simp [app, cnt]
 | cons o n t k r _ ih => simp [app, cnt, ih]; omega
theorem cnt_le_size (f : F) : f.cnt ≤ f.size := by
 induction f with
 | nil => simp [cnt, size]
 | cons o n t k r ihk ihr => simp [cnt, size]; omega
theorem len_le_cnt (f : F) : f.len ≤ f.cnt := by
 induction f with
 | nil => simp [cnt, len]
 | cons o n t k r _ ih => simp [cnt, len]; omega
end F
def okD (d : Nat) (o n : Int) (t : ByteArray) (k : F) : Bool := decide (0 < d) && nodeB o n t k.len && k.ok (d - 1)
def validD (o n : Int) (t : ByteArray) (k : F) : Bool := okD 40 o n t k && decide (1 + k.cnt ≤ 80)
theorem ok_cons {o n : Int} {t : ByteArray} {k r : F} {d : Nat} : (F.cons o n t k r).ok d = (okD d o n t k && r.ok d) := rfl
theorem okD_zero (o n : Int) (t : ByteArray) (k : F) : okD 0 o n t k = false := by simp [okD]
theorem okD_bad {o n : Int} {t : ByteArray} {k : F} (h : nodeB o n t k.len = false) (d : Nat) : okD d o n t k = false := by simp [okD, h]
theorem okD_good {o n : Int} {t : ByteArray} {k : F} (h : nodeB o n t k.len = true) {d : Nat} (hd : 0 < d) : okD d o n t k = k.ok (d - 1) := by simp [okD, h, hd]
theorem node_ways (o n : Int) (t : ByteArray) (l : Nat) :
  ((l : Int) ≠ kidsOf o ∧ nodeB o n t l = false) ∨
  ((l : Int) = kidsOf o ∧ o = 2 ∧ tv t.data.toList = false ∧ nodeB o n t l = false) ∨
  ((l : Int) = kidsOf o ∧ o ≠ 2 ∧ t ≠ ⟨#[]⟩ ∧ nodeB o n t l = false) ∨
  ((l : Int) = kidsOf o ∧ o = 2 ∧ tv t.data.toList = true ∧ n ≠ 0 ∧ nodeB o n t l = false) ∨
  ((l : Int) = kidsOf o ∧ o ≠ 2 ∧ t = ⟨#[]⟩ ∧ o ≠ 6 ∧ n ≠ 0 ∧ nodeB o n t l = false) ∨
  ((l : Int) = kidsOf o ∧ o = 6 ∧ t = ⟨#[]⟩ ∧ n < 0 ∧ nodeB o n t l = false) ∨
  ((l : Int) = kidsOf o ∧ o = 6 ∧ t = ⟨#[]⟩ ∧ 0 ≤ n ∧ 9 < n ∧ nodeB o n t l = false) ∨
  ((l : Int) = kidsOf o ∧ o = 2 ∧ tv t.data.toList = true ∧ n = 0 ∧ nodeB o n t l = true) ∨
  ((l : Int) = kidsOf o ∧ o ≠ 2 ∧ t = ⟨#[]⟩ ∧ o ≠ 6 ∧ n = 0 ∧ nodeB o n t l = true) ∨
  ((l : Int) = kidsOf o ∧ o = 6 ∧ t = ⟨#[]⟩ ∧ 0 ≤ n ∧ n ≤ 9 ∧ nodeB o n t l = true) := by
 unfold nodeB textB numB
 by_cases h1 : (l : Int) = kidsOf o
 ·by_cases h2 : o = 2
  ·subst h2
   cases h3 : tv t.data.toList
   ·simp [h1]
   ·by_cases h4 : n = 0 <;> simp [h1, h4]
  ·by_cases h3 : t = ⟨#[]⟩
   ·by_cases h4 : o = 6
    ·subst h4
     by_cases h5 : n < 0
     ·simp [h1, h3, h5]; omega
     ·by_cases h6 : 9 < n
      ·simp [h1, h3, h6]; omega
      ·simp [h1, h3]; omega
    ·by_cases h5 : n = 0 <;> simp [h1, h2, h3, h4, h5]
   ·simp [h1, h2, h3]
 ·simp [h1]
theorem kidsOf_ways (o : Int) : (o = 1 ∧ kidsOf o = 0) ∨ (o = 2 ∧ kidsOf o = 0) ∨ (o = 3 ∧ kidsOf o = 0) ∨ (o = 4 ∧ kidsOf o = 0) ∨ (o = 5 ∧ kidsOf o = 0) ∨ (o = 6 ∧ kidsOf o = 1) ∨ (o = 8 ∧ kidsOf o = 1) ∨ (o = 7 ∧ kidsOf o = 2) ∨
  (o ≠ 1 ∧ o ≠ 2 ∧ o ≠ 3 ∧ o ≠ 4 ∧ o ≠ 5 ∧ o ≠ 6 ∧ o ≠ 7 ∧ o ≠ 8 ∧ kidsOf o = -1) := by
 by_cases h1 : o = 1; · subst h1; simp [kidsOf]
 by_cases h2 : o = 2; · subst h2; simp [kidsOf]
 by_cases h3 : o = 3; · subst h3; simp [kidsOf]
 by_cases h4 : o = 4; · subst h4; simp [kidsOf]
 by_cases h5 : o = 5; · subst h5; simp [kidsOf]
 by_cases h6 : o = 6; · subst h6; simp [kidsOf]
 by_cases h7 : o = 7; · subst h7; simp [kidsOf]
 by_cases h8 : o = 8; · subst h8; simp [kidsOf]
 simp [kidsOf, h1, h2, h3, h4, h5, h6, h7, h8]
end Go.Proofs.YtjcaiecapapceaaGreat
namespace Go.Proofs.YtjcaiecapapceaaGreat
open Go.RowKit P1
def dec : Nat → Nat → List UInt8
 | 0, _ => []
 | f + 1, k => if k = 0 then [] else dec f (k / 10) ++ [UInt8.ofNat (48 + k % 10)]
def mt (k : Nat) : ByteArray := ⟨((109 : UInt8) :: dec 64 k).toArray⟩
namespace F
def mk : F → Nat → F
 | nil, _ => nil
 | cons _ _ _ ks r, m => cons m ((m : Int) + 1) (mt (m + 2)) (ks.mk (m + 3)) (r.mk (m + 3 + 3 * ks.cnt))
end F
structure Only (fs : List Nat) (w w' : World) : Prop where
 os : w'.os = w.os
 tape : w'.tape = w.tape
 output : w'.output = w.output
 size : w.heap.size ≤ w'.heap.size
 block : ∀ k, k < w.heap.size → k ∉ fs → w'.heap[k]? = w.heap[k]?
 fz : ∀ k ∈ fs, ∀ o, k < w.heap.size → w'.frozen? ⟨k, o, none⟩ = w.frozen? ⟨k, o, none⟩
theorem Only.refl (fs : List Nat) (w : World) : Only fs w w := ⟨rfl, rfl, rfl, Nat.le_refl _, fun _ _ _ => rfl, fun _ _ _ _ => rfl⟩
theorem Only.trans {fs : List Nat} {a b c : World} (h : Only fs a b) (k : Only fs b c) : Only fs a c :=
 ⟨k.os.trans h.os, k.tape.trans h.tape, k.output.trans h.output, Nat.le_trans h.size k.size, fun i hi hf => (k.block i (Nat.lt_of_lt_of_le hi h.size) hf).trans (h.block i hi hf),
  fun i hi o hl => (k.fz i hi o (Nat.lt_of_lt_of_le hl h.size)).trans (h.fz i hi o hl)⟩
theorem Only.setCell {fs : List Nat} {a w : World} (h : Only fs a w) {p : Addr} (hp : p.block ∈ fs) (u : Value) : Only fs a (w.setCell p u) :=
 h.trans ⟨rfl, rfl, rfl, by simp [World.setCell], fun k hk hf => Below.heap_setCell _ _ _ _ (fun e => hf (by rw [e]; exact hp)), fun k _ o _ => World.frozen?_setCell _ _ _ _⟩
theorem Only.below {fs : List Nat} {a b : World} (h : Only fs a b) {B : Nat} (hB : B ≤ a.heap.size) (hs : ∀ c ∈ fs, B ≤ c) : Below B a b :=
 ⟨h.os, h.tape, h.output, h.size, fun k hk => h.block k (by omega) (fun hm => by have := hs k hm; omega)⟩
theorem Only.cell {fs : List Nat} {w w' : World} (h : Only fs w w') {c : Nat} (hc : c < w.heap.size) (hf : c ∉ fs) (o : Nat) : w'.cell? ⟨c, o, none⟩ = w.cell? ⟨c, o, none⟩ := World.cell?_of_block (w := w) (h.block c hc hf)
theorem Only.frozen {fs : List Nat} {w w' : World} (h : Only fs w w') {c : Nat} (hc : c < w.heap.size) (o : Nat) : w'.frozen? ⟨c, o, none⟩ = w.frozen? ⟨c, o, none⟩ := by
 by_cases hm : c ∈ fs
 ·exact h.fz c hm o hc
 ·exact World.frozen?_of_block (w := w) (h.block c hc hm)
theorem Only.fresh {fs gs : List Nat} {w w' : World} (h : Only fs w w') {lo : Nat} (hg : Fresh lo w gs) : Fresh lo w' gs := hg.alike h.size (fun c hc o => h.frozen (hg.lt c hc) o)
section
variable {w w' : World} {q r : F} {o n : Int} {t : ByteArray} {k : F} {b off : Nat} {a : Option Addr} {cap : Nat} {fp f1 f2 : List Nat}
end
end Go.Proofs.YtjcaiecapapceaaGreat
namespace Go.Proofs.YtjcaiecapapceaaGreat
open Go.RowKit P1
abbrev D := Int × Int × ByteArray × F
def cutQ : List UInt8 → Option (List UInt8 × List UInt8)
 | [] => none
 | c :: r => if c = 34 then some ([], r) else match cutQ r with
   | none => none
   | some (x, y) => some (c :: x, y)
def rdK (g : List UInt8 → Option (D × List UInt8)) : Nat → List UInt8 → Option (F × List UInt8)
 | 0, s => some (.nil, s)
 | n + 1, s => match g s with
   | none => none
   | some ((o, m, t, k), r) => match rdK g n r with
     | none => none
     | some (f, r') => some (.cons o m t k f, r')
def rdA (g : List UInt8 → Option (D × List UInt8)) (op num : Int) (cnt : Nat) (sign : UInt8) (s : List UInt8) : Option (D × List UInt8) :=
 match rdK g cnt s with
 | none => none
 | some (f, []) => none
 | some (f, c :: r) => if c = sign then some ((op, num, ⟨#[]⟩, f), r) else none
def rdT (chk : Bool) (s : List UInt8) : Option (D × List UInt8) :=
 match cutQ s with
 | none => none
 | some (x, y) => if chk && !tv x then none else some ((2, 0, ⟨x.toArray⟩, .nil), y)
def rdN (g : List UInt8 → Option (D × List UInt8)) (c : UInt8) : List UInt8 → Option (D × List UInt8)
 | [] => none
 | b :: r => if b = 60 then rdA g 6 ((c.toNat : Int) - 48) 1 62 r else none
def rdD (chk : Bool) : Nat → List UInt8 → Option (D × List UInt8)
 | 0, _ => none
 | _ + 1, [] => none
 | d + 1, c :: r =>
   if c = 126 then some ((1, 0, ⟨#[]⟩, .nil), r)
   else if c = 95 then some ((3, 0, ⟨#[]⟩, .nil), r)
   else if c = 46 then some ((4, 0, ⟨#[]⟩, .nil), r)
   else if c = 33 then some ((5, 0, ⟨#[]⟩, .nil), r)
   else if c = 34 then rdT chk r
   else if c = 40 then rdA (rdD chk d) 7 0 2 41 r
   else if c = 91 then rdA (rdD chk d) 8 0 1 93 r
   else if 48 ≤ c ∧ c ≤ 57 then rdN (rdD chk d) c r
   else none
def parse (chk : Bool) (s : List UInt8) : Option D :=
 match rdD chk 40 s with
 | some ((o, n, t, k), []) => if validD o n t k then some (o, n, t, k) else none
 | _ => none
theorem cutQ_size {s x y : List UInt8} (h : cutQ s = some (x, y)) : x.length + y.length + 1 = s.length := by
 induction s generalizing x y with
 | nil => simp [cutQ] at h
 | cons c r ih =>
   rw [cutQ] at h
   split at h
   ·simp at h; obtain ⟨rfl, rfl⟩ := h; simp
   ·cases hq : cutQ r with
    | none => rw [hq] at h; simp at h
    | some q =>
      obtain ⟨a, b⟩ := q
      rw [hq] at h; simp at h; obtain ⟨rfl, rfl⟩ := h
      have := ih hq
      simp; omega
theorem rdK_size {g : List UInt8 → Option (D × List UInt8)} (hg : ∀ s o m t k r, g s = some ((o, m, t, k), r) → 1 + t.size + k.size + r.length ≤ s.length) : ∀ n s f r, rdK g n s = some (f, r) → f.size + r.length ≤ s.length := by
 intro n
 induction n with
 | zero => intro s f r h; simp [rdK] at h; obtain ⟨rfl, rfl⟩ := h; simp [F.size]
 | succ n ih =>
   intro s f r h
   rw [rdK] at h
   cases hq : g s with
   | none => rw [hq] at h; simp at h
   | some q =>
     obtain ⟨⟨o, m, t, k⟩, r1⟩ := q
     rw [hq] at h
     simp only at h
     cases hk : rdK g n r1 with
     | none => rw [hk] at h; simp at h
     | some q2 =>
       obtain ⟨f2, r2⟩ := q2
       rw [hk] at h; simp at h; obtain ⟨rfl, rfl⟩ := h
       have h1 := hg _ _ _ _ _ _ hq
       have h2 := ih _ _ _ hk
       simp only [F.size]; omega
theorem rdA_size {g : List UInt8 → Option (D × List UInt8)} (hg : ∀ s o m t k r, g s = some ((o, m, t, k), r) → 1 + t.size + k.size + r.length ≤ s.length) {op num : Int} {cnt : Nat} {sign : UInt8} {s : List UInt8} {o m : Int} {t : ByteArray} {k : F} {r : List UInt8} (h : rdA g op num cnt sign s = some ((o, m, t, k), r)) : 1 + t.size + k.size + r.length ≤ s.length := by
 unfold rdA at h
 split at h
 ·simp at h
 ·simp at h
 ·rename_i f c r1 hk
  split at h
  ·simp at h
   obtain ⟨⟨rfl, rfl, rfl, rfl⟩, rfl⟩ := h
   have := rdK_size hg _ _ _ _ hk
   have e0 : (⟨#[]⟩ : ByteArray).size = 0 := rfl
   simp only [List.length_cons] at this
   rw [e0]; omega
  ·simp at h
theorem rdT_size {chk : Bool} {s : List UInt8} {o m : Int} {t : ByteArray} {k : F} {r : List UInt8} (h : rdT chk s = some ((o, m, t, k), r)) : 1 + t.size + k.size + r.length ≤ s.length := by
 unfold rdT at h
 split at h
 ·simp at h
 ·rename_i x y hc
  split at h
  ·simp at h
  ·simp at h
   obtain ⟨⟨rfl, rfl, rfl, rfl⟩, rfl⟩ := h
   have := cutQ_size hc
   have e0 : (⟨x.toArray⟩ : ByteArray).size = x.length := by show x.toArray.size = _; simp
   simp only [F.size]
   rw [e0]; omega
theorem rdD_size (chk : Bool) : ∀ d s o m t k r, rdD chk d s = some ((o, m, t, k), r) → 1 + t.size + k.size + r.length ≤ s.length := by
 have e0 : (⟨#[]⟩ : ByteArray).size = 0 := rfl
 intro d
 induction d with
 | zero => intro s o m t k r h; simp [rdD] at h
 | succ d ih =>
   intro s o m t k r h
   cases s with
   | nil => simp [rdD] at h
   | cons c s =>
     rw [rdD] at h
     simp only [List.length_cons]
     split at h
     ·simp at h; obtain ⟨⟨rfl, rfl, rfl, rfl⟩, rfl⟩ := h; rw [e0]; simp only [F.size]; omega
     split at h
     ·simp at h; obtain ⟨⟨rfl, rfl, rfl, rfl⟩, rfl⟩ := h; rw [e0]; simp only [F.size]; omega
     split at h
     ·simp at h; obtain ⟨⟨rfl, rfl, rfl, rfl⟩, rfl⟩ := h; rw [e0]; simp only [F.size]; omega
     split at h
     ·simp at h; obtain ⟨⟨rfl, rfl, rfl, rfl⟩, rfl⟩ := h; rw [e0]; simp only [F.size]; omega
     split at h
     ·have := rdT_size h; omega
     split at h
     ·have := rdA_size ih h; omega
     split at h
     ·have := rdA_size ih h; omega
     split at h
     ·cases s with
      | nil => simp [rdN] at h
      | cons b r' =>
        simp only [rdN] at h
        split at h
        ·have := rdA_size ih h; simp only [List.length_cons]; omega
        ·simp at h
     ·simp at h
def F.txt : F → Bool
 | .nil => true
 | .cons o _ t k r => (decide (o ≠ 2) || tv t.data.toList) && k.txt && r.txt
end Go.Proofs.YtjcaiecapapceaaGreat
set_option linter.unusedSectionVars false
namespace Go.Proofs.YtjcaiecapapceaaGreat
section
variable {κ : Type} [DecidableEq κ]
structure Forest (κ : Type) where
 good : κ → Prop
 kids : κ → List κ
 sz : κ → Nat
 cnt : κ → Nat
 wt : κ → Nat
 down : ∀ k, good k → ∀ c ∈ kids k, good c ∧ sz c < sz k
 wt_eq : ∀ k, good k → wt k = 2 + ((kids k).map wt).sum
structure Inv (T : Forest κ) (root : κ) (st : List (κ × Bool)) (m : κ → Option Int) : Prop where
 good : ∀ x ∈ st, T.good x.1
 val : ∀ k, T.good k → ∀ c, m k = some c → c = (T.cnt k : Int) ∨ (c = -1 ∧ (k, true) ∈ st)
 low : ∀ pre k post, st = pre ++ (k, true) :: post → (∀ c ∈ T.kids k, m c = some (T.cnt c : Int) ∨ ∃ b, (c, b) ∈ pre) ∧ ∀ x ∈ pre, T.sz x.1 < T.sz k
 root : (∃ b, (root, b) ∈ st) ∨ m root = some (T.cnt root : Int)
def weight (T : Forest κ) : List (κ × Bool) → Nat
 | [] => 0
 | (k, true) :: r => 1 + weight T r
 | (k, false) :: r => T.wt k + weight T r
theorem weight_app (T : Forest κ) (a b : List (κ × Bool)) : weight T (a ++ b) = weight T a + weight T b := by
 induction a with
 | nil => simp [weight]
 | cons x a ih =>
   obtain ⟨k, q⟩ := x
   cases q <;> simp [weight, ih] <;> omega
def upd (m : κ → Option Int) (k : κ) (c : Int) : κ → Option Int := fun x => if x = k then some c else m x
theorem Inv.start (T : Forest κ) (root : κ) (h : T.good root) : Inv T root [(root, false)] (fun _ => none) := by
 refine ⟨fun x hx => by simp at hx; rw [hx]; exact h, fun k _ c hc => (by simp at hc), fun pre k post he => ?_, .inl ⟨false, by simp⟩⟩
 cases pre with
 | nil => simp at he
 | cons x pre => simp at he
theorem Inv.done {T : Forest κ} {root k : κ} {st : List (κ × Bool)} {m : κ → Option Int} (h : Inv T root ((k, true) :: st) m) :
  (∀ c ∈ T.kids k, m c = some (T.cnt c : Int)) ∧ Inv T root st (upd m k (T.cnt k)) := by
 have h0 := h.low [] k st rfl
 refine ⟨fun c hc => (h0.1 c hc).elim id (fun ⟨b, h1⟩ => by cases h1), ?_⟩
 refine ⟨fun x hx => h.good x (by simp [hx]), fun q hq c hc => ?_, fun pre q post he => ?_, ?_⟩
 ·unfold upd at hc
  by_cases e : q = k
  ·subst e; rw [if_pos rfl] at hc; cases hc; exact .inl rfl
  ·rw [if_neg e] at hc
   rcases h.val q hq c hc with h1 | ⟨h1, h2⟩
   ·exact .inl h1
   ·refine .inr ⟨h1, ?_⟩
    rcases List.mem_cons.1 h2 with h3 | h3
    ·cases h3; exact absurd rfl e
    ·exact h3
 ·have h1 := h.low ((k, true) :: pre) q post (by rw [he]; rfl)
  refine ⟨fun c hc => ?_, fun x hx => h1.2 x (by simp [hx])⟩
  unfold upd
  by_cases e : c = k
  ·subst e; rw [if_pos rfl]; exact .inl rfl
  ·rw [if_neg e]
   rcases h1.1 c hc with h2 | ⟨b, h2⟩
   ·exact .inl h2
   ·rcases List.mem_cons.1 h2 with h3 | h3
    ·cases h3; exact absurd rfl e
    ·exact .inr ⟨b, h3⟩
 ·unfold upd
  by_cases e : root = k
  ·subst e; rw [if_pos rfl]; exact .inr rfl
  ·rw [if_neg e]
   rcases h.root with ⟨b, h1⟩ | h1
   ·rcases List.mem_cons.1 h1 with h3 | h3
    ·cases h3; exact absurd rfl e
    ·exact .inl ⟨b, h3⟩
   ·exact .inr h1
theorem Inv.known {T : Forest κ} {root k : κ} {st : List (κ × Bool)} {m : κ → Option Int} (h : Inv T root ((k, false) :: st) m) {v : Int} (hv : m k = some v) : v = (T.cnt k : Int) ∧ Inv T root st m := by
 have hk : T.good k := h.good (k, false) (by simp)
 have hc : v = (T.cnt k : Int) := by
  rcases h.val k hk v hv with h1 | ⟨h1, h2⟩
  ·exact h1
  ·rcases List.mem_cons.1 h2 with h3 | h3
   ·cases h3
   ·obtain ⟨pre, post, rfl⟩ := List.append_of_mem h3
    have := (h.low ((k, false) :: pre) k post rfl).2 (k, false) (by simp)
    simp at this
 subst hc
 refine ⟨rfl, fun x hx => h.good x (by simp [hx]), fun q hq c hc => ?_, fun pre q post he => ?_, ?_⟩
 ·rcases h.val q hq c hc with h1 | ⟨h1, h2⟩
  ·exact .inl h1
  ·rcases List.mem_cons.1 h2 with h3 | h3
   ·cases h3
   ·exact .inr ⟨h1, h3⟩
 ·have h1 := h.low ((k, false) :: pre) q post (by rw [he]; rfl)
  refine ⟨fun c hc => ?_, fun x hx => h1.2 x (by simp [hx])⟩
  rcases h1.1 c hc with h2 | ⟨b, h2⟩
  ·exact .inl h2
  ·rcases List.mem_cons.1 h2 with h3 | h3
   ·cases h3; exact .inl hv
   ·exact .inr ⟨b, h3⟩
 ·rcases h.root with ⟨b, h1⟩ | h1
  ·rcases List.mem_cons.1 h1 with h3 | h3
   ·cases h3; exact .inr hv
   ·exact .inl ⟨b, h3⟩
  ·exact .inr h1
theorem Inv.open {T : Forest κ} {root k : κ} {st : List (κ × Bool)} {m : κ → Option Int} (h : Inv T root ((k, false) :: st) m) (hv : m k = none) :
  Inv T root (((T.kids k).reverse.map fun c => (c, false)) ++ (k, true) :: st) (upd m k (-1)) := by
 have hk : T.good k := h.good (k, false) (by simp)
 refine ⟨fun x hx => ?_, fun q hq c hc => ?_, fun pre q post he => ?_, ?_⟩
 ·rcases List.mem_append.1 hx with hx | hx
  ·obtain ⟨c, hc, rfl⟩ := List.mem_map.1 hx
   exact (T.down k hk c (List.mem_reverse.1 hc)).1
  ·rcases List.mem_cons.1 hx with rfl | hx
   ·exact hk
   ·exact h.good x (by simp [hx])
 ·unfold upd at hc
  by_cases e : q = k
  ·subst e; rw [if_pos rfl] at hc; cases hc; exact .inr ⟨rfl, by simp⟩
  ·rw [if_neg e] at hc
   rcases h.val q hq c hc with h1 | ⟨h1, h2⟩
   ·exact .inl h1
   ·rcases List.mem_cons.1 h2 with h3 | h3
    ·cases h3
    ·exact .inr ⟨h1, by simp [h3]⟩
 ·-- where the reached list stands
  have hcase : (∃ mid, pre = ((T.kids k).reverse.map fun c => (c, false)) ++ (k, true) :: mid ∧ st = mid ++ (q, true) :: post) ∨ (pre = ((T.kids k).reverse.map fun c => (c, false)) ∧ q = k) := by
   have hs : ∀ (l : List κ) (a : List (κ × Bool)), (l.map fun c => (c, false)) ++ (k, true) :: st = a ++ (q, true) :: post → (∃ mid, a = (l.map fun c => (c, false)) ++ (k, true) :: mid ∧ st = mid ++ (q, true) :: post) ∨ (a = (l.map fun c => (c, false)) ∧ q = k) := by
    intro l
    induction l with
    | nil =>
      intro a ha
      cases a with
      | nil => simp at ha; exact .inr ⟨rfl, ha.1.symm⟩
      | cons x a => simp at ha; obtain ⟨rfl, rfl⟩ := ha; exact .inl ⟨a, rfl, rfl⟩
    | cons c l ih =>
      intro a ha
      cases a with
      | nil => simp at ha
      | cons x a =>
        simp only [List.map_cons, List.cons_append, List.cons.injEq] at ha
        obtain ⟨rfl, ha⟩ := ha
        rcases ih a ha with ⟨mid, rfl, hm⟩ | ⟨rfl, hm⟩
        ·exact .inl ⟨mid, rfl, hm⟩
        ·exact .inr ⟨rfl, hm⟩
   exact hs _ pre he
  rcases hcase with ⟨mid, rfl, rfl⟩ | ⟨rfl, rfl⟩
  ·have h1 := h.low ((k, false) :: mid) q post rfl
   have hkq : T.sz k < T.sz q := h1.2 (k, false) (by simp)
   refine ⟨fun c hc => ?_, fun x hx => ?_⟩
   ·unfold upd
    rcases h1.1 c hc with h2 | ⟨b, h2⟩
    ·by_cases e : c = k
     ·subst e; rw [hv] at h2; cases h2
     ·rw [if_neg e]; exact .inl h2
    ·rcases List.mem_cons.1 h2 with h3 | h3
     ·cases h3; exact .inr ⟨true, by simp⟩
     ·exact .inr ⟨b, by simp [h3]⟩
   ·rcases List.mem_append.1 hx with hx | hx
    ·obtain ⟨c, hc, rfl⟩ := List.mem_map.1 hx
     have := (T.down k hk c (List.mem_reverse.1 hc)).2
     exact Nat.lt_trans this hkq
    ·rcases List.mem_cons.1 hx with rfl | hx
     ·exact hkq
     ·exact h1.2 x (by simp [hx])
  ·refine ⟨fun c hc => .inr ⟨false, List.mem_map.2 ⟨c, List.mem_reverse.2 hc, rfl⟩⟩, fun x hx => ?_⟩
   obtain ⟨c, hc, rfl⟩ := List.mem_map.1 hx
   exact (T.down q hk c (List.mem_reverse.1 hc)).2
 ·unfold upd
  by_cases e : root = k
  ·subst e; exact .inl ⟨true, by simp⟩
  ·rw [if_neg e]
   rcases h.root with ⟨b, h1⟩ | h1
   ·rcases List.mem_cons.1 h1 with h3 | h3
    ·cases h3; exact absurd rfl e
    ·exact .inl ⟨b, by simp [h3]⟩
   ·exact .inr h1
theorem weight_map (T : Forest κ) (l : List κ) : weight T (l.map fun c => (c, false)) = (l.map T.wt).sum := by
 induction l with
 | nil => rfl
 | cons c l ih => simp [weight, ih]
theorem weight_open {T : Forest κ} {k : κ} (hk : T.good k) (st : List (κ × Bool)) : weight T (((T.kids k).reverse.map fun c => (c, false)) ++ (k, true) :: st) < weight T ((k, false) :: st) := by
 rw [weight_app, weight_map, weight, weight, T.wt_eq k hk, List.map_reverse, List.sum_reverse]
 omega
theorem Inv.end {T : Forest κ} {root : κ} {m : κ → Option Int} (h : Inv T root [] m) : m root = some (T.cnt root : Int) := by
 rcases h.root with ⟨b, h1⟩ | h1
 ·cases h1
 ·exact h1
end
end Go.Proofs.YtjcaiecapapceaaGreat
namespace Go.Proofs.YtjcaiecapapceaaGreat
open Go.RowKit
section
variable {κ : Type} [DecidableEq κ]
structure KeyOK (P : Program) (K : TypeId) (kv : κ → Value) (G : World → κ → Prop) : Prop where
 kind : ∃ d, P.underlying K = some d ∧ ∀ a b, Instr.sameNow d (kv a) (kv b) = none
 check : ∀ (w : World) (em : Bool) (a : κ), G w a → (Instr.checkKey em 10000 K (kv a)).run P w = .ok () w
 equal : ∀ (w : World) (a b : κ), G w a → G w b → (Op.equal K (kv a) (kv b)).run P w = .ok (decide (a = b)) w
 bits : ∀ a, Instr.sameBits 10000 (kv a) (kv a) = true
def ent (kv : κ → Value) (x : κ × Value × Nat) : MapEntry := ⟨kv x.1, x.2.1, x.2.2⟩
def findI (a : κ) : List (κ × Value × Nat) → Nat → Option (Nat × Value)
 | [], _ => none
 | x :: l, i => if a = x.1 then some (i, x.2.1) else findI a l (i + 1)
def look (a : κ) (l : List (κ × Value × Nat)) : Option Value := (findI a l 0).map (·.2)
theorem findI_shift (a : κ) (l : List (κ × Value × Nat)) : ∀ i, (findI a l i).map (·.2) = (findI a l 0).map (·.2) := by
 induction l with
 | nil => intro i; rfl
 | cons x l ih =>
   intro i
   simp only [findI]
   split
   ·rfl
   ·rw [ih (i + 1), ih (0 + 1)]
theorem look_cons (a : κ) (x : κ × Value × Nat) (l : List (κ × Value × Nat)) : look a (x :: l) = if a = x.1 then some x.2.1 else look a l := by
 unfold look
 simp only [findI]
 split
 ·rfl
 ·exact findI_shift a l 1
theorem look_snoc (a b : κ) (v : Value) (n : Nat) (l : List (κ × Value × Nat)) (h : look a l = none) : look b (l ++ [(a, v, n)]) = if b = a then some v else look b l := by
 induction l with
 | nil => rw [List.nil_append, look_cons]
 | cons x l ih =>
   rw [look_cons] at h
   split at h
   ·cases h
   ·rename_i hne
    rw [List.cons_append, look_cons, look_cons, ih h]
    by_cases hb : b = x.1
    ·rw [if_pos hb, if_pos hb, if_neg (show ¬ b = a from fun e => hne (e.symm.trans hb))]
    ·rw [if_neg hb, if_neg hb]
def setI (v : Value) : List (κ × Value × Nat) → Nat → List (κ × Value × Nat)
 | [], _ => []
 | x :: l, 0 => (x.1, v, x.2.2) :: l
 | x :: l, i + 1 => x :: setI v l i
theorem findI_at (a : κ) : ∀ (l : List (κ × Value × Nat)) (s i : Nat) (u : Value), findI a l s = some (i, u) → ∃ j x, i = s + j ∧ l[j]? = some x ∧ x.1 = a ∧ ∀ v b, look b (setI v l j) = if b = a then some v else look b l
 | [], s, i, u, h => by simp [findI] at h
 | x :: l, s, i, u, h => by
   simp only [findI] at h
   split at h
   ·rename_i e
    simp only [Option.some.injEq, Prod.mk.injEq] at h
    refine ⟨0, x, by omega, rfl, e.symm, fun v b => ?_⟩
    rw [setI, look_cons, look_cons]
    by_cases hb : b = a
    ·rw [if_pos hb, if_pos (by rw [hb]; exact e)]
    ·rw [if_neg hb, if_neg (fun q => hb (q.trans e.symm)), if_neg (fun q => hb (q.trans e.symm))]
   ·rename_i hne
    obtain ⟨j, y, h1, h2, h3, h4⟩ := findI_at a l (s + 1) i u h
    refine ⟨j + 1, y, by omega, by simpa using h2, h3, fun v b => ?_⟩
    rw [setI, look_cons, look_cons, h4]
    by_cases hb : b = x.1
    ·rw [if_pos hb, if_pos hb, if_neg (show ¬ b = a from fun e => hne (e.symm.trans hb))]
    ·rw [if_neg hb, if_neg hb]
theorem setI_keys (v : Value) : ∀ (l : List (κ × Value × Nat)) (j : Nat), ∀ x ∈ setI v l j, ∃ y ∈ l, y.1 = x.1
 | [], _, x, h => by simp [setI] at h
 | y :: l, 0, x, h => by
   simp only [setI, List.mem_cons] at h
   rcases h with rfl | h
   ·exact ⟨y, by simp, rfl⟩
   ·exact ⟨x, by simp [h], rfl⟩
 | y :: l, j + 1, x, h => by
   simp only [setI, List.mem_cons] at h
   rcases h with rfl | h
   ·exact ⟨x, by simp, rfl⟩
   ·obtain ⟨z, h1, h2⟩ := setI_keys v l j x h
    exact ⟨z, by simp [h1], h2⟩
theorem setI_ent (kv : κ → Value) (v : Value) (a : κ) : ∀ (l : List (κ × Value × Nat)) (j : Nat), (∀ x, l[j]? = some x → x.1 = a) → (l.map (ent kv)).modify j (fun e => { e with key := kv a, val := v }) = (setI v l j).map (ent kv)
 | [], j, _ => by cases j <;> rfl
 | y :: l, 0, h => by
   have := h y rfl
   simp [setI, ent, this]
 | y :: l, j + 1, h => by
   have := setI_ent kv v a l j (fun x hx => h x (by simpa using hx))
   simp [setI, this]
section
variable {P : Program} {K : TypeId} {kv : κ → Value} {G : World → κ → Prop}
theorem run_findAsking (h : KeyOK P K kv G) {w : World} {a : κ} (ha : G w a) : ∀ (l : List (κ × Value × Nat)) (i : Nat), (∀ x ∈ l, G w x.1) → (Instr.findAsking K (kv a) (l.map (ent kv)) i).run P w = .ok (findI a l i) w
 | [], i, _ => by simp [Instr.findAsking, findI, Sem.run_pure]
 | x :: l, i, hl => by
   have he := h.equal w a x.1 ha (hl x (by simp))
   have ih := run_findAsking h ha l (i + 1) (fun y hy => hl y (by simp [hy]))
   simp only [List.map_cons, Instr.findAsking, Sem.run_bind, ent, he, Result.andThen_ok, findI]
   by_cases hx : a = x.1
   ·simp [hx, Sem.run_pure]
   ·simp only [hx, decide_false, Bool.false_eq_true, if_false]
    exact ih
theorem run_findKey (h : KeyOK P K kv G) {w : World} {a : κ} (ha : G w a) (l : List (κ × Value × Nat)) (hl : ∀ x ∈ l, G w x.1) : (Instr.findKey K (kv a) (l.map (ent kv))).run P w = .ok (findI a l 0) w := by
 obtain ⟨d, hd, hs⟩ := h.kind
 unfold Instr.findKey
 simp only [Sem.run_bind, run_underlying hd, Result.andThen_ok]
 cases l with
 | nil => simp [Instr.findNow, findI, Sem.run_pure]
 | cons x l =>
   have : Instr.findNow d (kv a) ((x :: l).map (ent kv)) 0 = none := by simp [Instr.findNow, ent, hs]
   rw [this]
   exact run_findAsking h ha (x :: l) 0 hl
def PMap (w : World) (kv : κ → Value) (r : Nat) (l : List (κ × Value × Nat)) : Prop := ∃ clock, w.heap[r]? = some (.map (l.map (ent kv)).toArray clock)
theorem PMap.made (w : World) (kv : κ → Value) : PMap (w.alloc (.map #[] 0)) kv w.heap.size [] := ⟨0, by simpa using heap_alloc_new w (.map #[] 0)⟩
theorem PMap.of_block {w w' : World} {r : Nat} {l : List (κ × Value × Nat)} (h : PMap w kv r l) (e : w'.heap[r]? = w.heap[r]?) : PMap w' kv r l := by obtain ⟨c, h⟩ := h; exact ⟨c, e.trans h⟩
theorem PMap.lt {w : World} {r : Nat} {l : List (κ × Value × Nat)} (h : PMap w kv r l) : r < w.heap.size := by obtain ⟨c, h⟩ := h; exact (Array.getElem?_eq_some_iff.1 h).1
theorem run_look (h : KeyOK P K kv G) {t E : TypeId} (ht : P.underlying t = some (.map K E)) {w : World} {z : Value} (hz : (zeroValue E).run P w = .ok z w) {r : Nat} {l : List (κ × Value × Nat)} (hb : PMap w kv r l) {a : κ} (ha : G w a) (hl : ∀ x ∈ l, G w x.1) (c : Bool) :
  (Instr.lookup t (.map (some r)) (kv a) c).run P w = .ok (if c then .tuple #[(look a l).getD z, .bool (look a l).isSome] else (look a l).getD z) w := by
 obtain ⟨clock, hb⟩ := hb
 have hf := run_findKey h ha l hl
 have hck := fun em => h.check w em a ha
 unfold Instr.lookup
 simp only [Sem.run_bind, run_underlying ht, Result.andThen_ok, run_getObj_map (P := P) w r _ clock hb, Sem.run_pure, hck, List.toList_toArray, hf]
 unfold look
 cases findI a l 0 with
 | none => simp [Sem.run_bind, hz, Sem.run_pure, Result.andThen_ok]
 | some q => simp [Sem.run_pure, Result.andThen_ok]
theorem run_store_map (h : KeyOK P K kv G) {t E : TypeId} (ht : P.underlying t = some (.map K E)) {w : World} {r : Nat} {l : List (κ × Value × Nat)} (hb : PMap w kv r l) {a : κ} (ha : G w a) (hl : ∀ x ∈ l, G w x.1) (v : Value) :
  ∃ l' w', (Instr.mapUpdate t (.map (some r)) (kv a) v).run P w = .ok () w' ∧ PMap w' kv r l' ∧ (∀ b, look b l' = if b = a then some v else look b l) ∧ (∀ x ∈ l', x.1 = a ∨ ∃ y ∈ l, y.1 = x.1) ∧ w.grownBy w' (some r) := by
 obtain ⟨clock, hb⟩ := hb
 have hf := run_findKey h ha l hl
 have hck := h.check w false a ha
 have grown : ∀ es c, w.grownBy { w with heap := w.heap.setIfInBounds r (.map es c) } (some r) := fun es c => ⟨rfl, rfl, rfl, by simp, fun i _ hi => by
  have : r ≠ i := fun e => hi (by rw [e])
  simp [Array.getElem?_setIfInBounds, this]⟩
 have hlt : r < w.heap.size := (Array.getElem?_eq_some_iff.1 hb).1
 have hset : ∀ es c, ({ w with heap := w.heap.setIfInBounds r (.map es c) } : World).heap[r]? = some (.map es c) := fun es c => by simp [Array.getElem?_setIfInBounds, hlt]
 cases hq : findI a l 0 with
 | none =>
   refine ⟨l ++ [(a, v, clock)], _, ?_, ⟨clock + 1, hset _ _⟩, fun b => look_snoc a b v clock l (by unfold look; rw [hq]; rfl), fun x hx => ?_, grown _ _⟩
   ·unfold Instr.mapUpdate
    rw [hq] at hf
    simp only [Sem.run_bind, run_underlying ht, Result.andThen_ok, run_getObj_map (P := P) w r _ clock hb, hck, List.toList_toArray, hf]
    rw [MapKept.run_setObj_map _ hb]
    simp [ent]
   ·rcases List.mem_append.1 hx with hx | hx
    ·exact .inr ⟨x, hx, rfl⟩
    ·simp at hx; exact .inl (by rw [hx])
 | some q =>
   obtain ⟨i, u⟩ := q
   obtain ⟨j, x, h1, h2, h3, h4⟩ := findI_at a l 0 i u hq
   obtain rfl : i = j := by omega
   refine ⟨setI v l i, _, ?_, ⟨clock, hset _ _⟩, h4 v, fun x hx => .inr (setI_keys v l i x hx), grown _ _⟩
   unfold Instr.mapUpdate
   rw [hq] at hf
   have hk : (((l.map (ent kv)).toArray[i]?).map (·.key)).getD (kv a) = kv a := by simp [h2, ent, h3]
   have hst : (Instr.keyThatStays (kv a) (kv a)).run P w = .ok (kv a) w := by unfold Instr.keyThatStays; rw [if_pos (h.bits a)]; rfl
   simp only [Sem.run_bind, run_underlying ht, Result.andThen_ok, run_getObj_map (P := P) w r _ clock hb, hck, List.toList_toArray, hf, hk, hst]
   rw [MapKept.run_setObj_map _ hb]
   have e := setI_ent kv v a l i (fun y hy => by rw [h2] at hy; cases hy; exact h3)
   rw [List.modify_toArray, e]
end
end
end Go.Proofs.YtjcaiecapapceaaGreat
namespace Go.Proofs.YtjcaiecapapceaaGreat
open Go.RowKit
theorem RowAt.unique {w : World} : ∀ {f g : F} {b off : Nat} {fs gs : List Nat}, RowAt w f b off fs → RowAt w g b off gs → f.len = g.len → f = g := by
 intro f
 induction f with
 | nil =>
   intro g b off fs gs _ _ hl
   exact (F.len_eq_zero hl.symm).symm
 | cons o n t k r ihk ihr =>
   intro g b off fs gs hf hg hl
   cases g with
   | nil => simp [F.len] at hl
   | cons o' n' t' k' r' =>
     obtain ⟨a, cap, f1, f2, h1, h2, h3, h4, h5, h6, h7, _⟩ := RowAt.cons_iff.1 hf
     obtain ⟨a', cap', g1, g2, q1, q2, q3, q4, q5, q6, q7, _⟩ := RowAt.cons_iff.1 hg
     rw [h1] at q1; rw [h2] at q2; rw [h3] at q3; rw [h4] at q4
     simp only [Option.some.injEq, Value.int.injEq, true_and] at q1 q2
     simp only [Option.some.injEq, Value.string.injEq] at q3
     simp only [Option.some.injEq, Value.slice.injEq] at q4
     obtain ⟨rfl, hk, rfl⟩ := q4
     simp only [F.len] at hl
     obtain rfl := ihr h7 q7 (by omega)
     have : k = k' := by
      rcases h6 with ⟨rfl, _⟩ | ⟨b1, o1, f', rfl, _, _, hr⟩
      ·exact (F.len_eq_zero hk.symm).symm
      ·rcases q6 with ⟨rfl, _⟩ | ⟨b2, o2, g', e, _, _, hr'⟩
       ·exact F.len_eq_zero hk
       ·simp only [Option.some.injEq, Addr.mk.injEq, and_true] at e
        obtain ⟨rfl, rfl⟩ := e
        exact ihk hr hr' hk
     subst this q1 q2 q3
     rfl
end Go.Proofs.YtjcaiecapapceaaGreat
namespace Go.Proofs.YtjcaiecapapceaaGreat
open Go.RowKit
theorem RowAt.moved {w w' : World} {f : F} : ∀ {b off b' off' : Nat} {fs : List Nat}, RowAt w f b off fs → (∀ o, o < 4 * f.len → w'.cell? ⟨b', off' + o, none⟩ = w.cell? ⟨b, off + o, none⟩) → (∀ c ∈ fs, ∀ o, w'.cell? ⟨c, o, none⟩ = w.cell? ⟨c, o, none⟩) → RowAt w' f b' off' fs := by
 induction f with
 | nil => intro b off b' off' fs h _ _; exact h
 | cons o n t k r ihk ihr =>
   intro b off b' off' fs h hb hfs
   simp only [F.len] at hb
   obtain ⟨a, cap, f1, f2, h1, h2, h3, h4, h5, h6, h7, rfl⟩ := RowAt.cons_iff.1 h
   have e0 := hb 0 (by omega)
   have e1 := hb 1 (by omega)
   have e2 := hb 2 (by omega)
   have e3 := hb 3 (by omega)
   refine RowAt.cons_iff.2 ⟨a, cap, f1, f2, e0.trans h1, e1.trans h2, e2.trans h3, e3.trans h4, h5, h6.congr (fun c hc => hfs c (by simp [hc])), ihr h7 (fun o ho => ?_) (fun c hc => hfs c (by simp [hc])), rfl⟩
   have := hb (4 + o) (by omega)
   rw [← Nat.add_assoc, ← Nat.add_assoc] at this
   exact this
def Grow (w : World) (T : TypeId) (lo : Nat) (v : Value) (p : F) (fs : List Nat) : Prop :=
 (∃ xs, w.ownsRow lo T 4 v p.len xs) ∧ ((p = .nil ∧ fs = []) ∨ ∃ b cap f', v = .slice (some ⟨b, 0, none⟩) p.len cap ∧ p ≠ .nil ∧ fs = b :: f' ∧ RowAt w p b 0 f') ∧ Fresh lo w fs ∧ lo ≤ w.heap.size
theorem Grow.start (w : World) (T : TypeId) (lo : Nat) (h : lo ≤ w.heap.size) : Grow w T lo (.slice none 0 0) .nil [] :=
 ⟨⟨[], w.ownsRow_nil lo T 4⟩, .inl ⟨rfl, rfl⟩, Fresh.nil _ _, h⟩
theorem Grow.made (w : World) (T : TypeId) (lo : Nat) (h : lo ≤ w.heap.size) : Grow (w.alloc (.cells #[] T)) T lo (.slice (some ⟨w.heap.size, 0, none⟩) 0 0) .nil [] :=
 ⟨⟨[], w.ownsRow_made #[] 0 h (by simp [maxLen]) rfl⟩, .inl ⟨rfl, rfl⟩, Fresh.nil _ _, by simp; omega⟩
theorem Grow.slice {w : World} {T : TypeId} {lo : Nat} {v : Value} {p : F} {fs : List Nat} (h : Grow w T lo v p fs) : ∃ a cap, v = .slice a p.len cap ∧ p.len ≤ cap ∧ SubAt w a p fs ∧ cap ≤ maxLen := by
 obtain ⟨⟨xs, h1⟩, h2, _⟩ := h
 rcases h1.2 with ⟨rfl, h3⟩ | ⟨g, cap, cur, rfl, _, _, h4, h5, _⟩
 ·have hp := F.len_eq_zero h3
  subst hp
  rcases h2 with ⟨_, rfl⟩ | ⟨_, _, _, _, h6, _⟩
  ·exact ⟨none, 0, rfl, by simp [F.len], .inl ⟨rfl, rfl⟩, by simp [maxLen]⟩
  ·exact absurd rfl h6
 ·refine ⟨_, cap, rfl, h4, ?_, h5⟩
  rcases h2 with ⟨rfl, rfl⟩ | ⟨b, cap', f', e, h6, rfl, h7⟩
  ·exact .inl ⟨rfl, rfl⟩
  ·injection e with e1
   exact .inr ⟨b, 0, f', e1, h6, rfl, h7⟩
theorem Grow.fresh {w : World} {T : TypeId} {lo : Nat} {v : Value} {p : F} {fs : List Nat} (h : Grow w T lo v p fs) : Fresh lo w fs := h.2.2.1
theorem Grow.own_lt {w : World} {T : TypeId} {lo : Nat} {v : Value} {p : F} {fs : List Nat} (h : Grow w T lo v p fs) : ∀ k, v.ownBlock = some k → lo ≤ k ∧ k < w.heap.size := by
 obtain ⟨⟨xs, h1⟩, _⟩ := h
 exact h1.lt
theorem Grow.below {w w' : World} {T : TypeId} {lo : Nat} {v : Value} {p : F} {fs : List Nat} (h : Grow w T lo v p fs) {B : Nat} (hB : w.heap.size ≤ B) (k : Below B w w') : Grow w' T lo v p fs := by
 obtain ⟨⟨xs, h1⟩, h2, h3, h4⟩ := h
 have hg : w.grownBy w' none := ⟨k.os, k.tape, k.output, k.size, fun i hi _ => k.block i (Nat.lt_of_lt_of_le hi hB)⟩
 refine ⟨⟨xs, h1.kept hg (by cases hv : v.ownBlock <;> simp)⟩, ?_, h3.below (fun c hc => Nat.lt_of_lt_of_le (h3.lt c hc) hB) k, Nat.le_trans h4 k.size⟩
 rcases h2 with h2 | ⟨b, cap, f', e, hp, rfl, hr⟩
 ·exact .inl h2
 ·exact .inr ⟨b, cap, f', e, hp, rfl, hr.below (B := B) (Nat.lt_of_lt_of_le (h3.lt b (by simp)) hB) (fun c hc => Nat.lt_of_lt_of_le (h3.lt c (by simp [hc])) hB) k⟩
theorem Grow.drew {w : World} {T : TypeId} {lo : Nat} {v : Value} {p : F} {fs : List Nat} (h : Grow w T lo v p fs) : Grow w.drew T lo v p fs :=
 h.below (B := w.heap.size) (Nat.le_refl _) (Below.refl _ _).drew
theorem Grow.alloc {w : World} {T : TypeId} {lo : Nat} {v : Value} {p : F} {fs : List Nat} (h : Grow w T lo v p fs) (o : Obj) : Grow (w.alloc o) T lo v p fs :=
 h.below (B := w.heap.size) (Nat.le_refl _) ((Below.refl _ _).alloc (Nat.le_refl _) _)
section
variable {P : Program}
theorem append_where (w : World) (t ty e : TypeId) (i : TypeInfo) (z : Value) (ht : P.underlying t = some (.slice e)) (hi : P.info? e = some i) (hz : i.zero = some z) (h4 : i.size = 4) (h56 : i.bytes = 56)
  (lo : Nat) (v : Value) (n : Nat) (xs : List Value) (hown : w.ownsRow lo e 4 v n xs)
  (a : Addr) (c : Nat) (news : List Value) (hl : news.length = 4) (hnews : ∀ j u, news[j]? = some u → w.cell? (a.add j) = some u) (h1 : ∀ u ∈ news, u.oneCell' = true)
  (hn : n + 1 ≤ 1099511627776) {v' : Value} {w' : World} (hr : (Builtin.append_ #[t, t] ty #[v, .slice (some a) 1 c]).run P w = .ok v' w') :
  ∃ b cap, v' = .slice (some ⟨b, 0, none⟩) (n + 1) cap ∧ (some b = v.ownBlock ∨ b = w.heap.size) := by
 rcases hown.2 with ⟨rfl, rfl⟩ | ⟨g, cap, cur, rfl, hbg, hg, hnc, hcm, hcs, htake⟩
 ·rw [run_append_nil (P := P) w t ty e i z ht hi hz a 1 c news (by rw [hl, h4]) hnews (by omega) (by omega) (by omega)] at hr
  injection hr with e1 e2
  exact ⟨_, _, by rw [← e1], .inr rfl⟩
 ·by_cases hroom : n + 1 ≤ cap
  ·rw [run_append_room (P := P) w t ty e i ht hi g n cap cur hg a 1 c news (by rw [hl, h4]) hnews h1 hroom (by rw [hl, hcs, h4]; omega)] at hr
   injection hr with e1 e2
   exact ⟨_, _, by rw [← e1], .inl rfl⟩
  ·have holds : ∀ j u, xs[j]? = some u → w.cell? ((⟨g, 0, none⟩ : Addr).add j) = some u := hown.cells (g := g) rfl
   rw [run_append_grow (P := P) w t ty e i z ht hi hz ⟨g, 0, none⟩ n cap xs (by rw [h4]; exact hown.1) holds a 1 c news (by rw [hl, h4]) hnews (by omega) (by omega) (growslice_fits (by omega) (by rw [h56]; omega))] at hr
   injection hr with e1 e2
   exact ⟨_, _, by rw [← e1], .inr rfl⟩
theorem add_at (b o j : Nat) : (⟨b, o, none⟩ : Addr).add j = ⟨b, o + j, none⟩ := by unfold Addr.add; split <;> simp_all
end
end Go.Proofs.YtjcaiecapapceaaGreat
namespace Go.Proofs.YtjcaiecapapceaaGreat
open Go.RowKit
section
variable {P : Program}
theorem Grow.append2 {w : World} {t ty e : TypeId} {i : TypeInfo} {z : Value} (ht : P.underlying t = some (.slice e)) (hi : P.info? e = some i) (hz : i.zero = some z) (h4 : i.size = 4) (h56 : i.bytes = 56) (hzs : z.cells.size = 4)
  {lo m : Nat} {v : Value} {p : F} {fs : List Nat} (G : Grow w e lo v p fs) {d : Nat} {c : Nat} {o n : Int} {tx : ByteArray} {k : F} {a : Option Addr} {cap : Nat} {f1 : List Nat}
  (c0 : w.cell? ⟨d, 0, none⟩ = some (.int .i64 o)) (c1 : w.cell? ⟨d, 1, none⟩ = some (.int .i64 n)) (c2 : w.cell? ⟨d, 2, none⟩ = some (.string tx)) (c3 : w.cell? ⟨d, 3, none⟩ = some (.slice a k.len cap)) (hc : k.len ≤ cap)
  (hs : SubAt w a k f1) (hf : Fresh m w f1) (hlm : lo ≤ m) (hm : ∀ q ∈ fs, q < m) (hmo : ∀ q, v.ownBlock = some q → q < m) (hl : p.len + 1 ≤ 1099511627776) :
  ∃ v' w' fs', (Builtin.append_ #[t, t] ty #[v, .slice (some ⟨d, 0, none⟩) 1 c]).run P w = .ok v' w' ∧ Grow w' e lo v' (p.app (.cons o n tx k .nil)) fs' ∧ Below lo w w' ∧ w.grownBy w' v.ownBlock ∧ (∀ q ∈ fs', some q = v.ownBlock ∨ q ∈ fs ∨ q ∈ f1 ∨ q = w.heap.size) := by
 obtain ⟨⟨xs, h1⟩, h2, h3, h5⟩ := G
 have hnews : ∀ j u, [Value.int .i64 o, .int .i64 n, .string tx, .slice a k.len cap][j]? = some u → w.cell? ((⟨d, 0, none⟩ : Addr).add j) = some u := by
  intro j u hu
  rw [add_at, Nat.zero_add]
  match j, hu with
  | 0, hu => simp at hu; rw [← hu]; exact c0
  | 1, hu => simp at hu; rw [← hu]; exact c1
  | 2, hu => simp at hu; rw [← hu]; exact c2
  | 3, hu => simp at hu; rw [← hu]; exact c3
  | j + 4, hu => simp at hu
 have hone : ∀ u ∈ [Value.int .i64 o, .int .i64 n, .string tx, .slice a k.len cap], u.oneCell' = true := by simp [Value.oneCell']
 obtain ⟨v', w', hr, hown, hgr, _⟩ := run_append_own (P := P) w lo t ty e i z 4 56 ht hi hz h4 h56 hzs (by omega) v p.len xs h1 ⟨d, 0, none⟩ 1 c _ rfl hnews hone (by unfold maxLen; omega) (by omega) h5
 obtain ⟨b, cp, rfl, hb⟩ := append_where (P := P) w t ty e i z ht hi hz h4 h56 lo v p.len xs h1 ⟨d, 0, none⟩ c _ rfl hnews hone hl hr
 have hbel : Below lo w w' := ⟨hgr.os, hgr.tape, hgr.output, hgr.size, fun q hq => hgr.block q (by omega) (fun e => by have := h1.lt q e.symm; omega)⟩
 have hlen : (p.app (.cons o n tx k .nil)).len = p.len + 1 := by rw [F.len_app]; rfl
 have hcell := hown.cells (g := b) rfl
 have hold : ∀ j, j < 4 * p.len → ∀ b0, v.ownBlock = some b0 → w'.cell? ⟨b, j, none⟩ = w.cell? ⟨b0, j, none⟩ := by
  intro j hj b0 hb0
  have hx : j < xs.length := by rw [h1.1]; omega
  have e1 := hcell j xs[j] (by rw [List.getElem?_append_left hx]; exact List.getElem?_eq_getElem hx)
  have e2 := h1.cells hb0 j xs[j] (List.getElem?_eq_getElem hx)
  rw [add_at, Nat.zero_add] at e1 e2
  rw [e1, e2]
 have hnew : ∀ j u, [Value.int .i64 o, .int .i64 n, .string tx, .slice a k.len cap][j]? = some u → w'.cell? ⟨b, p.len * 4 + j, none⟩ = some u := by
  intro j u hu
  have e1 := hcell (p.len * 4 + j) u (by rw [List.getElem?_append_right (by rw [h1.1]; omega), h1.1, Nat.add_sub_cancel_left]; exact hu)
  rw [add_at, Nat.zero_add] at e1
  exact e1
 have hkeep : ∀ q, q < w.heap.size → v.ownBlock ≠ some q → ∀ o', w'.cell? ⟨q, o', none⟩ = w.cell? ⟨q, o', none⟩ := fun q hq hne o' => World.cell?_of_block (w := w) (hgr.block q hq (fun e => hne e.symm))
 have hkeepz : ∀ q, q < w.heap.size → v.ownBlock ≠ some q → ∀ o', w'.frozen? ⟨q, o', none⟩ = w.frozen? ⟨q, o', none⟩ := fun q hq hne o' => World.frozen?_of_block (w := w) (hgr.block q hq (fun e => hne e.symm))
 have hf1 : ∀ q ∈ f1, q < w.heap.size ∧ v.ownBlock ≠ some q := fun q hq => ⟨hf.lt q hq, fun e => by have := hmo q e; have := (hf.2 q hq).1; omega⟩
 have hs' : SubAt w' a k f1 := hs.congr (fun q hq => hkeep q (hf1 q hq).1 (hf1 q hq).2)
 have hbz : ∀ o', w'.frozen? ⟨b, o', none⟩ = false ∧ b < w'.heap.size := by
  intro o'
  rcases hown.2 with ⟨e, _⟩ | ⟨g, cap', cur, e, _, hg, _⟩
  ·cases e
  ·injection e with e1; injection e1 with e2; injection e2 with e3
   subst e3
   exact ⟨frozen_of_row w' _ _ _ _ hg, (Array.getElem?_eq_some_iff.1 hg).1⟩
 have hlast : ∀ f', (∀ q ∈ f', q < w.heap.size) → RowAt w' p b 0 f' → RowAt w' (p.app (.cons o n tx k .nil)) b 0 (f' ++ f1) := by
  intro f' _ hrow
  refine RowAt.app_iff.2 ⟨f', f1, hrow, ?_, rfl⟩
  rw [Nat.zero_add, Nat.mul_comm 4]
  exact RowAt.cons_iff.2 ⟨a, cap, f1, [], hnew 0 _ rfl, hnew 1 _ rfl, hnew 2 _ rfl, hnew 3 _ rfl, hc, hs', rfl, by simp⟩
 have hne : p.app (.cons o n tx k .nil) ≠ .nil := by intro e; rw [e] at hlen; simp [F.len] at hlen
 have hblo : lo ≤ b := by
  rcases hb with hb | hb
  ·exact (h1.lt b hb.symm).1
  ·omega
 have hbm : b < m ∨ b = w.heap.size := by
  rcases hb with hb | hb
  ·exact .inl (hmo b hb.symm)
  ·exact .inr hb
 have hf' : ∀ q ∈ f1, m ≤ q ∧ q < w'.heap.size ∧ ∀ o', w'.frozen? ⟨q, o', none⟩ = false := fun q hq => ⟨(hf.2 q hq).1, Nat.lt_of_lt_of_le (hf1 q hq).1 hgr.size, fun o' => (hkeepz q (hf1 q hq).1 (hf1 q hq).2 o').trans ((hf.2 q hq).2.2 o')⟩
 have hbf1 : b ∉ f1 := fun hq => by have h1 := (hf.2 b hq).1; have h2 := hf.lt b hq; omega
 rcases h2 with ⟨rfl, rfl⟩ | ⟨b0, cap0, f0, rfl, hp, rfl, hrow⟩
 ·refine ⟨_, w', b :: f1, hr, ⟨⟨_, by rw [hlen]; exact hown⟩, .inr ⟨b, cp, f1, by rw [hlen], hne, rfl, hlast [] (by simp) rfl⟩, ⟨List.nodup_cons.2 ⟨hbf1, hf.1⟩, fun q hq => ?_⟩, Nat.le_trans h5 hgr.size⟩, hbel, hgr, fun q hq => (by
   simp only [List.mem_cons, List.mem_append] at hq
   rcases hq with rfl | hq
   ·rcases hb with hb | hb
    ·exact .inl hb
    ·exact .inr (.inr (.inr hb))
   ·exact .inr (.inr (.inl hq)))⟩
  rcases List.mem_cons.1 hq with rfl | hq
  ·exact ⟨hblo, (hbz 0).2, fun o' => (hbz o').1⟩
  ·exact ⟨Nat.le_trans hlm (hf' q hq).1, (hf' q hq).2⟩
 ·have hnd := List.nodup_cons.1 h3.1
  have hown0 : ∀ q ∈ f0, q < w.heap.size ∧ (Value.slice (some ⟨b0, 0, none⟩) p.len cap0).ownBlock ≠ some q := fun q hq => ⟨h3.lt q (by simp [hq]), fun e => by
   simp only [Value.ownBlock, Option.some.injEq] at e
   subst e
   exact hnd.1 hq⟩
  have hrow' : RowAt w' p b 0 f0 := hrow.moved (fun o' ho => by rw [Nat.zero_add]; exact hold o' ho b0 rfl) (fun q hq => hkeep q (hown0 q hq).1 (hown0 q hq).2)
  have hb0 : b ∉ f0 := fun hq => by
   rcases hb with hb | hb
   ·simp only [Value.ownBlock, Option.some.injEq] at hb
    subst hb
    exact hnd.1 hq
   ·have := h3.lt b (by simp [hq]); omega
  refine ⟨_, w', b :: (f0 ++ f1), hr, ⟨⟨_, by rw [hlen]; exact hown⟩, .inr ⟨b, cp, f0 ++ f1, by rw [hlen], hne, rfl, hlast f0 (fun q hq => (hown0 q hq).1) hrow'⟩, ⟨List.nodup_cons.2 ⟨?_, ?_⟩, fun q hq => ?_⟩, Nat.le_trans h5 hgr.size⟩, hbel, hgr, fun q hq => (by
   simp only [List.mem_cons, List.mem_append] at hq ⊢
   rcases hq with rfl | hq | hq
   ·rcases hb with hb | hb
    ·exact .inl hb
    ·exact .inr (.inr (.inr hb))
   ·exact .inr (.inl (.inr hq))
   ·exact .inr (.inr (.inl hq)))⟩
  ·intro hq
   rcases List.mem_append.1 hq with hq | hq
   ·exact hb0 hq
   ·exact hbf1 hq
  ·refine List.nodup_append.2 ⟨hnd.2, hf.1, fun x hx y hy e => ?_⟩
   have h1 := hm x (by simp [hx])
   have h2 := (hf.2 y hy).1
   omega
  ·rcases List.mem_cons.1 hq with rfl | hq
   ·exact ⟨hblo, (hbz 0).2, fun o' => (hbz o').1⟩
   ·rcases List.mem_append.1 hq with hq | hq
    ·exact ⟨(h3.2 q (by simp [hq])).1, Nat.lt_of_lt_of_le (hown0 q hq).1 hgr.size, fun o' => (hkeepz q (hown0 q hq).1 (hown0 q hq).2 o').trans ((h3.2 q (by simp [hq])).2.2 o')⟩
    ·exact ⟨Nat.le_trans hlm (hf' q hq).1, (hf' q hq).2⟩
theorem append_doc2 {ops : Array Oper} {rest : List Oper} {op : Oper} {ac : Act} {Q : Exit → Act → World → Prop} {w : World} (hgd : op.guard = none) (s x : Operand) (t : TypeId)
  (ho : op.op = .call { callee := .builtin .append, args := #[s, x], argTypes := #[t, t] })
  {e : TypeId} {i : TypeInfo} {z : Value} (ht : P.underlying t = some (.slice e)) (hi : P.info? e = some i) (hz : i.zero = some z) (h4 : i.size = 4) (h56 : i.bytes = 56) (hzs : z.cells.size = 4)
  {lo m : Nat} {v : Value} {p : F} {fs : List Nat} (hsv : ac.eval s = v) (G : Grow w e lo v p fs) {d : Nat} {c : Nat} {o n : Int} {tx : ByteArray} {k : F} {a : Option Addr} {cap : Nat} {f1 : List Nat} (hx : ac.eval x = .slice (some ⟨d, 0, none⟩) 1 c)
  (c0 : w.cell? ⟨d, 0, none⟩ = some (.int .i64 o)) (c1 : w.cell? ⟨d, 1, none⟩ = some (.int .i64 n)) (c2 : w.cell? ⟨d, 2, none⟩ = some (.string tx)) (c3 : w.cell? ⟨d, 3, none⟩ = some (.slice a k.len cap)) (hc : k.len ≤ cap)
  (hs : SubAt w a k f1) (hf : Fresh m w f1) (hlm : lo ≤ m) (hm : ∀ q ∈ fs, q < m) (hmo : ∀ q, v.ownBlock = some q → q < m) (hl : p.len + 1 ≤ 1099511627776)
  (h : ∀ v' w' fs', Grow w' e lo v' (p.app (.cons o n tx k .nil)) fs' → Below lo w w' → w.grownBy w' v.ownBlock → (∀ q ∈ fs', some q = v.ownBlock ∨ q ∈ fs ∨ q ∈ f1 ∨ q = w.heap.size) → wpList P ops Q rest (ac.put op.dst v') w') : wpList P ops Q (op :: rest) ac w := by
 refine wpList_plain hgd fun K hK => ?_
 obtain ⟨v', w', fs', hr, h2, h3, h5, h6⟩ := Grow.append2 (P := P) (t := t) (ty := op.type) (c := c) ht hi hz h4 h56 hzs G c0 c1 c2 c3 hc hs hf hlm hm hmo hl
 unfold Oper.wp execOp
 simp only [ho, resolve, invoke, builtin, Sem.run_bind, Sem.run_pure, Result.andThen_ok, List.map_toArray, List.map_cons, List.map_nil, hsv, hx, hr]
 exact hK _ _ (h v' w' fs' h2 h3 h5 h6)
theorem Grow.append {w : World} {t ty e : TypeId} {i : TypeInfo} {z : Value} (ht : P.underlying t = some (.slice e)) (hi : P.info? e = some i) (hz : i.zero = some z) (h4 : i.size = 4) (h56 : i.bytes = 56) (hzs : z.cells.size = 4)
  {lo m : Nat} {v : Value} {p : F} {fs : List Nat} (G : Grow w e lo v p fs) {d : Nat} {c : Nat} {o n : Int} {tx : ByteArray} {k : F} {a : Option Addr} {cap : Nat} {f1 : List Nat}
  (c0 : w.cell? ⟨d, 0, none⟩ = some (.int .i64 o)) (c1 : w.cell? ⟨d, 1, none⟩ = some (.int .i64 n)) (c2 : w.cell? ⟨d, 2, none⟩ = some (.string tx)) (c3 : w.cell? ⟨d, 3, none⟩ = some (.slice a k.len cap)) (hc : k.len ≤ cap)
  (hs : SubAt w a k f1) (hf : Fresh m w f1) (hlm : lo ≤ m) (hm : ∀ q ∈ fs, q < m) (hmo : ∀ q, v.ownBlock = some q → q < m) (hl : p.len + 1 ≤ 1099511627776) :
  ∃ v' w' fs', (Builtin.append_ #[t, t] ty #[v, .slice (some ⟨d, 0, none⟩) 1 c]).run P w = .ok v' w' ∧ Grow w' e lo v' (p.app (.cons o n tx k .nil)) fs' ∧ Below lo w w' ∧ w.grownBy w' v.ownBlock := by
 obtain ⟨v', w', fs', h1, h2, h3, h4, _⟩ := Grow.append2 (P := P) (t := t) (ty := ty) (c := c) ht hi hz h4 h56 hzs G c0 c1 c2 c3 hc hs hf hlm hm hmo hl
 exact ⟨v', w', fs', h1, h2, h3, h4⟩
theorem append_doc {ops : Array Oper} {rest : List Oper} {op : Oper} {ac : Act} {Q : Exit → Act → World → Prop} {w : World} (hgd : op.guard = none) (s x : Operand) (t : TypeId)
  (ho : op.op = .call { callee := .builtin .append, args := #[s, x], argTypes := #[t, t] })
  {e : TypeId} {i : TypeInfo} {z : Value} (ht : P.underlying t = some (.slice e)) (hi : P.info? e = some i) (hz : i.zero = some z) (h4 : i.size = 4) (h56 : i.bytes = 56) (hzs : z.cells.size = 4)
  {lo m : Nat} {v : Value} {p : F} {fs : List Nat} (hsv : ac.eval s = v) (G : Grow w e lo v p fs) {d : Nat} {c : Nat} {o n : Int} {tx : ByteArray} {k : F} {a : Option Addr} {cap : Nat} {f1 : List Nat} (hx : ac.eval x = .slice (some ⟨d, 0, none⟩) 1 c)
  (c0 : w.cell? ⟨d, 0, none⟩ = some (.int .i64 o)) (c1 : w.cell? ⟨d, 1, none⟩ = some (.int .i64 n)) (c2 : w.cell? ⟨d, 2, none⟩ = some (.string tx)) (c3 : w.cell? ⟨d, 3, none⟩ = some (.slice a k.len cap)) (hc : k.len ≤ cap)
  (hs : SubAt w a k f1) (hf : Fresh m w f1) (hlm : lo ≤ m) (hm : ∀ q ∈ fs, q < m) (hmo : ∀ q, v.ownBlock = some q → q < m) (hl : p.len + 1 ≤ 1099511627776)
  (h : ∀ v' w' fs', Grow w' e lo v' (p.app (.cons o n tx k .nil)) fs' → Below lo w w' → w.grownBy w' v.ownBlock → wpList P ops Q rest (ac.put op.dst v') w') : wpList P ops Q (op :: rest) ac w :=
 append_doc2 hgd s x t ho ht hi hz h4 h56 hzs hsv G hx c0 c1 c2 c3 hc hs hf hlm hm hmo hl (fun v' w' fs' a b c _ => h v' w' fs' a b c)
end
end Go.Proofs.YtjcaiecapapceaaGreat
namespace Go.Proofs.YtjcaiecapapceaaGreat
open Go.RowKit P1
namespace L
def tsz : List (Int × ByteArray) → Nat
 | [] => 0
 | r :: l => r.2.size + tsz l
theorem tsz_app (l k : List (Int × ByteArray)) : tsz (l ++ k) = tsz l + tsz k := by
 induction l with
 | nil => simp [tsz]
 | cons r l ih => simp [tsz, ih]; omega
theorem take_succ {α : Type} {l : List α} {k : Nat} (h : k < l.length) : l.take (k + 1) = l.take k ++ [l[k]] := by
 rw [List.take_succ_eq_append_getElem h]
theorem tsz_take {l : List (Int × ByteArray)} {k : Nat} (h : k < l.length) : tsz (l.take (k + 1)) = tsz (l.take k) + l[k].2.size := by
 rw [take_succ h, tsz_app]; simp [tsz]
theorem tsz_take_le (l : List (Int × ByteArray)) (k : Nat) : tsz (l.take k) ≤ tsz l := by
 have := tsz_app (l.take k) (l.drop k)
 rw [List.take_append_drop] at this; omega
theorem tsz_get_le {l : List (Int × ByteArray)} {k : Nat} (h : k < l.length) : l[k].2.size ≤ tsz l := by
 have := tsz_take h; have := tsz_take_le l (k + 1); omega
def size (l : List (Int × ByteArray)) : Nat := l.length + tsz l
def Fits (l : List (Int × ByteArray)) : Prop := ∀ r ∈ l, r.2.size ≤ maxLen
theorem Fits.get {l : List (Int × ByteArray)} (h : Fits l) {k : Nat} (hk : k < l.length) : l[k].2.size ≤ maxLen := h _ (List.getElem_mem hk)
end L
def LayAt (w : World) (l : List (Int × ByteArray)) (b off : Nat) : Prop := ∀ i, (h : i < l.length) → w.cell? ⟨b, off + i * 2, none⟩ = some (.int .i64 l[i].1) ∧ w.cell? ⟨b, off + i * 2 + 1, none⟩ = some (.string l[i].2)
def LaySub (w : World) (a : Option Addr) (l : List (Int × ByteArray)) (fs : List Nat) : Prop :=
 (l = [] ∧ fs = []) ∨ (∃ b off, a = some ⟨b, off, none⟩ ∧ l ≠ [] ∧ fs = [b] ∧ LayAt w l b off)
theorem LayAt.congr {w w' : World} {l : List (Int × ByteArray)} {b off : Nat} (h : LayAt w l b off) (hb : ∀ o, off ≤ o → o < off + l.length * 2 → w'.cell? ⟨b, o, none⟩ = w.cell? ⟨b, o, none⟩) : LayAt w' l b off := fun i hi =>
 ⟨(hb _ (by omega) (by omega)).trans (h i hi).1, (hb _ (by omega) (by omega)).trans (h i hi).2⟩
theorem LayAt.below {w w' : World} {l : List (Int × ByteArray)} {b off B : Nat} (h : LayAt w l b off) (hb : b < B) (k : Below B w w') : LayAt w' l b off := h.congr fun _ _ _ => k.cell (p := ⟨_, _, _⟩) hb
theorem LayAt.nil (w : World) (b off : Nat) : LayAt w [] b off := fun i h => by simp at h
theorem LayAt.lt {w : World} {l : List (Int × ByteArray)} {b off : Nat} (h : LayAt w l b off) (hl : l ≠ []) : b < w.heap.size := by
 have h0 : 0 < l.length := List.length_pos_iff.2 hl
 exact World.block_lt_of_cell? w _ (h 0 h0).1
theorem LayAt.drop {w : World} {l : List (Int × ByteArray)} {b off : Nat} (h : LayAt w l b off) (k : Nat) : LayAt w (l.drop k) b (off + k * 2) := fun i hi => by
 have hi' : k + i < l.length := by simp at hi; omega
 have := h (k + i) hi'
 rw [List.getElem_drop]
 rw [show off + k * 2 + i * 2 = off + (k + i) * 2 by omega]
 exact this
theorem LayAt.app {w : World} {l k : List (Int × ByteArray)} {b off : Nat} (h : LayAt w l b off) (g : LayAt w k b (off + l.length * 2)) : LayAt w (l ++ k) b off := fun i hi => by
 by_cases hl : i < l.length
 ·rw [List.getElem_append_left hl]; exact h i hl
 ·have hi' : i - l.length < k.length := by simp at hi; omega
  have := g (i - l.length) hi'
  rw [List.getElem_append_right (by omega)]
  rw [show off + l.length * 2 + (i - l.length) * 2 = off + i * 2 by omega] at this
  exact this
theorem LaySub.congr {w w' : World} {a : Option Addr} {l : List (Int × ByteArray)} {fs : List Nat} (h : LaySub w a l fs) (hb : ∀ b ∈ fs, ∀ o, w'.cell? ⟨b, o, none⟩ = w.cell? ⟨b, o, none⟩) : LaySub w' a l fs := by
 rcases h with h | ⟨b, off, ha, hl, rfl, hr⟩
 ·exact .inl h
 ·exact .inr ⟨b, off, ha, hl, rfl, hr.congr fun o _ _ => hb b (by simp) o⟩
theorem LaySub.below {w w' : World} {a : Option Addr} {l : List (Int × ByteArray)} {fs : List Nat} {B : Nat} (h : LaySub w a l fs) (hfs : ∀ c ∈ fs, c < B) (k : Below B w w') : LaySub w' a l fs :=
 h.congr fun b hb _ => k.cell (p := ⟨_, _, _⟩) (hfs b hb)
theorem LaySub.lt {w : World} {a : Option Addr} {l : List (Int × ByteArray)} {fs : List Nat} (h : LaySub w a l fs) : ∀ c ∈ fs, c < w.heap.size := by
 rcases h with ⟨_, rfl⟩ | ⟨b, off, ha, hl, rfl, hr⟩
 ·simp
 ·simpa using hr.lt hl
theorem LayAt.put {w : World} {l : List (Int × ByteArray)} {b L k : Nat} {n : Int} {t : ByteArray} (h : LayAt w l b 0) (hk : l.length = k) (ht : w.there b 0 (L * 2)) (hL : k < L) :
  LayAt (w.setCells b (k * 2) [.int .i64 n, .string t]) (l ++ [(n, t)]) b 0 := by
 subst hk
 have hth : w.there b (l.length * 2) 2 := there_part ht (by omega)
 have hr := World.rangeAt_setCells_same w b (l.length * 2) [.int .i64 n, .string t] hth
 refine LayAt.app (h.congr fun o' _ h2 => World.cell?_setCells_out b _ _ w ⟨b, o', none⟩ (fun _ _ => Or.inl (by simp; omega))) ?_
 intro i hi
 obtain rfl : i = 0 := by simpa using hi
 refine ⟨?_, ?_⟩
 ·have := hr 0 _ rfl; simpa using this
 ·have := hr 1 _ rfl; simpa using this
theorem LayAt.setN {w : World} {l : List (Int × ByteArray)} {b off k : Nat} {n : Int} {t : ByteArray} (h : LayAt w l b off) (hk : k < l.length) (e : l[k] = (n, t)) (m : Int) :
  LayAt (w.setCell ⟨b, off + k * 2, none⟩ (.int .i64 m)) (l.set k (m, t)) b off := fun i hi => by
 have hi' : i < l.length := by simpa using hi
 have h0 := h i hi'
 by_cases hik : i = k
 ·subst hik
  rw [e] at h0
  rw [List.getElem_set_self]
  exact ⟨World.cell?_setCell_same _ _ _ h0.1, by rw [World.cell?_setCell_other _ _ _ _ (by simp)]; exact h0.2⟩
 ·rw [List.getElem_set_ne (fun e => hik e.symm)]
  refine ⟨?_, ?_⟩
  ·rw [World.cell?_setCell_other _ _ _ _ (by intro e; injection e with e1 e2; omega)]; exact h0.1
  ·rw [World.cell?_setCell_other _ _ _ _ (by intro e; injection e with e1 e2; omega)]; exact h0.2
theorem LayAt.setT {w : World} {l : List (Int × ByteArray)} {b off k : Nat} {n : Int} {t : ByteArray} (h : LayAt w l b off) (hk : k < l.length) (e : l[k] = (n, t)) (u : ByteArray) :
  LayAt (w.setCell ⟨b, off + k * 2 + 1, none⟩ (.string u)) (l.set k (n, u)) b off := fun i hi => by
 have hi' : i < l.length := by simpa using hi
 have h0 := h i hi'
 by_cases hik : i = k
 ·subst hik
  rw [e] at h0
  rw [List.getElem_set_self]
  exact ⟨by rw [World.cell?_setCell_other _ _ _ _ (by simp)]; exact h0.1, World.cell?_setCell_same _ _ _ h0.2⟩
 ·rw [List.getElem_set_ne (fun e => hik e.symm)]
  refine ⟨?_, ?_⟩
  ·rw [World.cell?_setCell_other _ _ _ _ (by intro e; injection e with e1 e2; omega)]; exact h0.1
  ·rw [World.cell?_setCell_other _ _ _ _ (by intro e; injection e with e1 e2; omega)]; exact h0.2
namespace L
def mk : List (Int × ByteArray) → Nat → List (Int × ByteArray)
 | [], _ => []
 | _ :: l, m => ((m : Int), mt (m + 1)) :: mk l (m + 2)
end L
namespace P1
def lb (c : UInt8) : Bool := c == 32 || tb c
def lt (l : List UInt8) : Bool := decide (l.length < 2000) && l.all lb
theorem lt_long {l : List UInt8} (h : 2000 ≤ l.length) : lt l = false := by simp [lt]; intro h1; omega
theorem lt_of {l : List UInt8} (h : l.length < 2000) : lt l = l.all lb := by simp [lt, h]
theorem lb_num (c : UInt8) : lb c = (((c.toNat : Int) == 32) || tb c) := by unfold lb; rw [u8_beq]; rfl
def rv (r : Int × ByteArray) : Bool := decide (0 ≤ r.1) && decide (r.1 ≤ 400) && lt r.2.data.toList
def head0 : List (Int × ByteArray) → Bool
 | [] => false
 | r :: _ => decide (r.1 = 0)
def lv (l : List (Int × ByteArray)) : Bool := decide (1 ≤ l.length) && decide (l.length ≤ 200) && head0 l && l.all rv
theorem head0_get {l : List (Int × ByteArray)} (h : 0 < l.length) : head0 l = decide (l[0].1 = 0) := by
 cases l with
 | nil => simp at h
 | cons r l => rfl
theorem lv_long {l : List (Int × ByteArray)} (h : 200 < l.length) : lv l = false := by simp [lv]; intro h1 h2; omega
theorem lv_head {l : List (Int × ByteArray)} (h : 0 < l.length) (h0 : l[0].1 ≠ 0) : lv l = false := by unfold lv; rw [head0_get h]; simp [h0]
theorem lv_of {l : List (Int × ByteArray)} (h : 0 < l.length) (h1 : l.length ≤ 200) (h0 : l[0].1 = 0) : lv l = l.all rv := by unfold lv; rw [head0_get h]; simp [h0, h1]; omega
theorem all_get {l : List (Int × ByteArray)} {k : Nat} (hk : k < l.length) (h : rv l[k] = false) : l.all rv = false := by
 rw [List.all_eq_false]; exact ⟨_, List.getElem_mem hk, by simp [h]⟩
theorem lv_bad {l : List (Int × ByteArray)} {k : Nat} (hk : k < l.length) (h : rv l[k] = false) : lv l = false := by
 unfold lv; rw [all_get hk h, Bool.and_false]
theorem all_take {l : List (Int × ByteArray)} {k : Nat} (hk : k < l.length) : (l.take (k + 1)).all rv = ((l.take k).all rv && rv l[k]) := by
 rw [L.take_succ hk]; simp only [List.all_append, List.all_cons, List.all_nil, Bool.and_true]
theorem lv_len {l : List (Int × ByteArray)} (h : lv l = true) : 1 ≤ l.length ∧ l.length ≤ 200 := by
 simp only [lv, Bool.and_eq_true, decide_eq_true_eq] at h; exact h.1.1
theorem lv_get {l : List (Int × ByteArray)} (h : lv l = true) {k : Nat} (hk : k < l.length) : rv l[k] = true := by
 simp only [lv, Bool.and_eq_true, List.all_eq_true] at h; exact h.2 _ (List.getElem_mem hk)
theorem rv_iff {r : Int × ByteArray} : rv r = true ↔ 0 ≤ r.1 ∧ r.1 ≤ 400 ∧ lt r.2.data.toList = true := by simp [rv, and_assoc]
theorem lt_len {l : List UInt8} (h : lt l = true) : l.length < 2000 := by simp [lt] at h; exact h.1
end P1
end Go.Proofs.YtjcaiecapapceaaGreat
namespace Go.Proofs.YtjcaiecapapceaaGreat.P1
open Go.RowKit
def sp (n : Nat) : ByteArray := ⟨(List.replicate n (32 : UInt8)).toArray⟩
theorem sp_size (n : Nat) : (sp n).size = n := by show (List.replicate n (32 : UInt8)).toArray.size = n; simp
def ln (n : Int) (t : ByteArray) : ByteArray := if t.size = 0 then ⟨#[]⟩ else sp n.toNat ++ t
theorem ln_no {n : Int} {t : ByteArray} (h : t.size = 0) : ln n t = ⟨#[]⟩ := by simp [ln, h]
theorem ln_yes {n : Int} {t : ByteArray} (h : t.size ≠ 0) : ln n t = sp n.toNat ++ t := by simp [ln, h]
def rowW (r : Int × ByteArray) : Int := if r.2.size = 0 then 0 else r.1 + r.2.size
theorem rowW_no {n : Int} {t : ByteArray} (h : t.size = 0) : rowW (n, t) = 0 := by simp [rowW, h]
theorem rowW_yes {n : Int} {t : ByteArray} (h : t.size ≠ 0) : rowW (n, t) = n + t.size := by simp [rowW, h]
theorem ln_size {n : Int} {t : ByteArray} (h : 0 ≤ n) : ((ln n t).size : Int) = rowW (n, t) := by
 by_cases h0 : t.size = 0
 ·rw [ln_no h0, rowW_no h0]; rfl
 ·rw [ln_yes h0, rowW_yes h0, ByteArray.size_append, sp_size]; omega
theorem rv_len {r : Int × ByteArray} (h : rv r = true) : 0 ≤ r.1 ∧ r.1 ≤ 400 ∧ r.2.size < 2000 := by
 have := rv_iff.1 h
 have h2 := lt_len this.2.2
 have e : r.2.data.toList.length = r.2.size := by simp
 exact ⟨this.1, this.2.1, by omega⟩
theorem rowW_bd {r : Int × ByteArray} (h : rv r = true) : 0 ≤ rowW r ∧ rowW r ≤ 2399 := by
 have := rv_len h
 unfold rowW; split <;> omega
def wid (l : List (Int × ByteArray)) : Int := l.foldl (fun m r => max m (rowW r)) 0
def ov (x : Int) (l : List (Int × ByteArray)) : Int := l.foldl (fun m r => m + max 0 (rowW r - x)) 0
def lo (l : List (Int × ByteArray)) (x : Int) : Int := if lv l = true ∧ 0 ≤ x then ov x l else 0
end Go.Proofs.YtjcaiecapapceaaGreat.P1
namespace Go.Proofs.YtjcaiecapapceaaGreat.P1
open Go.RowKit
def nestL (n : Int) : List (Int × ByteArray) → List (Int × ByteArray)
 | [] => []
 | r :: l => r :: l.map fun r => (r.1 + n, r.2)
theorem nestL_length (n : Int) (l : List (Int × ByteArray)) : (nestL n l).length = l.length := by cases l <;> simp [nestL]
theorem nestL_get (n : Int) {l : List (Int × ByteArray)} {k : Nat} (hk : k < l.length) (h0 : 0 < k) (h : k < (nestL n l).length) : (nestL n l)[k] = (l[k].1 + n, l[k].2) := by
 cases l with
 | nil => simp at hk
 | cons r l =>
   cases k with
   | zero => omega
   | succ k => simp [nestL]
def catL : List (Int × ByteArray) → List (Int × ByteArray) → List (Int × ByteArray)
 | a, [] => a
 | a, r :: k => a.dropLast ++ (match a.getLast? with | none => [] | some q => [(q.1, q.2 ++ r.2)]) ++ k
theorem catL_set {a b : List (Int × ByteArray)} (ha : 0 < a.length) (hb : 0 < b.length) : catL a b = a.set (a.length - 1) ((a[a.length - 1]'(by omega)).1, (a[a.length - 1]'(by omega)).2 ++ b[0].2) ++ b.drop 1 := by
 cases b with
 | nil => simp at hb
 | cons r k =>
   have hne : a ≠ [] := List.length_pos_iff.1 ha
   obtain ⟨p, q, rfl⟩ : ∃ p q, a = p ++ [q] := ⟨a.dropLast, a.getLast hne, (List.dropLast_concat_getLast hne).symm⟩
   simp [catL]
end Go.Proofs.YtjcaiecapapceaaGreat.P1
namespace Go.Proofs.YtjcaiecapapceaaGreat.P1
open Go.RowKit
def opn (o n : Int) (t : ByteArray) (ls : List (List (Int × ByteArray))) : List (Int × ByteArray) :=
 if o = 2 then [(0, t)] else if o = 3 ∨ o = 4 ∨ o = 5 then [(0, ⟨#[]⟩), (0, ⟨#[]⟩)] else if o = 6 then nestL n (ls.getD 0 []) else if o = 7 then catL (ls.getD 0 []) (ls.getD 1 []) else if o = 8 then ls.getD 0 [] else [(0, ⟨#[]⟩)]
def opens : F → List (List (Int × ByteArray))
 | .nil => []
 | .cons o n t k r => opn o n t (opens k) :: opens r
def openD (o n : Int) (t : ByteArray) (k : F) : List (Int × ByteArray) := opn o n t (opens k)
theorem openD_text (n : Int) (t : ByteArray) (k : F) : openD 2 n t k = [(0, t)] := rfl
theorem openD_line {o : Int} (h : o = 3 ∨ o = 4 ∨ o = 5) (n : Int) (t : ByteArray) (k : F) : openD o n t k = [(0, ⟨#[]⟩), (0, ⟨#[]⟩)] := by
 rcases h with rfl | rfl | rfl <;> rfl
theorem openD_empty (n : Int) (t : ByteArray) (k : F) : openD 1 n t k = [(0, ⟨#[]⟩)] := rfl
theorem openD_nest (n : Int) (t : ByteArray) (o1 n1 : Int) (t1 : ByteArray) (k1 : F) : openD 6 n t (.cons o1 n1 t1 k1 .nil) = nestL n (openD o1 n1 t1 k1) := rfl
theorem openD_group (n : Int) (t : ByteArray) (o1 n1 : Int) (t1 : ByteArray) (k1 : F) : openD 8 n t (.cons o1 n1 t1 k1 .nil) = openD o1 n1 t1 k1 := rfl
theorem openD_cat (n : Int) (t : ByteArray) (o1 n1 : Int) (t1 : ByteArray) (k1 : F) (o2 n2 : Int) (t2 : ByteArray) (k2 : F) : openD 7 n t (.cons o1 n1 t1 k1 (.cons o2 n2 t2 k2 .nil)) = catL (openD o1 n1 t1 k1) (openD o2 n2 t2 k2) := rfl
structure Gd (l : List (Int × ByteArray)) (c h : Nat) : Prop where
 ne : 0 < l.length
 len : l.length ≤ c + 1
 h0 : ∀ (hh : 0 < l.length), l[0].1 = 0
 ind : ∀ r ∈ l, 0 ≤ r.1 ∧ r.1 ≤ 9 * h
 ch : ∀ r ∈ l, r.2.data.toList.all lb = true
 ts : L.tsz l ≤ 12 * c
theorem Gd.mono {l : List (Int × ByteArray)} {c h c' h' : Nat} (g : Gd l c h) (hc : c ≤ c') (hh : h ≤ h') : Gd l c' h' :=
 ⟨g.ne, by have := g.len; omega, g.h0, fun r hr => by have := g.ind r hr; omega, g.ch, by have := g.ts; omega⟩
theorem Gd.lv {l : List (Int × ByteArray)} {c h : Nat} (g : Gd l c h) (hc : c ≤ 80) (hh : h ≤ 40) : lv l = true := by
 have h1 := g.len
 rw [lv_of g.ne (by omega) (g.h0 g.ne), List.all_eq_true]
 intro r hr
 rw [rv_iff]
 obtain ⟨i, hi, rfl⟩ := List.getElem_of_mem hr
 have h2 := g.ind _ hr
 have h3 := L.tsz_get_le hi
 have h4 := g.ts
 refine ⟨h2.1, by omega, ?_⟩
 rw [lt_of (by simp; omega)]
 exact g.ch _ hr
theorem tsz_map (n : Int) (l : List (Int × ByteArray)) : L.tsz (l.map fun r => (r.1 + n, r.2)) = L.tsz l := by
 induction l with
 | nil => rfl
 | cons r l ih => simp [L.tsz, ih]
theorem Gd.nest {l : List (Int × ByteArray)} {c h : Nat} (g : Gd l c h) {n : Int} (h0 : 0 ≤ n) (h1 : n ≤ 9) : Gd (nestL n l) (c + 1) (h + 1) := by
 obtain ⟨gn, gl, g0, gi, gc, gt⟩ := g
 cases l with
 | nil => simp at gn
 | cons r l =>
   refine ⟨by simp [nestL], by simp [nestL] at gl ⊢; omega, fun _ => g0 (by simp), fun q hq => ?_, fun q hq => ?_, ?_⟩
   ·simp only [nestL, List.mem_cons, List.mem_map] at hq
    rcases hq with rfl | ⟨p, hp, rfl⟩
    ·have := gi q (by simp); omega
    ·have := gi p (by simp [hp]); simp only; omega
   ·simp only [nestL, List.mem_cons, List.mem_map] at hq
    rcases hq with rfl | ⟨p, hp, rfl⟩
    ·exact gc q (by simp)
    ·exact gc p (by simp [hp])
   ·simp only [nestL, L.tsz, tsz_map] at gt ⊢
    omega
theorem Gd.cat {a b : List (Int × ByteArray)} {c1 h1 c2 h2 : Nat} (ga : Gd a c1 h1) (gb : Gd b c2 h2) : Gd (catL a b) (c1 + c2) (max h1 h2) := by
 have hne : a ≠ [] := List.length_pos_iff.1 ga.ne
 obtain ⟨p, q, rfl⟩ : ∃ p q, a = p ++ [q] := ⟨a.dropLast, a.getLast hne, (List.dropLast_concat_getLast hne).symm⟩
 cases b with
 | nil => have := gb.ne; simp at this
 | cons r k =>
   have e : catL (p ++ [q]) (r :: k) = p ++ (q.1, q.2 ++ r.2) :: k := by simp [catL]
   rw [e]
   obtain ⟨an, al, a0, ai, ac, at'⟩ := ga
   obtain ⟨bn, bl, b0, bi, bc, bt⟩ := gb
   refine ⟨by simp; omega, by simp at al bl ⊢; omega, fun _ => ?_, fun x hx => ?_, fun x hx => ?_, ?_⟩
   ·cases p with
    | nil => have := a0 (by simp); simpa using this
    | cons x p => have := a0 (by simp); simpa using this
   ·simp only [List.mem_append, List.mem_cons] at hx
    rcases hx with hx | rfl | hx
    ·have := ai x (by simp [hx]); omega
    ·have := ai q (by simp); simp only; omega
    ·have := bi x (by simp [hx]); omega
   ·simp only [List.mem_append, List.mem_cons] at hx
    rcases hx with hx | rfl | hx
    ·exact ac x (by simp [hx])
    ·have h1 := ac q (by simp)
     have h2 := bc r (by simp)
     simp only [ByteArray.data_append, Array.toList_append, List.all_append, h1, h2, Bool.and_self]
    ·exact bc x (by simp [hx])
   ·rw [L.tsz_app] at at' ⊢
    simp only [L.tsz, ByteArray.size_append] at at' bt ⊢
    omega
theorem one_kid {k : F} (h : k.len = 1) : ∃ o n t k1, k = .cons o n t k1 .nil := by
 cases k with
 | nil => simp [F.len] at h
 | cons o n t k1 r =>
   cases r with
   | nil => exact ⟨o, n, t, k1, rfl⟩
   | cons => simp [F.len] at h
theorem two_kids {k : F} (h : k.len = 2) : ∃ o n t k1 o2 n2 t2 k2, k = .cons o n t k1 (.cons o2 n2 t2 k2 .nil) := by
 cases k with
 | nil => simp [F.len] at h
 | cons o n t k1 r =>
   obtain ⟨o2, n2, t2, k2, rfl⟩ := one_kid (k := r) (by simp [F.len] at h; omega)
   exact ⟨o, n, t, k1, o2, n2, t2, k2, rfl⟩
theorem node_kinds {o n : Int} {t : ByteArray} {l : Nat} (h : nodeB o n t l = true) :
  (o = 2 ∧ tv t.data.toList = true ∧ l = 0) ∨ ((o = 1 ∨ o = 3 ∨ o = 4 ∨ o = 5) ∧ t = ⟨#[]⟩ ∧ l = 0) ∨ (o = 6 ∧ t = ⟨#[]⟩ ∧ 0 ≤ n ∧ n ≤ 9 ∧ l = 1) ∨ (o = 7 ∧ t = ⟨#[]⟩ ∧ l = 2) ∨ (o = 8 ∧ t = ⟨#[]⟩ ∧ l = 1) := by
 simp only [nodeB, Bool.and_eq_true, decide_eq_true_eq] at h
 obtain ⟨⟨h1, h2⟩, h3⟩ := h
 rcases kidsOf_ways o with ⟨rfl, hk⟩ | ⟨rfl, hk⟩ | ⟨rfl, hk⟩ | ⟨rfl, hk⟩ | ⟨rfl, hk⟩ | ⟨rfl, hk⟩ | ⟨rfl, hk⟩ | ⟨rfl, hk⟩ | ⟨_, _, _, _, _, _, _, _, hk⟩ <;> rw [hk] at h1 <;> simp [textB, numB] at h2 h3 <;> first | omega | (simp_all; done) | (simp_all; omega)
theorem tv_chars {t : ByteArray} (h : tv t.data.toList = true) : t.data.toList.all lb = true ∧ t.size ≤ 12 := by
 have h1 := tv_len h
 refine ⟨?_, by simpa using h1.2⟩
 rw [tv_of h1.1 h1.2, List.all_eq_true] at h
 rw [List.all_eq_true]
 intro c hc
 unfold lb
 rw [h c hc, Bool.or_true]
theorem open_good : ∀ (d : Nat) (o n : Int) (t : ByteArray) (k : F), okD d o n t k = true → Gd (openD o n t k) (1 + k.cnt) d := by
 intro d
 induction d with
 | zero => intro o n t k h; rw [okD_zero] at h; cases h
 | succ d ih =>
   intro o n t k h
   simp only [okD, Bool.and_eq_true, decide_eq_true_eq] at h
   obtain ⟨⟨_, hn⟩, hk⟩ := h
   rw [show d + 1 - 1 = d by omega] at hk
   rcases node_kinds hn with ⟨rfl, ht, hl⟩ | ⟨ho, rfl, hl⟩ | ⟨rfl, rfl, h0, h9, hl⟩ | ⟨rfl, rfl, hl⟩ | ⟨rfl, rfl, hl⟩
   ·obtain ⟨h1, h2⟩ := tv_chars ht
    rw [openD_text]
    exact ⟨by simp, by simp, fun _ => rfl, fun r hr => by simp at hr; subst hr; simp only; omega, fun r hr => by simp at hr; subst hr; exact h1, by simp [L.tsz]; omega⟩
   ·have e : openD o n ⟨#[]⟩ k = [(0, ⟨#[]⟩)] ∨ openD o n ⟨#[]⟩ k = [(0, ⟨#[]⟩), (0, ⟨#[]⟩)] := by
     rcases ho with rfl | rfl | rfl | rfl
     ·exact .inl rfl
     ·exact .inr rfl
     ·exact .inr rfl
     ·exact .inr rfl
    have hz : (⟨#[]⟩ : ByteArray).size = 0 := rfl
    rcases e with e | e <;> rw [e]
    ·exact ⟨by simp, by simp, fun _ => rfl, fun r hr => by simp at hr; subst hr; simp only; omega, fun r hr => by simp at hr; subst hr; rfl, by simp [L.tsz, hz]⟩
    ·exact ⟨by simp, by simp, fun _ => rfl, fun r hr => by simp at hr; subst hr; simp only; omega, fun r hr => by simp at hr; subst hr; rfl, by simp [L.tsz, hz]⟩
   ·obtain ⟨o1, n1, t1, k1, rfl⟩ := one_kid hl
    rw [openD_nest]
    rw [ok_cons, Bool.and_eq_true] at hk
    exact ((ih _ _ _ _ hk.1).nest h0 h9).mono (by simp only [F.cnt]; omega) (Nat.le_refl _)
   ·obtain ⟨o1, n1, t1, k1, o2, n2, t2, k2, rfl⟩ := two_kids hl
    rw [openD_cat]
    rw [ok_cons, ok_cons, Bool.and_eq_true, Bool.and_eq_true] at hk
    exact ((ih _ _ _ _ hk.1).cat (ih _ _ _ _ hk.2.1)).mono (by simp only [F.cnt]; omega) (by omega)
   ·obtain ⟨o1, n1, t1, k1, rfl⟩ := one_kid hl
    rw [openD_group]
    rw [ok_cons, Bool.and_eq_true] at hk
    exact (ih _ _ _ _ hk.1).mono (by simp only [F.cnt]; omega) (by omega)
end Go.Proofs.YtjcaiecapapceaaGreat.P1
namespace Go.Proofs.YtjcaiecapapceaaGreat
open Go.RowKit
def Plain (w : World) (b : Nat) : Prop := (∃ cs T fr, w.heap[b]? = some (.cells cs T fr)) ∧ ∀ o, w.frozen? ⟨b, o, none⟩ = false
theorem Plain.of_cell {w : World} {b o : Nat} {v : Value} (h : w.cell? ⟨b, o, none⟩ = some v) (hf : ∀ o, w.frozen? ⟨b, o, none⟩ = false) : Plain w b := by
 refine ⟨?_, hf⟩
 unfold World.cell? at h
 cases hb : w.heap[b]? with
 | none => simp [hb] at h
 | some ob =>
   cases ob with
   | cells cs T fr => exact ⟨cs, T, fr, rfl⟩
   | _ => simp [hb] at h
section
variable {P : Program}
theorem run_sameAddr_plain {w : World} {a b : Addr} (ha : Plain w a.block) (hb : Plain w b.block) (sa : a.spot = none) (sb : b.spot = none) : (sameAddr a b).run P w = .ok (decide (a = b)) w := by
 obtain ⟨⟨ca, ta, fa, ea⟩, za⟩ := ha
 obtain ⟨⟨cb, tb, fb, eb⟩, zb⟩ := hb
 obtain ⟨a1, a2, a3⟩ := a
 obtain ⟨b1, b2, b3⟩ := b
 obtain rfl : a3 = none := sa
 obtain rfl : b3 = none := sb
 by_cases hbl : a1 = b1
 ·subst hbl
  by_cases ho : a2 = b2
  ·subst ho; simp [sameAddr]
  ·simp [sameAddr, ho]
 ·simp only at ea eb za zb
  simp [sameAddr, hbl, za, zb, noView, viewAt, World.shape?, ea, eb, mayBeOne, stringish]
structure ListKey (P : Program) (K te : TypeId) (f0 f1 : Field) (i j0 j1 : TypeInfo) : Prop where
 und : P.underlying K = some (.struct #[f0, f1])
 n0 : f0.name ≠ "_"
 n1 : f1.name ≠ "_"
 o0 : f0.offset = 0
 o1 : f1.offset = 1
 u0 : P.underlying f0.type = some (.pointer te)
 u1 : P.underlying f1.type = some (.int .i64)
 it : P.info? te = some i
 sz : i.size ≠ 0
 held : P.stoodInHeld K = false
 ik : P.info? K = some j0
 ck : j0.size = 2
abbrev LK := Nat × Nat × Nat
def lkCells (a : LK) : Array Value := #[.pointer (some ⟨a.1, a.2.1, none⟩), .int .i64 a.2.2]
def lkV (a : LK) : Value := .agg (lkCells a)
theorem lk_eq (a b : LK) : decide (a = b) = (decide ((⟨a.1, a.2.1, none⟩ : Addr) = ⟨b.1, b.2.1, none⟩) && ((a.2.2 : Int) == (b.2.2 : Int))) := by
 obtain ⟨a1, a2, a3⟩ := a
 obtain ⟨b1, b2, b3⟩ := b
 rw [Bool.eq_iff_iff]
 simp only [decide_eq_true_eq, Prod.mk.injEq, Bool.and_eq_true, Addr.mk.injEq, beq_iff_eq, and_true]
 omega
theorem lk_check {K te : TypeId} {f0 f1 : Field} {i j0 j1 : TypeInfo} (h : ListKey P K te f0 f1 i j0 j1) (w : World) (em : Bool) (d : Nat) (a : LK) : (Instr.checkKey em (d + 2) K (lkV a)).run P w = .ok () w := by
 simp [Instr.checkKey, lkV, lkCells, run_underlying h.und, h.n0, h.n1, part, isAgg, run_underlying h.u0, run_underlying h.u1, h.o0, h.o1]
theorem lk_equal {K te : TypeId} {f0 f1 : Field} {i j0 j1 : TypeInfo} (h : ListKey P K te f0 f1 i j0 j1) (w : World) (d : Nat) (a b : LK) (ha : Plain w a.1) (hb : Plain w b.1) : (Op.equalIn (d + 2) K (lkV a) (lkV b)).run P w = .ok (decide (a = b)) w := by
 have hs : (sizeOf te).run P w = .ok i.size w := by simp [sizeOf, typeInfo, h.it]
 have hp := run_sameAddr_plain (P := P) (w := w) (a := ⟨a.1, a.2.1, none⟩) (b := ⟨b.1, b.2.1, none⟩) ha hb rfl rfl
 rw [lk_eq]
 simp [Op.equalIn, lkV, lkCells, run_underlying h.und, h.held, h.n0, h.n1, part, isAgg, run_underlying h.u0, run_underlying h.u1, h.o0, h.o1, hs, h.sz, hp]
 by_cases h1 : a.1 = b.1 <;> by_cases h2 : a.2.1 = b.2.1 <;> by_cases h3 : (a.2.2 : Int) = (b.2.2 : Int) <;> simp [h1, h2, h3]
theorem listKey_ok {K te : TypeId} {f0 f1 : Field} {i j0 j1 : TypeInfo} (h : ListKey P K te f0 f1 i j0 j1) : KeyOK P K lkV (fun w a => Plain w a.1) where
 kind := ⟨_, h.und, fun a b => rfl⟩
 check := fun w em a _ => lk_check h w em 9998 a
 equal := fun w a b ha hb => lk_equal h w 9998 a b ha hb
 bits := fun a => by simp [lkV, lkCells, Instr.sameBits]
end
end Go.Proofs.YtjcaiecapapceaaGreat
namespace Go.Proofs.YtjcaiecapapceaaGreat
open Go.RowKit
def cntF (m : Int → Bool) : F → Nat
 | .nil => 0
 | .cons o _ _ k r => (if m o then 1 else 0) + cntF m k + cntF m r
theorem cntF_app (m : Int → Bool) (f g : F) : cntF m (f.app g) = cntF m f + cntF m g := by
 induction f with
 | nil => simp [F.app, cntF]
 | cons o n t k r _ ih => simp [F.app, cntF, ih]; omega
theorem cntF_le (m : Int → Bool) (f : F) : cntF m f ≤ f.size := by
 induction f with
 | nil => simp [cntF, F.size]
 | cons o n t k r ihk ihr =>
   simp only [cntF, F.size]
   have : (if m o then 1 else 0) ≤ 1 := by split <;> omega
   omega
def nodes (f : F) : Nat := cntF (fun _ => true) f
theorem nodes_app (f g : F) : nodes (f.app g) = nodes f + nodes g := cntF_app _ f g
theorem nodes_cons (o n : Int) (t : ByteArray) (k r : F) : nodes (.cons o n t k r) = 1 + nodes k + nodes r := rfl
theorem nodes_size (f : F) : nodes f ≤ f.size := cntF_le _ f
theorem cntF_nodes (m : Int → Bool) (f : F) : cntF m f ≤ nodes f := by
 induction f with
 | nil => exact Nat.le_refl _
 | cons o n t k r ihk ihr =>
   rw [nodes_cons]
   simp only [cntF]
   have : (if m o then 1 else 0) ≤ 1 := by split <;> omega
   omega
theorem len_nodes (f : F) : f.len ≤ nodes f := by
 induction f with
 | nil => simp [F.len]
 | cons o n t k r _ ihr => rw [nodes_cons]; simp only [F.len]; omega
def wtL : F → Nat
 | .nil => 0
 | .cons _ _ _ k r => (if k.len = 0 then 0 else 2 + wtL k) + wtL r
theorem wtL_le (f : F) : wtL f ≤ 2 * nodes f := by
 induction f with
 | nil => simp [wtL]
 | cons o n t k r ihk ihr =>
   simp only [wtL, nodes_cons]
   split <;> omega
theorem F.at_len : ∀ (f : F) (j : Nat), j < f.len → ∃ (p : F) (o n : Int) (t : ByteArray) (k r : F), f = p.app (.cons o n t k r) ∧ p.len = j
 | .nil, j, h => by simp [F.len] at h
 | .cons o n t k r, 0, _ => ⟨.nil, o, n, t, k, r, rfl, rfl⟩
 | .cons o n t k r, j + 1, h => by
   obtain ⟨p, o', n', t', k', r', h1, h2⟩ := F.at_len r j (by simp only [F.len] at h; omega)
   exact ⟨.cons o n t k p, o', n', t', k', r', by rw [h1]; rfl, by simp only [F.len]; omega⟩
def Lie (w : World) (k : LK) (f : F) : Prop := k.2.2 = f.len ∧ 0 < f.len ∧ ∃ fs, RowAt w f k.1 k.2.1 fs ∧ ∀ q ∈ k.1 :: fs, q < w.heap.size ∧ ∀ o, w.frozen? ⟨q, o, none⟩ = false
theorem Lie.unique {w : World} {k : LK} {f g : F} (h : Lie w k f) (h' : Lie w k g) : f = g := by
 obtain ⟨e, _, fs, r, _⟩ := h
 obtain ⟨e', _, gs, r', _⟩ := h'
 exact r.unique r' (e.symm.trans e')
theorem Lie.plain {w : World} {k : LK} {f : F} (h : Lie w k f) : Plain w k.1 := by
 obtain ⟨_, h0, fs, r, hq⟩ := h
 cases f with
 | nil => simp [F.len] at h0
 | cons o n t ks r' =>
   obtain ⟨_, _, _, _, h1, _⟩ := RowAt.cons_iff.1 r
   exact Plain.of_cell h1 (hq k.1 (by simp)).2
theorem Lie.lt {w : World} {k : LK} {f : F} (h : Lie w k f) : k.1 < w.heap.size := by
 obtain ⟨_, _, fs, _, hq⟩ := h
 exact (hq k.1 (by simp)).1
open Classical in
noncomputable def listAt (w : World) (k : LK) : F := if h : ∃ f, Lie w k f then h.choose else .nil
theorem listAt_eq {w : World} {k : LK} {f : F} (h : Lie w k f) : listAt w k = f := by
 unfold listAt
 have hex : ∃ f, Lie w k f := ⟨f, h⟩
 rw [dif_pos hex]
 exact hex.choose_spec.unique h
def kidOf : Option Value → List LK
 | some (.slice (some ⟨b, o, none⟩) (l + 1) _) => [(b, o, l + 1)]
 | _ => []
def kidAt (w : World) (b o : Nat) : List LK := kidOf (w.cell? ⟨b, o + 3, none⟩)
def kidKeys (w : World) (b : Nat) : Nat → Nat → List LK
 | _, 0 => []
 | o, n + 1 => kidAt w b o ++ kidKeys w b (o + 4) n
theorem kidKeys_snoc (w : World) (b : Nat) : ∀ (n o : Nat), kidKeys w b o (n + 1) = kidKeys w b o n ++ kidAt w b (o + n * 4)
 | 0, o => by simp [kidKeys]
 | n + 1, o => by
   rw [kidKeys, kidKeys_snoc w b n (o + 4), kidKeys, List.append_assoc]
   congr 3
   omega
theorem kidAt_len (w : World) (b o : Nat) : (kidAt w b o).length ≤ 1 := by
 unfold kidAt kidOf
 split <;> simp
theorem kidKeys_len (w : World) (b : Nat) : ∀ (n o : Nat), (kidKeys w b o n).length ≤ n
 | 0, o => by simp [kidKeys]
 | n + 1, o => by
   have h1 := kidKeys_len w b n (o + 4)
   have h2 := kidAt_len w b o
   simp only [kidKeys, List.length_append]
   omega
theorem kidKeys_of (w : World) (b : Nat) : ∀ (n o : Nat) (c : LK) (j : Nat), j < n → c ∈ kidAt w b (o + j * 4) → c ∈ kidKeys w b o n
 | 0, o, c, j, h, _ => by omega
 | n + 1, o, c, j, h, hc => by
   rw [kidKeys_snoc]
   by_cases e : j = n
   ·subst e; exact List.mem_append.2 (.inr hc)
   ·exact List.mem_append.2 (.inl (kidKeys_of w b n o c j (by omega) hc))
theorem kid_none {w : World} {b o : Nat} {a : Option Addr} {cap : Nat} (h : w.cell? ⟨b, o + 3, none⟩ = some (.slice a 0 cap)) : kidAt w b o = [] := by
 unfold kidAt; rw [h]
 cases a with
 | none => rfl
 | some a => obtain ⟨b1, o1, s1⟩ := a; cases s1 <;> rfl
theorem kid_some {w : World} {b o b' o' l cap : Nat} (h : w.cell? ⟨b, o + 3, none⟩ = some (.slice (some ⟨b', o', none⟩) l cap)) (h0 : l ≠ 0) : kidAt w b o = [(b', o', l)] := by
 unfold kidAt; rw [h]
 cases l with
 | zero => exact absurd rfl h0
 | succ l => rfl
theorem Lie.of_sub {w : World} {a : Option Addr} {k : F} {fs : List Nat} (h : SubAt w a k fs) (h0 : k.len ≠ 0) (hq : ∀ q ∈ fs, q < w.heap.size ∧ ∀ o, w.frozen? ⟨q, o, none⟩ = false) : ∃ b' o', a = some ⟨b', o', none⟩ ∧ Lie w (b', o', k.len) k := by
 rcases h with ⟨rfl, _⟩ | ⟨b', o', f', rfl, _, rfl, hr⟩
 ·exact absurd rfl h0
 ·exact ⟨b', o', rfl, rfl, by show 0 < k.len; omega, f', hr, hq⟩
theorem Lie.at {w : World} {k : LK} {p : F} {o n : Int} {t : ByteArray} {ks r : F} (h : Lie w k (p.app (.cons o n t ks r))) :
  ∃ (a : Option Addr) (cap : Nat), w.cell? ⟨k.1, k.2.1 + p.len * 4, none⟩ = some (.int .i64 o) ∧ w.cell? ⟨k.1, k.2.1 + p.len * 4 + 1, none⟩ = some (.int .i64 n) ∧ w.cell? ⟨k.1, k.2.1 + p.len * 4 + 2, none⟩ = some (.string t) ∧
   w.cell? ⟨k.1, k.2.1 + p.len * 4 + 3, none⟩ = some (.slice a ks.len cap) ∧ ks.len ≤ cap ∧
   ((ks.len = 0 ∧ kidAt w k.1 (k.2.1 + p.len * 4) = []) ∨ ∃ b' o', a = some ⟨b', o', none⟩ ∧ 0 < ks.len ∧ Lie w (b', o', ks.len) ks ∧ kidAt w k.1 (k.2.1 + p.len * 4) = [(b', o', ks.len)]) := by
 obtain ⟨_, _, fs, hr, hq⟩ := h
 obtain ⟨a, cap, f1, h1, h2, h3, h4, h5, h6, h7⟩ := row_at hr
 refine ⟨a, cap, h1, h2, h3, h4, h5, ?_⟩
 by_cases h0 : ks.len = 0
 ·refine .inl ⟨h0, ?_⟩
  rw [h0] at h4
  exact kid_none h4
 ·obtain ⟨b', o', rfl, hl⟩ := Lie.of_sub h6 h0 (fun q hq' => hq q (by simp [h7 q hq']))
  exact .inr ⟨b', o', rfl, by omega, hl, kid_some h4 h0⟩
theorem Lie.below {w : World} {k : LK} : ∀ (n : Nat) (p g : F), p.len = n → Lie w k (p.app g) → (∀ c ∈ kidKeys w k.1 k.2.1 n, ∃ f, Lie w c f ∧ nodes f < nodes (p.app g)) ∧ ((kidKeys w k.1 k.2.1 n).map fun c => 2 + wtL (listAt w c)).sum = wtL p
 | 0, p, g, hn, h => by
   have := F.len_eq_zero hn
   subst this
   simp [kidKeys, wtL]
 | n + 1, p, g, hn, h => by
   have hp : ∃ q o m t ks, p = F.app q (.cons o m t ks .nil) := by
    clear h
    induction p generalizing n with
    | nil => simp [F.len] at hn
    | cons o m t ks r _ ih =>
      cases n with
      | zero =>
        simp only [F.len] at hn
        have := F.len_eq_zero (f := r) (by omega)
        subst this
        exact ⟨.nil, o, m, t, ks, rfl⟩
      | succ n =>
        simp only [F.len] at hn
        obtain ⟨q, o', m', t', ks', rfl⟩ := ih n (by omega)
        exact ⟨.cons o m t ks q, o', m', t', ks', rfl⟩
   obtain ⟨q, o, m, t, ks, rfl⟩ := hp
   have hq : q.len = n := by rw [F.len_app] at hn; simp only [F.len] at hn; omega
   have he : (q.app (.cons o m t ks .nil)).app g = q.app (.cons o m t ks g) := by rw [F.app_assoc]; rfl
   rw [he] at h ⊢
   obtain ⟨h1, h2⟩ := Lie.below n q _ hq h
   obtain ⟨a, cap, _, _, _, _, _, hk⟩ := h.at
   have hw : ∀ (q : F), wtL (q.app (.cons o m t ks .nil)) = wtL q + (if ks.len = 0 then 0 else 2 + wtL ks) := by
    intro q
    induction q with
    | nil => simp [F.app, wtL]
    | cons o' m' t' ks' r' _ ih => simp only [F.app, wtL, ih]; omega
   rw [hw, kidKeys_snoc, ← hq]
   rw [← hq] at h1 h2
   rcases hk with ⟨h0, hk⟩ | ⟨b', o', _, h0, hl, hk⟩
   ·rw [hk, List.append_nil, if_pos h0]
    exact ⟨h1, h2⟩
   ·rw [hk, if_neg (by omega)]
    refine ⟨fun c hc => ?_, ?_⟩
    ·rcases List.mem_append.1 hc with hc | hc
     ·exact h1 c hc
     ·simp only [List.mem_singleton] at hc
      subst hc
      refine ⟨ks, hl, ?_⟩
      rw [nodes_app, nodes_cons]
      omega
    ·rw [List.map_append, List.sum_append, h2]
     simp [listAt_eq hl]
theorem Lie.kids {w : World} {k : LK} {f : F} (h : Lie w k f) : (∀ c ∈ kidKeys w k.1 k.2.1 k.2.2, ∃ g, Lie w c g ∧ nodes g < nodes f) ∧ ((kidKeys w k.1 k.2.1 k.2.2).map fun c => 2 + wtL (listAt w c)).sum = wtL f := by
 have := Lie.below (w := w) (k := k) f.len f .nil rfl (by rw [F.app_nil]; exact h)
 rw [F.app_nil] at this
 rw [h.1]
 exact this
noncomputable def forest (w : World) (m : Int → Bool) : Forest LK where
 good := fun k => ∃ f, Lie w k f ∧ nodes f ≤ 2097153
 kids := fun k => kidKeys w k.1 k.2.1 k.2.2
 sz := fun k => nodes (listAt w k)
 cnt := fun k => cntF m (listAt w k)
 wt := fun k => 2 + wtL (listAt w k)
 down := fun k hk c hc => by
  obtain ⟨f, hf, hn⟩ := hk
  obtain ⟨g, hg, hlt⟩ := hf.kids.1 c hc
  exact ⟨⟨g, hg, by omega⟩, by rw [listAt_eq hf, listAt_eq hg]; exact hlt⟩
 wt_eq := fun k hk => by
  obtain ⟨f, hf, _⟩ := hk
  show 2 + wtL (listAt w k) = 2 + ((kidKeys w k.1 k.2.1 k.2.2).map fun c => 2 + wtL (listAt w c)).sum
  rw [listAt_eq hf, hf.kids.2]
def Knows (l : List (LK × Value × Nat)) (mm : LK → Option Int) : Prop := ∀ a, look a l = (mm a).map (fun c => Value.int .i64 c)
theorem Knows.start : Knows [] (fun _ => none) := fun a => rfl
theorem Knows.upd {l l' : List (LK × Value × Nat)} {mm : LK → Option Int} (h : Knows l mm) {a : LK} {c : Int} (hl : ∀ b, look b l' = if b = a then some (.int .i64 c) else look b l) : Knows l' (upd mm a c) := fun b => by
 rw [hl b]
 unfold Go.Proofs.YtjcaiecapapceaaGreat.upd
 by_cases e : b = a
 ·rw [if_pos e, if_pos e]; rfl
 ·rw [if_neg e, if_neg e]; exact h b
theorem weight_len (T : Forest LK) (h2 : ∀ k, 1 ≤ T.wt k) : ∀ st : List (LK × Bool), st.length ≤ weight T st
 | [] => Nat.le_refl _
 | (k, true) :: r => by have := weight_len T h2 r; simp only [List.length_cons, weight]; omega
 | (k, false) :: r => by have := weight_len T h2 r; have := h2 k; simp only [List.length_cons, weight]; omega
end Go.Proofs.YtjcaiecapapceaaGreat
namespace Go.Proofs.YtjcaiecapapceaaGreat
open Go.RowKit
section
variable {α : Type} {CV : α → List Value → Prop} {n : Nat}
def ItemsV (CV : α → List Value → Prop) : List α → List Value → Prop
 | [], xs => xs = []
 | p :: r, xs => ∃ c ys, xs = c ++ ys ∧ CV p c ∧ ItemsV CV r ys
theorem ItemsV.len (hn : ∀ x c, CV x c → c.length = n) : ∀ {l : List α} {xs : List Value}, ItemsV CV l xs → xs.length = l.length * n
 | [], xs, h => by rw [ItemsV] at h; rw [h]; simp
 | p :: r, xs, h => by
   obtain ⟨c, ys, rfl, h1, h3⟩ := h
   have := ItemsV.len hn h3
   simp only [List.length_append, List.length_cons, hn _ _ h1, this, Nat.add_mul]
   omega
theorem ItemsV.snoc {p : α} {c : List Value} (h1 : CV p c) : ∀ {l : List α} {xs : List Value}, ItemsV CV l xs → ItemsV CV (l ++ [p]) (xs ++ c)
 | [], xs, h => by rw [ItemsV] at h; subst h; exact ⟨c, [], by simp, h1, rfl⟩
 | q :: r, xs, h => by
   obtain ⟨d, ys, rfl, g1, g3⟩ := h
   exact ⟨d, ys ++ c, by simp, g1, g3.snoc h1⟩
theorem ItemsV.last {p : α} : ∀ {l : List α} {xs : List Value}, ItemsV CV (l ++ [p]) xs → ∃ ys c, xs = ys ++ c ∧ ItemsV CV l ys ∧ CV p c
 | [], xs, h => by
   obtain ⟨c, ys, rfl, h1, h3⟩ := h
   rw [ItemsV] at h3
   subst h3
   exact ⟨[], c, by simp, rfl, h1⟩
 | q :: r, xs, h => by
   obtain ⟨d, zs, rfl, g1, g3⟩ := h
   obtain ⟨ys, c, rfl, h3, h1⟩ := ItemsV.last g3
   exact ⟨d ++ ys, c, by simp, ⟨d, ys, rfl, g1, h3⟩, h1⟩
def StackG (CV : α → List Value → Prop) (n : Nat) (w : World) (T : TypeId) (lo : Nat) (v : Value) (st : List α) : Prop := ∃ xs, w.ownsRow lo T n v st.length xs ∧ ItemsV CV st.reverse xs
theorem StackG.kept {w w' : World} {T : TypeId} {lo : Nat} {v : Value} {st : List α} (h : StackG CV n w T lo v st) {row : Option Nat} (hg : w.grownBy w' row) (hne : v.ownBlock = none ∨ v.ownBlock ≠ row) : StackG CV n w' T lo v st := by
 obtain ⟨xs, h1, h2⟩ := h
 exact ⟨xs, h1.kept hg hne, h2⟩
theorem StackG.below {w w' : World} {T : TypeId} {lo : Nat} {v : Value} {st : List α} (h : StackG CV n w T lo v st) {B : Nat} (hB : w.heap.size ≤ B) (k : Below B w w') : StackG CV n w' T lo v st :=
 h.kept (row := none) ⟨k.os, k.tape, k.output, k.size, fun i hi _ => k.block i (Nat.lt_of_lt_of_le hi hB)⟩ (by cases hv : v.ownBlock <;> simp)
theorem StackG.own_lt {w : World} {T : TypeId} {lo : Nat} {v : Value} {st : List α} (h : StackG CV n w T lo v st) : ∀ k, v.ownBlock = some k → lo ≤ k ∧ k < w.heap.size := by
 obtain ⟨xs, h1, _⟩ := h
 exact h1.lt
theorem StackG.start {W : World} {T : TypeId} {x : α} {c : List Value} (h1 : CV x c) (hn : c.length = n) {lo b : Nat} (hb : W.heap.size = b) (hlo : lo ≤ b) {cs : Array Value} (hcs : cs = c.toArray) : StackG CV n (W.alloc (.cells cs T)) T lo (.slice (some ⟨b, 0, none⟩) 1 1) [x] := by
 subst hcs hb
 refine ⟨c, ⟨by simpa using hn, .inr ⟨W.heap.size, 1, _, rfl, hlo, heap_alloc_new W _, Nat.le_refl _, by unfold maxLen; omega, by simpa using hn, ?_⟩⟩, c, [], by simp, h1, rfl⟩
 simp only [List.length_cons, List.length_nil]
 rw [List.take_of_length_le (by simpa using Nat.le_of_eq hn)]
theorem StackG.top (hn : ∀ x c, CV x c → c.length = n) {w : World} {T : TypeId} {lo : Nat} {v : Value} {x : α} {st : List α} (h : StackG CV n w T lo v (x :: st)) :
  ∃ g cap c, v = .slice (some ⟨g, 0, none⟩) (st.length + 1) cap ∧ lo ≤ g ∧ g < w.heap.size ∧ st.length + 1 ≤ cap ∧ cap ≤ maxLen ∧ CV x c ∧
   (∀ j, j < n → w.cell? ⟨g, st.length * n + j, none⟩ = c[j]?) ∧ StackG CV n w T lo (.slice (some ⟨g, 0, none⟩) st.length cap) st := by
 obtain ⟨xs, h1, h2⟩ := h
 rw [List.reverse_cons] at h2
 obtain ⟨ys, c, rfl, h3, h4⟩ := h2.last
 have hl := h3.len hn
 rw [List.length_reverse] at hl
 have hcells := fun g hg => h1.cells (g := g) hg
 rcases h1.2 with ⟨_, h0⟩ | ⟨g, cap, cur, rfl, hb, hg, hnc, hcm, hcs, htake⟩
 ·simp at h0
 ·have hat : ∀ j u, c[j]? = some u → w.cell? ⟨g, st.length * n + j, none⟩ = some u := fun j u hu => by
   have := hcells g rfl (st.length * n + j) u (by rw [List.getElem?_append_right (by omega), hl, Nat.add_sub_cancel_left]; exact hu)
   rwa [add_at, Nat.zero_add] at this
  refine ⟨g, cap, c, rfl, hb, (Array.getElem?_eq_some_iff.1 hg).1, hnc, hcm, h4, fun j hj => ?_, ys, ⟨hl, .inr ⟨g, cap, cur, rfl, hb, hg, ?_, hcm, hcs, ?_⟩⟩, h3⟩
  ·have hx : j < c.length := by rw [hn _ _ h4]; exact hj
   rw [List.getElem?_eq_getElem hx]
   exact hat j _ (List.getElem?_eq_getElem hx)
  ·simp at hnc; omega
  ·have hle : st.length * n ≤ (st.length + 1) * n := Nat.mul_le_mul_right n (by omega)
   have e : (cur.toList.take ((st.length + 1) * n)).take (st.length * n) = cur.toList.take (st.length * n) := by rw [List.take_take, Nat.min_eq_left hle]
   simp only [List.length_cons] at htake
   rw [← e, htake, List.take_append_of_le_length (by omega), List.take_of_length_le (by omega)]
theorem StackG.push {w' : World} {T : TypeId} {lo : Nat} {v' : Value} {x : α} {st : List α} {xs c : List Value} (h2 : ItemsV CV st.reverse xs) (h1 : CV x c) (h : w'.ownsRow lo T n v' (st.length + 1) (xs ++ c)) : StackG CV n w' T lo v' (x :: st) :=
 ⟨_, h, by rw [List.reverse_cons]; exact h2.snoc h1⟩
end
def OpPred (P : Program) (g : Nat) (lb : Array Value) (m : Int → Bool) (w : World) : Prop :=
 (∀ (args : Array Value) (W : World), (callFunc g args).run P W = .ok (.enter g args) W) ∧ ∀ (W : World) (x : Int), Below w.heap.size w W → Calls P g (#[.int .i64 x] ++ lb) W fun e w' => e = .returned (.bool (m x)) ∧ w' = W
theorem OpPred.later {P : Program} {g : Nat} {lb : Array Value} {m : Int → Bool} {w W : World} (h : OpPred P g lb m w) (hb : Below w.heap.size w W) : OpPred P g lb m W :=
 ⟨h.1, fun W' x hb' => h.2 W' x (hb.trans (hb'.mono hb.size))⟩
end Go.Proofs.YtjcaiecapapceaaGreat
namespace Go.Proofs.YtjcaiecapapceaaGreat
open Go.RowKit
def DocV (w0 : World) (x : D) (c : List Value) : Prop := ∃ (a : Option Addr) (cap : Nat) (fs : List Nat), c = [.int .i64 x.1, .int .i64 x.2.1, .string x.2.2.1, .slice a x.2.2.2.len cap] ∧ x.2.2.2.len ≤ cap ∧ SubAt w0 a x.2.2.2 fs ∧ (∀ q ∈ fs, q < w0.heap.size ∧ ∀ o, w0.frozen? ⟨q, o, none⟩ = false) ∧ x.2.2.2.size ≤ 2097152
theorem DocV.later {w0 w1 : World} {x : D} {c : List Value} (h : DocV w0 x c) (k : Below w0.heap.size w0 w1) : DocV w1 x c := by
 obtain ⟨a, cap, fs, h1, h2, h3, h4, h5⟩ := h
 exact ⟨a, cap, fs, h1, h2, h3.below (fun q hq => (h4 q hq).1) k, fun q hq => ⟨Nat.lt_of_lt_of_le (h4 q hq).1 k.size, fun o => (k.frozen (p := ⟨q, o, none⟩) (h4 q hq).1).trans ((h4 q hq).2 o)⟩, h5⟩
end Go.Proofs.YtjcaiecapapceaaGreat
namespace Go.Proofs.YtjcaiecapapceaaGreat
open Go.RowKit
theorem F.split_at {f : F} : ∀ {j : Nat}, j < f.len → ∃ (p : F) (o n : Int) (t : ByteArray) (k r : F), f = p.app (.cons o n t k r) ∧ p.len = j := by
 induction f with
 | nil => intro j h; simp [F.len] at h
 | cons o n t k r _ ih =>
   intro j h
   cases j with
   | zero => exact ⟨.nil, o, n, t, k, r, rfl, rfl⟩
   | succ j =>
     simp only [F.len] at h
     obtain ⟨p, o', n', t', k', r', rfl, hj⟩ := ih (j := j) (by omega)
     exact ⟨.cons o n t k p, o', n', t', k', r', rfl, by simp only [F.len]; omega⟩
theorem RowAt.parts {w : World} {p : F} {b off : Nat} {fs : List Nat} {o n : Int} {t : ByteArray} {k r : F} (h : RowAt w (p.app (.cons o n t k r)) b off fs) :
  ∃ (a : Option Addr) (cap : Nat) (f1 fk f2 : List Nat), w.cell? ⟨b, off + p.len * 4, none⟩ = some (.int .i64 o) ∧ w.cell? ⟨b, off + p.len * 4 + 1, none⟩ = some (.int .i64 n) ∧ w.cell? ⟨b, off + p.len * 4 + 2, none⟩ = some (.string t) ∧
   w.cell? ⟨b, off + p.len * 4 + 3, none⟩ = some (.slice a k.len cap) ∧ k.len ≤ cap ∧ SubAt w a k fk ∧ RowAt w p b off f1 ∧ RowAt w r b (off + p.len * 4 + 4) f2 ∧ fs = f1 ++ (fk ++ f2) := by
 obtain ⟨f1, g, h1, h2, rfl⟩ := RowAt.app_iff.1 h
 rw [Nat.mul_comm 4] at h2
 obtain ⟨a, cap, g1, g2, h3, h4, h5, h6, h7, h8, h9, rfl⟩ := RowAt.cons_iff.1 h2
 exact ⟨a, cap, f1, g1, g2, h3, h4, h5, h6, h7, h8, h1, h9, rfl⟩
theorem RowAt.join {w : World} {p : F} {b off : Nat} {f1 fk f2 : List Nat} {o n : Int} {t : ByteArray} {k r : F} {a : Option Addr} {cap : Nat} (h0 : w.cell? ⟨b, off + p.len * 4, none⟩ = some (.int .i64 o)) (h1 : w.cell? ⟨b, off + p.len * 4 + 1, none⟩ = some (.int .i64 n)) (h2 : w.cell? ⟨b, off + p.len * 4 + 2, none⟩ = some (.string t))
  (h3 : w.cell? ⟨b, off + p.len * 4 + 3, none⟩ = some (.slice a k.len cap)) (hc : k.len ≤ cap) (hs : SubAt w a k fk) (hp : RowAt w p b off f1) (hr : RowAt w r b (off + p.len * 4 + 4) f2) : RowAt w (p.app (.cons o n t k r)) b off (f1 ++ (fk ++ f2)) :=
 RowAt.app_iff.2 ⟨f1, fk ++ f2, hp, by rw [Nat.mul_comm 4]; exact RowAt.cons_iff.2 ⟨a, cap, fk, f2, h0, h1, h2, h3, hc, hs, hr, rfl⟩, rfl⟩
theorem RowAt.setDoc {w w' : World} {p : F} {b off : Nat} {fs fk' : List Nat} {o n o' n' : Int} {t t' : ByteArray} {k k' r : F} {a' : Option Addr} {cap' : Nat} (h : RowAt w (p.app (.cons o n t k r)) b off fs) (hb : ∀ x, (x < off + p.len * 4 ∨ off + p.len * 4 + 4 ≤ x) → w'.cell? ⟨b, x, none⟩ = w.cell? ⟨b, x, none⟩)
  (hfs : ∀ c ∈ fs, ∀ x, w'.cell? ⟨c, x, none⟩ = w.cell? ⟨c, x, none⟩)
  (h0 : w'.cell? ⟨b, off + p.len * 4, none⟩ = some (.int .i64 o')) (h1 : w'.cell? ⟨b, off + p.len * 4 + 1, none⟩ = some (.int .i64 n')) (h2 : w'.cell? ⟨b, off + p.len * 4 + 2, none⟩ = some (.string t')) (h3 : w'.cell? ⟨b, off + p.len * 4 + 3, none⟩ = some (.slice a' k'.len cap')) (hc : k'.len ≤ cap') (hs : SubAt w' a' k' fk') :
  ∃ (f1 fk f2 : List Nat), fs = f1 ++ (fk ++ f2) ∧ RowAt w' (p.app (.cons o' n' t' k' r)) b off (f1 ++ (fk' ++ f2)) := by
 obtain ⟨a, cap, f1, fk, f2, _, _, _, _, _, _, hp, hr, rfl⟩ := h.parts
 refine ⟨f1, fk, f2, rfl, RowAt.join h0 h1 h2 h3 hc hs ?_ ?_⟩
 ·exact hp.congr' (fun x h1 h2 => hb x (by omega)) (fun c hc x => hfs c (by simp [hc]) x)
 ·exact hr.congr' (fun x h1 h2 => hb x (by omega)) (fun c hc x => hfs c (by simp [hc]) x)
theorem Fresh.swap {lo hi : Nat} {w : World} {b : Nat} {f1 fk f2 g : List Nat} (h : Fresh lo w (b :: (f1 ++ (fk ++ f2)))) (hlt : ∀ c ∈ b :: (f1 ++ (fk ++ f2)), c < hi) (k : Fresh hi w g) (hl : lo ≤ hi) : Fresh lo w (b :: (f1 ++ (g ++ f2))) := by
 obtain ⟨hn, ha⟩ := h
 obtain ⟨kn, ka⟩ := k
 rw [List.nodup_cons, List.nodup_append, List.nodup_append] at hn
 obtain ⟨h0, h1, ⟨h2, h3, h4⟩, h5⟩ := hn
 refine ⟨?_, fun c hc => ?_⟩
 ·rw [List.nodup_cons, List.nodup_append, List.nodup_append]
  refine ⟨?_, h1, ⟨kn, h3, ?_⟩, ?_⟩
  ·intro hm
   simp only [List.mem_append] at hm h0
   rcases hm with hm | hm | hm
   ·exact h0 (.inl hm)
   ·have := (ka b hm).1; have := hlt b (by simp); omega
   ·exact h0 (.inr (.inr hm))
  ·intro c hc d hd e
   subst e
   have := (ka c hc).1; have := hlt c (by simp [hd]); omega
  ·intro c hc d hd e
   subst e
   simp only [List.mem_append] at hd
   rcases hd with hd | hd
   ·have := (ka c hd).1; have := hlt c (by simp [hc]); omega
   ·exact h5 c hc c (by simp [hd]) rfl
 ·simp only [List.mem_cons, List.mem_append] at hc
  rcases hc with rfl | hc | hc | hc
  ·exact ha c (by simp)
  ·exact ha c (by simp [hc])
  ·have := ka c hc; exact ⟨Nat.le_trans hl this.1, this.2⟩
  ·exact ha c (by simp [hc])
end Go.Proofs.YtjcaiecapapceaaGreat
namespace Go.Proofs.YtjcaiecapapceaaGreat
open Go.RowKit
def Ext (a b : World) : Prop := Below a.heap.size a b
theorem Ext.refl (a : World) : Ext a a := Below.refl _ _
theorem Ext.size {a b : World} (h : Ext a b) : a.heap.size ≤ b.heap.size := Below.size h
theorem Ext.trans {a b c : World} (h : Ext a b) (k : Ext b c) : Ext a c := Below.trans h (Below.mono k h.size)
theorem Ext.trans' {a b c : World} (h : Ext a b) {q : Nat} (k : b.grownBy c (some q)) (hq : a.heap.size ≤ q) : Ext a c :=
 ⟨k.os.trans h.os, k.tape.trans h.tape, k.output.trans h.output, Nat.le_trans h.size k.size, fun i hi => (k.block i (Nat.lt_of_lt_of_le hi h.size) (fun e => by injection e with e; omega)).trans (h.block i hi)⟩
theorem Ext.alloc {a b : World} (h : Ext a b) (o : Obj) : Ext a (b.alloc o) := Below.alloc h h.size o
theorem Ext.drew {a b : World} (h : Ext a b) : Ext a b.drew := Below.drew h
theorem Ext.cell {a b : World} (h : Ext a b) {c o : Nat} (hc : c < a.heap.size) : b.cell? ⟨c, o, none⟩ = a.cell? ⟨c, o, none⟩ := Below.cell (p := ⟨c, o, none⟩) h hc
theorem Ext.frozen {a b : World} (h : Ext a b) {c o : Nat} (hc : c < a.heap.size) : b.frozen? ⟨c, o, none⟩ = a.frozen? ⟨c, o, none⟩ := Below.frozen (p := ⟨c, o, none⟩) h hc
theorem Ext.sub {w w' : World} (k : Ext w w') {a : Option Addr} {f : F} {fs : List Nat} (h : SubAt w a f fs) (hl : ∀ c ∈ fs, c < w.heap.size) : SubAt w' a f fs := h.below hl k
section
variable {w w' : World} {b : Nat} {o n : Int} {t : ByteArray} {k : F} {a : Option Addr} {cap : Nat} {fs : List Nat}
end
def ZBox (w : World) (b : Nat) : Prop := (w.cell? ⟨b, 0, none⟩ = some (.int .i64 0) ∧ w.cell? ⟨b, 1, none⟩ = some (.int .i64 0) ∧ w.cell? ⟨b, 2, none⟩ = some (.string ⟨#[]⟩) ∧ w.cell? ⟨b, 3, none⟩ = some (.slice none 0 0)) ∧
 (w.frozen? ⟨b, 0, none⟩ = false ∧ w.frozen? ⟨b, 1, none⟩ = false ∧ w.frozen? ⟨b, 2, none⟩ = false ∧ w.frozen? ⟨b, 3, none⟩ = false) ∧ b < w.heap.size
theorem ZBox.ext {w w' : World} {b : Nat} (h : ZBox w b) (k : Ext w w') : ZBox w' b := by
 obtain ⟨⟨h0, h1, h2, h3⟩, ⟨z0, z1, z2, z3⟩, hb⟩ := h
 exact ⟨⟨(k.cell hb).trans h0, (k.cell hb).trans h1, (k.cell hb).trans h2, (k.cell hb).trans h3⟩, ⟨(k.frozen hb).trans z0, (k.frozen hb).trans z1, (k.frozen hb).trans z2, (k.frozen hb).trans z3⟩, Nat.lt_of_lt_of_le hb k.size⟩
theorem ZBox.alloc (W : World) (T : TypeId) : ZBox (W.alloc (.cells #[.int .i64 0, .int .i64 0, .string ⟨#[]⟩, .slice none 0 0] T)) W.heap.size := by
 refine ⟨⟨?_, ?_, ?_, ?_⟩, ⟨World.frozen?_alloc_new _ _ _ _, World.frozen?_alloc_new _ _ _ _, World.frozen?_alloc_new _ _ _ _, World.frozen?_alloc_new _ _ _ _⟩, by simp⟩ <;> (rw [World.cell?_alloc_new]; rfl)
def In (lo hi : Nat) (fs : List Nat) : Prop := ∀ c ∈ fs, lo ≤ c ∧ c < hi
section
variable {w2 w5 : World} {B b : Nat} {o n : Int} {t : ByteArray} {k : F} {a : Option Addr} {cap : Nat} {fs : List Nat}
end
end Go.Proofs.YtjcaiecapapceaaGreat
