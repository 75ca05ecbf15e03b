/-
  What a law writes into a document to see whose memory it is, as plain data; nothing here speaks of the program.
-/
import Derived.Test.YtjpgnhpfmdjamaaDocs
import Derived.Test.YtjpgnhpfmdjamaaValid
set_option linter.unusedVariables false
set_option linter.unusedSimpArgs false
namespace Go.Proofs.Ytjpgnhpfmdjamaa
open Go.RowKit P1

/-- the decimal digits of a number, none for 0 -/
def dec : Nat → Nat → List UInt8
  | 0, _ => []
  | f + 1, k => if k = 0 then [] else dec f (k / 10) ++ [UInt8.ofNat (48 + k % 10)]

theorem dec_zero (f : Nat) : dec f 0 = [] := by cases f <;> simp [dec]
theorem dec_step {f k : Nat} (hk : 0 < k) : dec (f + 1) k = dec f (k / 10) ++ [UInt8.ofNat (48 + k % 10)] := by simp [dec, Nat.ne_of_gt hk]
theorem dec_len (f : Nat) : ∀ k, (dec f k).length ≤ f := by
  induction f with
  | zero => intro k; simp [dec]
  | succ f ih =>
    intro k
    by_cases hk : k = 0
    · subst hk; simp [dec]
    · rw [dec_step (by omega)]; have := ih (k / 10); simp; omega

/-- the mark of a number -/
def mt (k : Nat) : ByteArray := ⟨((109 : UInt8) :: dec 64 k).toArray⟩
theorem mt_size (k : Nat) : (mt k).size ≤ 65 := by
  have := dec_len 64 k
  show ((109 : UInt8) :: dec 64 k).toArray.size ≤ 65
  simp; omega

namespace F
/-- a list whose fields bear marks from k on -/
def mk : F → Nat → F
  | nil, _ => nil
  | cons _ _ _ ks r, m => cons m ((m : Int) + 1) (mt (m + 2)) (ks.mk (m + 3)) (r.mk (m + 3 + 3 * ks.cnt))

theorem len_mk (f : F) : ∀ m, (f.mk m).len = f.len := by
  induction f with
  | nil => intro m; rfl
  | cons o n t k r _ ih => intro m; simp [mk, len, ih]
theorem cnt_mk (f : F) : ∀ m, (f.mk m).cnt = f.cnt := by
  induction f with
  | nil => intro m; rfl
  | cons o n t k r ihk ih => intro m; simp [mk, cnt, ih, ihk]
theorem mk_app (p g : F) : ∀ m, (p.app g).mk m = (p.mk m).app (g.mk (m + 3 * p.cnt)) := by
  induction p with
  | nil => intro m; rfl
  | cons o n t k r _ ih => intro m; simp only [app, mk, cnt, ih]; congr 3; omega
theorem mk_nil_iff (f : F) (m : Nat) : f.mk m = nil ↔ f = nil := by cases f <;> simp [mk]
end F

/-- Only the blocks fs have been written. -/
structure Only (fs : List Nat) (w w' : World) : Prop where
  os : w'.os = w.os
  tape : w'.tape = w.tape
  output : w'.output = w.output
  size : w.heap.size ≤ w'.heap.size
  block : ∀ k, k < w.heap.size → k ∉ fs → w'.heap[k]? = w.heap[k]?
  fz : ∀ k ∈ fs, ∀ o, k < w.heap.size → w'.frozen? ⟨k, o, none⟩ = w.frozen? ⟨k, o, none⟩

theorem Only.refl (fs : List Nat) (w : World) : Only fs w w := ⟨rfl, rfl, rfl, Nat.le_refl _, fun _ _ _ => rfl, fun _ _ _ _ => rfl⟩
theorem Only.trans {fs : List Nat} {a b c : World} (h : Only fs a b) (k : Only fs b c) : Only fs a c :=
  ⟨k.os.trans h.os, k.tape.trans h.tape, k.output.trans h.output, Nat.le_trans h.size k.size, fun i hi hf => (k.block i (Nat.lt_of_lt_of_le hi h.size) hf).trans (h.block i hi hf),
    fun i hi o hl => (k.fz i hi o (Nat.lt_of_lt_of_le hl h.size)).trans (h.fz i hi o hl)⟩
theorem Only.of_below {fs : List Nat} {a b : World} (h : Below a.heap.size a b) : Only fs a b :=
  ⟨h.os, h.tape, h.output, h.size, fun k hk _ => h.block k hk, fun k _ o hk => h.frozen (p := ⟨k, o, none⟩) hk⟩
theorem Only.setCell {fs : List Nat} {a w : World} (h : Only fs a w) {p : Addr} (hp : p.block ∈ fs) (u : Value) : Only fs a (w.setCell p u) :=
  h.trans ⟨rfl, rfl, rfl, by simp [World.setCell], fun k hk hf => Below.heap_setCell _ _ _ _ (fun e => hf (by rw [e]; exact hp)), fun k _ o _ => World.frozen?_setCell _ _ _ _⟩
theorem Only.drew {fs : List Nat} {a w : World} (h : Only fs a w) : Only fs a w.drew := ⟨h.os, h.tape, h.output, h.size, h.block, h.fz⟩
theorem Only.alloc {fs : List Nat} {a w : World} (h : Only fs a w) (o : Obj) : Only fs a (w.alloc o) := h.trans (Only.of_below ((Below.refl _ _).alloc (Nat.le_refl _) _))
theorem Only.mono {fs gs : List Nat} {a b : World} (h : Only fs a b) (hs : ∀ c ∈ fs, c ∈ gs) : Only gs a b :=
  ⟨h.os, h.tape, h.output, h.size, fun k hk hf => h.block k hk (fun hm => hf (hs k hm)), fun k hk o hl => by
    by_cases hm : k ∈ fs
    · exact h.fz k hm o hl
    · exact World.frozen?_of_block (w := a) (h.block k hl hm)⟩
theorem Only.below {fs : List Nat} {a b : World} (h : Only fs a b) {B : Nat} (hB : B ≤ a.heap.size) (hs : ∀ c ∈ fs, B ≤ c) : Below B a b :=
  ⟨h.os, h.tape, h.output, h.size, fun k hk => h.block k (by omega) (fun hm => by have := hs k hm; omega)⟩
theorem Only.cell {fs : List Nat} {w w' : World} (h : Only fs w w') {c : Nat} (hc : c < w.heap.size) (hf : c ∉ fs) (o : Nat) : w'.cell? ⟨c, o, none⟩ = w.cell? ⟨c, o, none⟩ := World.cell?_of_block (w := w) (h.block c hc hf)
theorem Only.frozen {fs : List Nat} {w w' : World} (h : Only fs w w') {c : Nat} (hc : c < w.heap.size) (o : Nat) : w'.frozen? ⟨c, o, none⟩ = w.frozen? ⟨c, o, none⟩ := by
  by_cases hm : c ∈ fs
  · exact h.fz c hm o hc
  · exact World.frozen?_of_block (w := w) (h.block c hc hm)
theorem Only.fresh {fs gs : List Nat} {w w' : World} (h : Only fs w w') {lo : Nat} (hg : Fresh lo w gs) : Fresh lo w' gs := hg.alike h.size (fun c hc o => h.frozen (hg.lt c hc) o)
theorem Only.sub {fs gs : List Nat} {w w' : World} (h : Only fs w w') {a : Option Addr} {f : F} (hs : SubAt w a f gs) (hg : ∀ c ∈ gs, c < w.heap.size ∧ c ∉ fs) : SubAt w' a f gs :=
  hs.congr (fun c hc o => h.cell (hg c hc).1 (hg c hc).2 o)

/-- A row, opened at one document. -/
theorem RowAt.at_iff {w : World} {p : F} {o n : Int} {t : ByteArray} {k r : F} {b off : Nat} {fs : List Nat} : RowAt w (p.app (.cons o n t k r)) b off fs ↔ ∃ (a : Option Addr) (cap : Nat) (fp f1 f2 : List Nat), fs = fp ++ (f1 ++ f2) ∧ RowAt w p b off fp ∧
    w.cell? ⟨b, off + p.len * 4, none⟩ = some (.int .i64 o) ∧ w.cell? ⟨b, off + p.len * 4 + 1, none⟩ = some (.int .i64 n) ∧ w.cell? ⟨b, off + p.len * 4 + 2, none⟩ = some (.string t) ∧ w.cell? ⟨b, off + p.len * 4 + 3, none⟩ = some (.slice a k.len cap) ∧ k.len ≤ cap ∧
    SubAt w a k f1 ∧ RowAt w r b (off + p.len * 4 + 4) f2 := by
  rw [RowAt.app_iff]
  constructor
  · rintro ⟨f1, f2, h1, h2, rfl⟩
    rw [Nat.mul_comm 4] at h2
    obtain ⟨a, cap, g1, g2, h3, h4, h5, h6, h7, h8, h9, rfl⟩ := RowAt.cons_iff.1 h2
    exact ⟨a, cap, f1, g1, g2, rfl, h1, h3, h4, h5, h6, h7, h8, h9⟩
  · rintro ⟨a, cap, fp, g1, g2, rfl, h1, h3, h4, h5, h6, h7, h8, h9⟩
    exact ⟨fp, g1 ++ g2, h1, by rw [Nat.mul_comm 4]; exact RowAt.cons_iff.2 ⟨a, cap, g1, g2, h3, h4, h5, h6, h7, h8, h9, rfl⟩, rfl⟩

/-- One cell of a document in a row is written. -/
theorem RowAt.set {w : World} {p : F} {o n o' n' : Int} {t t' : ByteArray} {k r : F} {b off : Nat} {fs : List Nat} (h : RowAt w (p.app (.cons o n t k r)) b off fs) (hb : b ∉ fs) {j : Nat} {u : Value}
    (hj : (j = 0 ∧ u = .int .i64 o' ∧ n' = n ∧ t' = t) ∨ (j = 1 ∧ u = .int .i64 n' ∧ o' = o ∧ t' = t) ∨ (j = 2 ∧ u = .string t' ∧ o' = o ∧ n' = n)) :
    RowAt (w.setCell ⟨b, off + p.len * 4 + j, none⟩ u) (p.app (.cons o' n' t' k r)) b off fs := by
  obtain ⟨a, cap, fp, f1, f2, rfl, h1, h3, h4, h5, h6, h7, h8, h9⟩ := RowAt.at_iff.1 h
  have hne : ∀ c ∈ fp ++ (f1 ++ f2), ∀ o, (w.setCell ⟨b, off + p.len * 4 + j, none⟩ u).cell? ⟨c, o, none⟩ = w.cell? ⟨c, o, none⟩ := fun c hc o => World.cell?_setCell_other _ _ _ _ (fun e => by injection e with e1; subst e1; exact hb hc)
  have hin : ∀ q, q ≠ off + p.len * 4 + j → (w.setCell ⟨b, off + p.len * 4 + j, none⟩ u).cell? ⟨b, q, none⟩ = w.cell? ⟨b, q, none⟩ := fun q hq => World.cell?_setCell_other _ _ _ _ (fun e => by injection e with e1 e2; omega)
  have hj3 : j ≤ 2 := by omega
  refine RowAt.at_iff.2 ⟨a, cap, fp, f1, f2, rfl, h1.congr' (fun q _ hq => hin q (by omega)) (fun c hc => hne c (by simp [hc])), ?_, ?_, ?_, ?_, h7, h8.congr (fun c hc => hne c (by simp [hc])), h9.congr' (fun q hq _ => hin q (by omega)) (fun c hc => hne c (by simp [hc]))⟩
  · rcases hj with ⟨rfl, rfl, rfl, rfl⟩ | ⟨rfl, rfl, rfl, rfl⟩ | ⟨rfl, rfl, rfl, rfl⟩
    · exact World.cell?_setCell_same w ⟨b, off + p.len * 4, none⟩ _ h3
    · rw [hin _ (by omega)]; exact h3
    · rw [hin _ (by omega)]; exact h3
  · rcases hj with ⟨rfl, rfl, rfl, rfl⟩ | ⟨rfl, rfl, rfl, rfl⟩ | ⟨rfl, rfl, rfl, rfl⟩
    · rw [hin _ (by omega)]; exact h4
    · exact World.cell?_setCell_same w ⟨b, off + p.len * 4 + 1, none⟩ _ h4
    · rw [hin _ (by omega)]; exact h4
  · rcases hj with ⟨rfl, rfl, rfl, rfl⟩ | ⟨rfl, rfl, rfl, rfl⟩ | ⟨rfl, rfl, rfl, rfl⟩
    · rw [hin _ (by omega)]; exact h5
    · rw [hin _ (by omega)]; exact h5
    · exact World.cell?_setCell_same w ⟨b, off + p.len * 4 + 2, none⟩ _ h5
  · rw [hin _ (by omega)]; exact h6

/-- A row, opened at one document, by its parts. -/
structure AtK (w : World) (q r : F) (o n : Int) (t : ByteArray) (k : F) (b off : Nat) (a : Option Addr) (cap : Nat) (fp f1 f2 : List Nat) : Prop where
  pre : RowAt w q b off fp
  c0 : w.cell? ⟨b, off + q.len * 4, none⟩ = some (.int .i64 o)
  c1 : w.cell? ⟨b, off + q.len * 4 + 1, none⟩ = some (.int .i64 n)
  c2 : w.cell? ⟨b, off + q.len * 4 + 2, none⟩ = some (.string t)
  c3 : w.cell? ⟨b, off + q.len * 4 + 3, none⟩ = some (.slice a k.len cap)
  cap_le : k.len ≤ cap
  sub : SubAt w a k f1
  rest : RowAt w r b (off + q.len * 4 + 4) f2

theorem RowAt.atK {w : World} {p : F} {o n : Int} {t : ByteArray} {k r : F} {b off : Nat} {fs : List Nat} (h : RowAt w (p.app (.cons o n t k r)) b off fs) : ∃ a cap fp f1 f2, fs = fp ++ (f1 ++ f2) ∧ AtK w p r o n t k b off a cap fp f1 f2 := by
  obtain ⟨a, cap, fp, f1, f2, rfl, h1, h3, h4, h5, h6, h7, h8, h9⟩ := RowAt.at_iff.1 h
  exact ⟨a, cap, fp, f1, f2, rfl, ⟨h1, h3, h4, h5, h6, h7, h8, h9⟩⟩

section
variable {w w' : World} {q r : F} {o n : Int} {t : ByteArray} {k : F} {b off : Nat} {a : Option Addr} {cap : Nat} {fp f1 f2 : List Nat}

theorem AtK.row (h : AtK w q r o n t k b off a cap fp f1 f2) : RowAt w (q.app (.cons o n t k r)) b off (fp ++ (f1 ++ f2)) :=
  RowAt.at_iff.2 ⟨a, cap, fp, f1, f2, rfl, h.pre, h.c0, h.c1, h.c2, h.c3, h.cap_le, h.sub, h.rest⟩

/-- the same where the row's cells and its sublists' are the same, but for one document's own three -/
theorem AtK.turn (h : AtK w q r o n t k b off a cap fp f1 f2) {o' n' : Int} {t' : ByteArray} (hb : ∀ x, x < off + q.len * 4 ∨ off + q.len * 4 + 3 ≤ x → w'.cell? ⟨b, x, none⟩ = w.cell? ⟨b, x, none⟩) (hne : ∀ c ∈ fp ++ (f1 ++ f2), ∀ x, w'.cell? ⟨c, x, none⟩ = w.cell? ⟨c, x, none⟩)
    (e0 : w'.cell? ⟨b, off + q.len * 4, none⟩ = some (.int .i64 o')) (e1 : w'.cell? ⟨b, off + q.len * 4 + 1, none⟩ = some (.int .i64 n')) (e2 : w'.cell? ⟨b, off + q.len * 4 + 2, none⟩ = some (.string t')) : AtK w' q r o' n' t' k b off a cap fp f1 f2 :=
  ⟨h.pre.congr' (fun x _ hx => hb x (Or.inl (by omega))) (fun c hc => hne c (by simp [hc])), e0, e1, e2, (hb _ (Or.inr (by omega))).trans h.c3, h.cap_le, h.sub.congr (fun c hc => hne c (by simp [hc])), h.rest.congr' (fun x hx _ => hb x (Or.inr (by omega))) (fun c hc => hne c (by simp [hc]))⟩

theorem AtK.set (h : AtK w q r o n t k b off a cap fp f1 f2) (hb : b ∉ fp ++ (f1 ++ f2)) {j : Nat} {u : Value} {o' n' : Int} {t' : ByteArray}
    (hj : (j = 0 ∧ u = .int .i64 o' ∧ n' = n ∧ t' = t) ∨ (j = 1 ∧ u = .int .i64 n' ∧ o' = o ∧ t' = t) ∨ (j = 2 ∧ u = .string t' ∧ o' = o ∧ n' = n)) : AtK (w.setCell ⟨b, off + q.len * 4 + j, none⟩ u) q r o' n' t' k b off a cap fp f1 f2 := by
  have hne : ∀ c ∈ fp ++ (f1 ++ f2), ∀ o, (w.setCell ⟨b, off + q.len * 4 + j, none⟩ u).cell? ⟨c, o, none⟩ = w.cell? ⟨c, o, none⟩ := fun c hc o => World.cell?_setCell_other _ _ _ _ (fun e => by injection e with e1; subst e1; exact hb hc)
  have hin : ∀ x, x ≠ off + q.len * 4 + j → (w.setCell ⟨b, off + q.len * 4 + j, none⟩ u).cell? ⟨b, x, none⟩ = w.cell? ⟨b, x, none⟩ := fun x hx => World.cell?_setCell_other _ _ _ _ (fun e => by injection e with e1 e2; omega)
  have hj3 : j ≤ 2 := by omega
  refine h.turn (fun x hx => hin x (by omega)) hne ?_ ?_ ?_
  · rcases hj with ⟨rfl, rfl, rfl, rfl⟩ | ⟨rfl, rfl, rfl, rfl⟩ | ⟨rfl, rfl, rfl, rfl⟩
    · exact World.cell?_setCell_same w ⟨b, off + q.len * 4, none⟩ _ h.c0
    · rw [hin _ (by omega)]; exact h.c0
    · rw [hin _ (by omega)]; exact h.c0
  · rcases hj with ⟨rfl, rfl, rfl, rfl⟩ | ⟨rfl, rfl, rfl, rfl⟩ | ⟨rfl, rfl, rfl, rfl⟩
    · rw [hin _ (by omega)]; exact h.c1
    · exact World.cell?_setCell_same w ⟨b, off + q.len * 4 + 1, none⟩ _ h.c1
    · rw [hin _ (by omega)]; exact h.c1
  · rcases hj with ⟨rfl, rfl, rfl, rfl⟩ | ⟨rfl, rfl, rfl, rfl⟩ | ⟨rfl, rfl, rfl, rfl⟩
    · rw [hin _ (by omega)]; exact h.c2
    · rw [hin _ (by omega)]; exact h.c2
    · exact World.cell?_setCell_same w ⟨b, off + q.len * 4 + 2, none⟩ _ h.c2

theorem AtK.below (h : AtK w q r o n t k b off a cap fp f1 f2) {B : Nat} (hb : b < B) (hfs : ∀ c ∈ fp ++ (f1 ++ f2), c < B) (hk : Below B w w') : AtK w' q r o n t k b off a cap fp f1 f2 :=
  h.turn (fun x _ => hk.cell (p := ⟨_, _, _⟩) hb) (fun c hc _ => hk.cell (p := ⟨_, _, _⟩) (hfs c hc)) ((hk.cell (p := ⟨_, _, _⟩) hb).trans h.c0) ((hk.cell (p := ⟨_, _, _⟩) hb).trans h.c1) ((hk.cell (p := ⟨_, _, _⟩) hb).trans h.c2)

/-- the Kids have been written -/
theorem AtK.kid (h : AtK w q r o n t k b off a cap fp f1 f2) {lo : Nat} (hF : Fresh lo w (b :: (fp ++ (f1 ++ f2)))) (hO : Only f1 w w') {k' : F} (hs : SubAt w' a k' f1) (hl : k'.len = k.len) : AtK w' q r o n t k' b off a cap fp f1 f2 := by
  have hnd := List.nodup_cons.1 hF.1
  have hn1 := List.nodup_append.1 hnd.2
  have hn2 := List.nodup_append.1 hn1.2.1
  have hb : b ∉ f1 := fun hm => hnd.1 (by simp [hm])
  have hbw : b < w.heap.size := hF.lt b (by simp)
  have hbc : ∀ x, w'.cell? ⟨b, x, none⟩ = w.cell? ⟨b, x, none⟩ := fun x => hO.cell hbw hb x
  have hpc : ∀ c ∈ fp, ∀ x, w'.cell? ⟨c, x, none⟩ = w.cell? ⟨c, x, none⟩ := fun c hc x => hO.cell (hF.lt c (by simp [hc])) (fun hm => hn1.2.2 c hc c (by simp [hm]) rfl) x
  have hrc : ∀ c ∈ f2, ∀ x, w'.cell? ⟨c, x, none⟩ = w.cell? ⟨c, x, none⟩ := fun c hc x => hO.cell (hF.lt c (by simp [hc])) (fun hm => hn2.2.2 c hm c hc rfl) x
  exact ⟨h.pre.congr hbc hpc, (hbc _).trans h.c0, (hbc _).trans h.c1, (hbc _).trans h.c2, by rw [hl]; exact (hbc _).trans h.c3, by rw [hl]; exact h.cap_le, hs, h.rest.congr hbc hrc⟩
end

end Go.Proofs.Ytjpgnhpfmdjamaa
