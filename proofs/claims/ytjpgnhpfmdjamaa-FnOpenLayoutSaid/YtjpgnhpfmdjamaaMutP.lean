/-
  One document of a list changed for another, as plain data and in memory; nothing here speaks of the program.
-/
import Derived.Test.YtjpgnhpfmdjamaaDocs
set_option linter.unusedVariables false
set_option linter.unusedSimpArgs false
namespace Go.Proofs.Ytjpgnhpfmdjamaa
open Go.RowKit

/-- the list parted at its j-th document -/
theorem F.split_at {f : F} : ∀ {j : Nat}, j < f.len → ∃ (p : F) (o n : Int) (t : ByteArray) (k r : F), f = p.app (.cons o n t k r) ∧ p.len = j := by
  induction f with
  | nil => intro j h; simp [F.len] at h
  | cons o n t k r _ ih =>
    intro j h
    cases j with
    | zero => exact ⟨.nil, o, n, t, k, r, rfl, rfl⟩
    | succ j =>
      simp only [F.len] at h
      obtain ⟨p, o', n', t', k', r', rfl, hj⟩ := ih (j := j) (by omega)
      exact ⟨.cons o n t k p, o', n', t', k', r', rfl, by simp only [F.len]; omega⟩

/-- the blocks of a list's lists, parted at one document -/
theorem RowAt.parts {w : World} {p : F} {b off : Nat} {fs : List Nat} {o n : Int} {t : ByteArray} {k r : F} (h : RowAt w (p.app (.cons o n t k r)) b off fs) :
    ∃ (a : Option Addr) (cap : Nat) (f1 fk f2 : List Nat), w.cell? ⟨b, off + p.len * 4, none⟩ = some (.int .i64 o) ∧ w.cell? ⟨b, off + p.len * 4 + 1, none⟩ = some (.int .i64 n) ∧ w.cell? ⟨b, off + p.len * 4 + 2, none⟩ = some (.string t) ∧
      w.cell? ⟨b, off + p.len * 4 + 3, none⟩ = some (.slice a k.len cap) ∧ k.len ≤ cap ∧ SubAt w a k fk ∧ RowAt w p b off f1 ∧ RowAt w r b (off + p.len * 4 + 4) f2 ∧ fs = f1 ++ (fk ++ f2) := by
  obtain ⟨f1, g, h1, h2, rfl⟩ := RowAt.app_iff.1 h
  rw [Nat.mul_comm 4] at h2
  obtain ⟨a, cap, g1, g2, h3, h4, h5, h6, h7, h8, h9, rfl⟩ := RowAt.cons_iff.1 h2
  exact ⟨a, cap, f1, g1, g2, h3, h4, h5, h6, h7, h8, h1, h9, rfl⟩
theorem RowAt.join {w : World} {p : F} {b off : Nat} {f1 fk f2 : List Nat} {o n : Int} {t : ByteArray} {k r : F} {a : Option Addr} {cap : Nat} (h0 : w.cell? ⟨b, off + p.len * 4, none⟩ = some (.int .i64 o)) (h1 : w.cell? ⟨b, off + p.len * 4 + 1, none⟩ = some (.int .i64 n)) (h2 : w.cell? ⟨b, off + p.len * 4 + 2, none⟩ = some (.string t))
    (h3 : w.cell? ⟨b, off + p.len * 4 + 3, none⟩ = some (.slice a k.len cap)) (hc : k.len ≤ cap) (hs : SubAt w a k fk) (hp : RowAt w p b off f1) (hr : RowAt w r b (off + p.len * 4 + 4) f2) : RowAt w (p.app (.cons o n t k r)) b off (f1 ++ (fk ++ f2)) :=
  RowAt.app_iff.2 ⟨f1, fk ++ f2, hp, by rw [Nat.mul_comm 4]; exact RowAt.cons_iff.2 ⟨a, cap, fk, f2, h0, h1, h2, h3, hc, hs, hr, rfl⟩, rfl⟩

/-- behind the store of a document over another: the list lies, with the other document's lists in the place of the first one's -/
theorem RowAt.setDoc {w w' : World} {p : F} {b off : Nat} {fs fk' : List Nat} {o n o' n' : Int} {t t' : ByteArray} {k k' r : F} {a' : Option Addr} {cap' : Nat} (h : RowAt w (p.app (.cons o n t k r)) b off fs) (hb : ∀ x, (x < off + p.len * 4 ∨ off + p.len * 4 + 4 ≤ x) → w'.cell? ⟨b, x, none⟩ = w.cell? ⟨b, x, none⟩)
    (hfs : ∀ c ∈ fs, ∀ x, w'.cell? ⟨c, x, none⟩ = w.cell? ⟨c, x, none⟩)
    (h0 : w'.cell? ⟨b, off + p.len * 4, none⟩ = some (.int .i64 o')) (h1 : w'.cell? ⟨b, off + p.len * 4 + 1, none⟩ = some (.int .i64 n')) (h2 : w'.cell? ⟨b, off + p.len * 4 + 2, none⟩ = some (.string t')) (h3 : w'.cell? ⟨b, off + p.len * 4 + 3, none⟩ = some (.slice a' k'.len cap')) (hc : k'.len ≤ cap') (hs : SubAt w' a' k' fk') :
    ∃ (f1 fk f2 : List Nat), fs = f1 ++ (fk ++ f2) ∧ RowAt w' (p.app (.cons o' n' t' k' r)) b off (f1 ++ (fk' ++ f2)) := by
  obtain ⟨a, cap, f1, fk, f2, _, _, _, _, _, _, hp, hr, rfl⟩ := h.parts
  refine ⟨f1, fk, f2, rfl, RowAt.join h0 h1 h2 h3 hc hs ?_ ?_⟩
  · exact hp.congr' (fun x h1 h2 => hb x (by omega)) (fun c hc x => hfs c (by simp [hc]) x)
  · exact hr.congr' (fun x h1 h2 => hb x (by omega)) (fun c hc x => hfs c (by simp [hc]) x)

theorem Fresh.swap {lo hi : Nat} {w : World} {b : Nat} {f1 fk f2 g : List Nat} (h : Fresh lo w (b :: (f1 ++ (fk ++ f2)))) (hlt : ∀ c ∈ b :: (f1 ++ (fk ++ f2)), c < hi) (k : Fresh hi w g) (hl : lo ≤ hi) : Fresh lo w (b :: (f1 ++ (g ++ f2))) := by
  obtain ⟨hn, ha⟩ := h
  obtain ⟨kn, ka⟩ := k
  rw [List.nodup_cons, List.nodup_append, List.nodup_append] at hn
  obtain ⟨h0, h1, ⟨h2, h3, h4⟩, h5⟩ := hn
  refine ⟨?_, fun c hc => ?_⟩
  · rw [List.nodup_cons, List.nodup_append, List.nodup_append]
    refine ⟨?_, h1, ⟨kn, h3, ?_⟩, ?_⟩
    · intro hm
      simp only [List.mem_append] at hm h0
      rcases hm with hm | hm | hm
      · exact h0 (.inl hm)
      · have := (ka b hm).1; have := hlt b (by simp); omega
      · exact h0 (.inr (.inr hm))
    · intro c hc d hd e
      subst e
      have := (ka c hc).1; have := hlt c (by simp [hd]); omega
    · intro c hc d hd e
      subst e
      simp only [List.mem_append] at hd
      rcases hd with hd | hd
      · have := (ka c hd).1; have := hlt c (by simp [hc]); omega
      · exact h5 c hc c (by simp [hd]) rfl
  · simp only [List.mem_cons, List.mem_append] at hc
    rcases hc with rfl | hc | hc | hc
    · exact ha c (by simp)
    · exact ha c (by simp [hc])
    · have := ka c hc; exact ⟨Nat.le_trans hl this.1, this.2⟩
    · exact ha c (by simp [hc])

end Go.Proofs.Ytjpgnhpfmdjamaa
