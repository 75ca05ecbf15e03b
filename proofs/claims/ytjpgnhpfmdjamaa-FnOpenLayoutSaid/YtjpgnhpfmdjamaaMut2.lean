/-
  The contract of the model's l1Mutate, at the documents of every list.
-/
import Derived.Test.YtjpgnhpfmdjamaaMut
set_option linter.unusedVariables false
set_option linter.unusedSimpArgs false
namespace Go.Proofs.Ytjpgnhpfmdjamaa.Mut2
open Go.RowKit P1 Draw Draw2 Copy CopyS DrA DrD Mut

/-- The contract of l1Mutate. -/
theorem mutAt (d : Nat) : ∀ k : F, k.deep ≤ d → MutAt (d + 1) k := by
  induction d with
  | zero =>
    intro k hk w x lo p o n t a cap fs hs hfs hc hsz ht hrd hp hx
    rw [show 3 + 2 * (0 + 1) = 5 + 2 * 0 from rfl]
    exact mut_step 0 w x lo p o n t k (fun pr r o1 n1 t1 k1 e => by rw [e, F.deep_app] at hk; simp only [F.deep] at hk; omega) a cap fs hs hfs hc hsz ht hrd (by omega) hx
  | succ d ih =>
    intro k hk w x lo p o n t a cap fs hs hfs hc hsz ht hrd hp hx
    rw [show 3 + 2 * (d + 1 + 1) = 5 + 2 * (d + 1) by omega]
    exact mut_step (d + 1) w x lo p o n t k (fun pr r o1 n1 t1 k1 e => ih k1 (by rw [e, F.deep_app] at hk; simp only [F.deep] at hk; omega)) a cap fs hs hfs hc hsz ht hrd (by omega) hx

theorem deep_le_size (f : F) : f.deep ≤ f.size := by
  induction f with
  | nil => simp [F.deep]
  | cons o n t k r ihk ihr => simp only [F.deep, F.size]; omega

/-- l1Mutate, at a document of at most a million bytes -/
theorem l1Mutate (w : World) (x lo p M : Nat) (o n : Int) (t : ByteArray) (k : F) (a : Option Addr) (cap : Nat) (fs : List Nat) (hs : SubAt w a k fs) (hfs : ∀ c ∈ fs, c < w.heap.size) (hc : k.len ≤ cap) (hM : t.size + k.size ≤ M) (hM1 : M ≤ 1000000) (hrd : Rd w x lo p) (hp : p + (5 + 2 * M) ≤ 1073741824) (hx : x < w.heap.size) :
    Calls Try.prog 52 #[.pointer (some ⟨x, 0, none⟩), .agg #[.int .i64 o, .int .i64 n, .string t, .slice a k.len cap]] w (DocOut w x lo p (5 + 2 * M) (M + 20)) := by
  have hd := deep_le_size k
  refine (mutAt k.deep k (Nat.le_refl _) w x lo p o n t a cap fs hs hfs hc (by omega) (by omega) hrd (by omega) hx).mono ?_
  rintro e w' ⟨o1, n1, t1, k1, a1, cap1, f1, q, h1, h2, h3, h4, h5, h6, h7, h8⟩
  exact ⟨o1, n1, t1, k1, a1, cap1, f1, q, h1, h2, by omega, h4, h5, h6, by omega, h8⟩

end Go.Proofs.Ytjpgnhpfmdjamaa.Mut2
