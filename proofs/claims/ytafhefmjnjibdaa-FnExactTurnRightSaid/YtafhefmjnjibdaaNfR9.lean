import Derived.Test.YtafhefmjnjibdaaNfR8
/-
  The model's l7Right at every document.
-/
set_option linter.unusedVariables false
set_option linter.unusedSimpArgs false
namespace Go.Proofs.Ytafhefmjnjibdaa.Nf
open Go.RowKit P1 Copy CatD

theorem ri_doc (w : World) (o n : Int) (t : ByteArray) (k : F) (ih : ∀ f : F, f.deep ≤ k.deep → RiS f) (hn : niceD (o, n, t, k) = true) (hcnt : k.cnt ≤ 10000) (a : Option Addr) (cap : Nat) (fs : List Nat) (hs : SubAt w a k fs) (hfs : ∀ c ∈ fs, c < w.heap.size) (hc : k.len ≤ cap) :
    Calls Try.prog 73 #[.agg #[.int .i64 o, .int .i64 n, .string t, .slice a k.len cap]] w (NewD w (rowD (fun f => f) o n t k)) := by
  by_cases h7 : o = 7
  · subst h7
    have hl := (ri_parts hn).2
    obtain ⟨p, o9, n9, t9, k9, hsn⟩ := snoc_of (psD (fun f => f) 7 n t k) (ps_pos _ hn)
    have e : rowD (fun f => f) 7 n t k = catOn p (o9, n9, t9, k9) := by
      show catAll (psD (fun f => f) 7 n t k) = _
      rw [hsn, show F.cons o9 n9 t9 k9 .nil = consD (o9, n9, t9, k9) .nil from rfl, catAll_snoc]
    have hpl : p.len ≤ (psD (fun f => f) 7 n t k).len := by rw [hsn, F.len_app]; omega
    rw [e]
    refine ri_pair w n t k a cap (w.heap.size + 1 + 1) p o9 n9 t9 k9 rfl (by omega) (fun W v e g => ?_)
    have h := spine (ri_oneOf ih) k.deep (Nat.le_refl _) W (w.heap.size + 1 + 1) v .nil [] 7 n t k a cap fs (Nat.le_refl _) hn hcnt (by simp only [F.len]; omega) g (e.sub hs hfs) (fun c hc => by have := hfs c hc; omega) hc
    rw [hsn] at h
    exact h
  · have e : rowD (fun f => f) o n t k = (o, n, t, mapL (rowD (fun f => f)) k) := by
      show catAll (psD (fun f => f) o n t k) = _
      unfold psD
      rw [if_neg h7, pr_map]; rfl
    rw [e]
    exact ri_one w o n t k (ih k (Nat.le_refl _)) hn hcnt a cap fs hs hfs hc h7

/-- The contract of l7Right, at the documents of every list. -/
theorem riS (m : Nat) : ∀ f : F, f.deep ≤ m → RiS f := by
  induction m with
  | zero =>
    intro f hf w o n t k p r a cap fs he
    rw [he, F.deep_app] at hf; simp only [F.deep] at hf; omega
  | succ m ih =>
    intro f hf w o n t k p r a cap fs he hn hcnt hs hfs hc
    have hk : k.deep ≤ m := by rw [he, F.deep_app] at hf; simp only [F.deep] at hf; omega
    have hn' : niceD (o, n, t, k) = true := by
      rw [he, nice_app, Bool.and_eq_true] at hn
      exact (Bool.and_eq_true_iff.1 hn.2).1
    rw [he, F.cnt_app] at hcnt
    simp only [F.cnt] at hcnt
    exact ri_doc w o n t k (fun f hf => ih f (Nat.le_trans hf hk)) hn' (by omega) a cap fs hs hfs hc

theorem l7Right (w : World) (o n : Int) (t : ByteArray) (k : F) (hn : niceD (o, n, t, k) = true) (hcnt : k.cnt ≤ 10000) (a : Option Addr) (cap : Nat) (fs : List Nat) (hs : SubAt w a k fs) (hfs : ∀ c ∈ fs, c < w.heap.size) (hc : k.len ≤ cap) :
    Calls Try.prog 73 #[.agg #[.int .i64 o, .int .i64 n, .string t, .slice a k.len cap]] w (NewD w (rowD (fun f => f) o n t k)) :=
  ri_doc w o n t k (fun f _ => riS _ f (Nat.le_refl _)) hn hcnt a cap fs hs hfs hc

end Go.Proofs.Ytafhefmjnjibdaa.Nf

