import Derived.Test.YtcpbhkgdeaanmaaNfB
/-
  Dropping empty parts makes a document no deeper: a valid one stays valid.
-/
set_option linter.unusedVariables false
set_option linter.unusedSimpArgs false
namespace Go.Proofs.Ytcpbhkgdeaanmaa.Nf
open Go.RowKit P1 Copy CatD

theorem hd_deep (f : F) : (hd f).2.2.2.deep ≤ f.deep := by
  cases f with
  | nil => exact Nat.le_refl _
  | cons o n t k r => show k.deep ≤ max (k.deep + 1) r.deep; omega
theorem tl_deep (f : F) : (tl f).deep ≤ f.deep := by
  cases f with
  | nil => exact Nat.le_refl _
  | cons o n t k r => show r.deep ≤ max (k.deep + 1) r.deep; omega
theorem em_deep1 (o n : Int) (t : ByteArray) (k : F) : (emR o n t k).2.2.2.deep ≤ k.deep := by
  unfold emR
  split
  · exact Nat.le_trans (hd_deep _) (tl_deep _)
  · split
    · exact hd_deep _
    · split
      · exact hd_deep _
      · exact Nat.le_refl _
theorem em_deep : ∀ f : F, (chL emR f).deep ≤ f.deep := by
  intro f
  induction f with
  | nil => exact Nat.le_refl _
  | cons o n t k r ihk ihr =>
    have h1 := em_deep1 o n t (chL emR k)
    show max ((emR o n t (chL emR k)).2.2.2.deep + 1) (chL emR r).deep ≤ max (k.deep + 1) r.deep
    omega

def ap (φ : Rule) (d : D) : D := φ d.1 d.2.1 d.2.2.1 d.2.2.2
def n1D (d : D) : D := ap (chD emR) d
theorem no_1 {d : D} (h : validD d.1 d.2.1 d.2.2.1 d.2.2.2 = true) : niceD (n1D d) = true ∧ 1 + (n1D d).2.2.2.cnt ≤ 80 ∧ (n1D d).2.2.2.deep ≤ 39 := by
  obtain ⟨o, n, t, k⟩ := d
  obtain ⟨h1, h2, h3⟩ := valid_nice h
  obtain ⟨h4, h5⟩ := em_nice h1
  refine ⟨h4, ?_, ?_⟩
  · have e : (n1D (o, n, t, k)).2.2.2.cnt ≤ k.cnt := h5
    have h3' : 1 + k.cnt ≤ 80 := h3
    omega
  · have e1 := em_deep1 o n t (chL emR k)
    have e2 := em_deep k
    have e3 : (n1D (o, n, t, k)).2.2.2.deep ≤ (chL emR k).deep := e1
    have h2' : k.deep ≤ 39 := h2
    omega

end Go.Proofs.Ytcpbhkgdeaanmaa.Nf

