/-
  What LayoutSame and LayoutValid answer at two parts of layouts that lie in memory.
-/
import Derived.Test.YtgnpcfafdjebeaaLayQ2
import Derived.Test.YtgnpcfafdjebeaaLaySm
import Derived.Test.YtgnpcfafdjebeaaLayV
import Derived.Test.YtgnpcfafdjebeaaDrE
set_option linter.unusedVariables false
set_option linter.unusedSimpArgs false
namespace Go.Proofs.Ytgnpcfafdjebeaa.LayR
open Go.RowKit P1 DrE

theorem sameAt {W : World} {l l' : List (Int × ByteArray)} {b o b' o' n c c' : Nat} (h : LayAt W l b o) (h' : LayAt W l' b' o') (hn : l.length = n) (e : l = l') (hc : n ≤ c) (hc' : n ≤ c') (hm : n ≤ 400) :
    Calls Try.prog 27 #[.slice (some ⟨b, o, none⟩) n c, .slice (some ⟨b', o', none⟩) n c'] W fun e w' => e = .returned (.bool true) ∧ Below W.heap.size W w' := by
  subst e
  obtain ⟨fs, hs⟩ := h.sub
  obtain ⟨fs', hs'⟩ := h'.sub
  have hmm : l.length ≤ maxLen := by unfold maxLen; omega
  have H := LaySm.implLayoutSame l l W _ c fs hs _ c' fs' hs' (by omega) (by omega) hmm hmm
  rw [decide_eq_true rfl, hn] at H
  exact H
theorem sameNil (W : World) (a a' : Option Addr) (c c' : Nat) :
    Calls Try.prog 27 #[.slice a 0 c, .slice a' 0 c'] W fun e w' => e = .returned (.bool true) ∧ Below W.heap.size W w' := by
  have H := LaySm.implLayoutSame [] [] W a c [] (.inl ⟨rfl, rfl⟩) a' c' [] (.inl ⟨rfl, rfl⟩) (Nat.zero_le _) (Nat.zero_le _) (Nat.zero_le _) (Nat.zero_le _)
  rw [decide_eq_true rfl] at H
  exact H
theorem sameZ {n : Nat} (W : World) (a a' : Option Addr) (c c' : Nat) (h : n = 0) :
    Calls Try.prog 27 #[.slice a n c, .slice a' n c'] W fun e w' => e = .returned (.bool true) ∧ Below W.heap.size W w' := by
  subst h
  exact sameNil W a a' c c'
theorem validAt {W : World} {l : List (Int × ByteArray)} {b o n c : Nat} (h : LayAt W l b o) (hn : l.length = n) (hv : lv l = true) (hs : Small l) (hc : n ≤ c) :
    Calls Try.prog 28 #[.slice (some ⟨b, o, none⟩) n c] W fun e w' => e = .returned (.bool true) ∧ Below W.heap.size W w' := by
  obtain ⟨fs, hsb⟩ := h.sub
  have H := LayV.implLayoutValid l W _ c fs hsb (by omega) hs.fits.2 hs.fits.1
  rw [hv, hn] at H
  exact H

end Go.Proofs.Ytgnpcfafdjebeaa.LayR
