import Derived.Test.YtmkibpimjaofgaaDrF
/-
  What the model's draw of the argument of LayoutDoc comes to.
-/
set_option linter.unusedVariables false
set_option linter.unusedSimpArgs false
set_option maxRecDepth 100000
set_option maxHeartbeats 1600000
namespace Go.Proofs.Ytmkibpimjaofgaa.DrLd
open Go.RowKit P1 Draw Draw2 Draw6 DrA DrD DrE DrF LayN

def LdDraw (w : World) (e : Ending) (w' : World) : Prop := ∃ (l : List (Int × ByteArray)) (p : Option Addr) (c : Nat) (f : List Nat), e = .returned (.slice p l.length c) ∧ l.length ≤ c ∧ Small l ∧ LaySub w' p l f ∧ Below w.heap.size w w'

theorem drawLd (w : World) (a : Option Addr) (len cap : Nat) (hb : Bytes w a len) (hlc : len ≤ cap) (hcm : cap ≤ maxLen) :
    Calls Try.prog 51 #[.slice a len cap] w (LdDraw w) := by
  have HO := Lib.hid (l15Open w a len cap hb hlc hcm)
  clear hb hlc hcm
  go_enter Try.func51, Try.ntmps51
  go_wp2_with fail
  refine HO.out.mono ?_
  rintro e1 w1 ⟨rfl, hrd1, hlt1, hb1⟩
  have HD := Lib.hid (l2Draw w1 w.heap.size w.heap.size 0 hrd1 (by omega) hlt1)
  have H1 := Lib.hid (And.intro hlt1 hb1)
  clear hrd1 hlt1 hb1
  go_wp2_with fail
  refine HD.out.mono ?_
  rintro e2 w2 ⟨l, p, c, f, q, rfl, hc, hs, hl, hf, hrd2, hq, hbut2⟩
  have H2 := Lib.hid (And.intro hc (And.intro hs (And.intro hl hbut2)))
  clear hc hs hl hf hrd2 hbut2
  go_wp2_with fail
  go_ret
  obtain ⟨hc, hs, hl, hbut2⟩ := H2.out
  exact ⟨l, p, c, f, rfl, hc, hs, hl, H1.out.2.trans (hbut2.below H1.out.2.size (Nat.le_refl _))⟩

end Go.Proofs.Ytmkibpimjaofgaa.DrLd

