import Derived.Test.YtclifbjnooilmaaGreatGgX
import Derived.Test.YtclifbjnooilmaaGreatWoX
/-
 Without its groups a document has no gap: plain facts.
-/
set_option linter.unusedVariables false
set_option linter.unusedSimpArgs false
namespace Go.Proofs.YtclifbjnooilmaaGreat.Be
open Go.RowKit P1 Cnt ChP It Cst
theorem one_facts {i o n o2 n2 : Int} {t t2 : ByteArray} {k k2 : F} {v1 v2 : Int} (hR : Nf.woRes o n t k = (true, o2, n2, t2, k2)) (hB : bcR i o2 n2 t2 k2 = (v1, v2, true)) : ggR i o2 n2 t2 k2 = (0, 0, true) ∧ fgR o2 n2 t2 k2 = (0, false) := by
 have hw := Nf.wo_all (o := o) (n := n) (t := t) (k := k) (by rw [hR])
 rw [hR] at hw
 obtain ⟨_, vw, _, _, hc, _, _⟩ := hw
 simp only at vw hc
 obtain ⟨hto, hl⟩ := lays_one vw hc
 have hb : (beR i o2 n2 t2 k2).2 = true := by
  cases hb : (beR i o2 n2 t2 k2).2 with
  | true => rfl
  | false => rw [bc_no hb] at hB; cases hB
 exact ⟨gg_one hto hl hb, fg_one hto hl⟩
end Go.Proofs.YtclifbjnooilmaaGreat.Be
