import Derived.Test.YtjcaiecapapceaaGreatDr7
import Derived.Test.YtjcaiecapapceaaGreatNfN
/-
 What the model's draw of a document for IsNormal comes to: some document of a bounded size in memory of its own, sometimes a normal form.
-/
set_option linter.unusedVariables false
set_option linter.unusedSimpArgs false
namespace Go.Proofs.YtjcaiecapapceaaGreat.Dr7
open Go.RowKit P1 Draw Draw2 Draw6 Copy DrA DrB DrC CatD ParseD DrD Mut Mut2 DrI DrN Nf
theorem ch_1100 {d d' : D} {ok : Bool} {o n : Int} {t : ByteArray} {k : F} (h : chR d d' = (ok, o, n, t, k)) : t.size + k.size ≤ 1100 := by
 unfold chR at h
 split at h
 ·split at h
  ·rename_i hv
   injection h with h1 h2
   subst h2
   have h1 := valid_nice hv
   have h2 := nice_size k (nice_kids h1.1).2
   have h3 := nice_text (Bool.and_eq_true_iff.1 h1.1).1
   simp only at h1 h3
   omega
  ·injection h with h1 h2
   unfold zeroD at h2
   injection h2 with _ h2
   injection h2 with _ h2
   injection h2 with h3 h4
   subst h3 h4
   decide
 ·injection h with h1 h2
  unfold zeroD at h2
  injection h2 with _ h2
  injection h2 with _ h2
  injection h2 with h3 h4
  subst h3 h4
  decide
end Go.Proofs.YtjcaiecapapceaaGreat.Dr7
