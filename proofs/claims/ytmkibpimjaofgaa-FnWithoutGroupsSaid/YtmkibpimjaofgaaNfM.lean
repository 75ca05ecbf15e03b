import Derived.Test.YtmkibpimjaofgaaDcK
import Derived.Test.YtmkibpimjaofgaaSameL
/-
  DocSame at two documents that stay (beside DocM).
-/
set_option linter.unusedVariables false
set_option linter.unusedSimpArgs false
namespace Go.Proofs.Ytmkibpimjaofgaa.NfM
open Go.RowKit P1

theorem same {w : World} {n n' : Int} {t t' : ByteArray} {k k' : F} {a a' : Option Addr} {cap cap' : Nat} {fs fs' : List Nat} (h : DocK.Doc0 w n t k a cap fs) (h' : DocK.Doc0 w n' t' k' a' cap' fs') (o o' : Int) : Calls Try.prog 41 #[.agg #[.int .i64 o, .int .i64 n, .string t, .slice a k.len cap], .agg #[.int .i64 o', .int .i64 n', .string t', .slice a' k'.len cap']] w fun e w' => e = .returned (.bool (sameD o n t k o' n' t' k')) ∧ Ext w w' :=
  SameL.docSame w (o, n, t, k) (o', n', t', k') _ _ (h.docV o) (h'.docV o')

end Go.Proofs.Ytmkibpimjaofgaa.NfM

