import Derived.Test.YtmkibpimjaofgaaDrE
/-
  What the model's draws of the arguments of CatLayouts and NestLayout come to.
-/
set_option linter.unusedVariables false
set_option linter.unusedSimpArgs false
namespace Go.Proofs.Ytmkibpimjaofgaa.DrF
open Go.RowKit P1 Draw Draw2 Draw6 DrA DrD DrE LayN
end Go.Proofs.Ytmkibpimjaofgaa.DrF

