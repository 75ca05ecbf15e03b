import Derived.Test.YtclifbjnooilmaaGreatPl
/-
 Normal forms as plain functions on lists of documents; nothing here speaks of the program.
-/
set_option linter.unusedVariables false
set_option linter.unusedSimpArgs false
namespace Go.Proofs.YtclifbjnooilmaaGreat.Nf
open P1
def consD (d : D) (r : F) : F := .cons d.1 d.2.1 d.2.2.1 d.2.2.2 r
def zD : D := (0, 0, ⟨#[]⟩, .nil)
def hd : F → D
 | .nil => zD
 | .cons o n t k _ => (o, n, t, k)
end Go.Proofs.YtclifbjnooilmaaGreat.Nf
namespace Go.Proofs.YtclifbjnooilmaaGreat.Nf
open P1
end Go.Proofs.YtclifbjnooilmaaGreat.Nf
namespace Go.Proofs.YtclifbjnooilmaaGreat.Nf
open P1
end Go.Proofs.YtclifbjnooilmaaGreat.Nf
namespace Go.Proofs.YtclifbjnooilmaaGreat.Nf
open P1
def catAll : F → D
 | .nil => (1, 0, ⟨#[]⟩, .nil)
 | .cons o n t k r => if r.len = 0 then (o, n, t, k) else (7, 0, ⟨#[]⟩, .cons o n t k (consD (catAll r) .nil))
def pr (g : F → F) : F → F × F
 | .nil => (.nil, .nil)
 | .cons o n t k r => ((if o = 7 then (pr g k).1 else .cons o n t (pr g k).2 .nil).app (pr g r).1, consD (catAll (g (if o = 7 then (pr g k).1 else .cons o n t (pr g k).2 .nil))) (pr g r).2)
end Go.Proofs.YtclifbjnooilmaaGreat.Nf
