/-
  NARROWER THAN 'FOR EVERY INPUT', by the rows' own cells (each row's printed sentence says how): FnExactBestLayout: loops · FnExactBestCost: loops · FnExactParetoLayouts: loops.
  DERIVED. THE GIVEN ROWS OF THIS SEAT. 7 by the template 'for every input the law returns true; each argument reads behind the call as it read before'; 0 by the template 'total and deterministic' (their statements: YtgcaolofehgbeaaTotals.lean).
  GIVEN WITH THE SEED: the statements are not yours to turn. If you find one false, say at which input.
  Laid BY PROGRAM, IN A SANDBOX (cutbox-rows.mjs): the forced cells as the released guide's own fill.sh prints them over the translation dda751a8b6b30a64… (all of the seat's roots in one cut). By AI agents, Wed Nov 11 2026. No macro, syntax, notation, axiom, sorry.
-/
import Derived.Test.YtgcaolofehgbeaaChecked
import GoSem.Claim
import GoSem.ClaimJoined
import GoSem.ClaimMapViews
import Derived.JoinedTies
import Derived.KernelRfl
namespace Go.Proofs.Ytgcaolofehgbeaa
/- THE CELL 'sum', in the pinned program and in every row, IS THE sha256 OF THE DUMP (.gsa) THAT YtgcaolofehgbeaaProg.lean LOADS. Nothing in Lean hashes anything: it is a label: what it is worth is what the hold of that sum in a sandbox is worth. -/
noncomputable def Try.pinned : Pinned := { name := "ytgcaolofehgbeaa", sum := "dda751a8b6b30a64adaf7e20256a67d63c951a9a27d0f23a1d46d520a583b704", checked := Try.checked }
namespace Rows
def none {H : Type} : Left H := { results := [], args := [] }

/-- 'laws.FnRenderCat': WHATEVER THE INPUT: true; the input reads as it did. -/
def fnRenderCatSpec : ChangeSpec := { name := "fnRenderCat", fn := fun _ => fun
  | [d1, d2] => { results := [.lit (.bool true)], args := [d1, d2] }
  | _ => none }
def fnRenderCatRow : OpenClaim := { program := "ytgcaolofehgbeaa", sum := "dda751a8b6b30a64adaf7e20256a67d63c951a9a27d0f23a1d46d520a583b704", func := "loop.example/docalgebra/laws.FnRenderCat", spec := "fnRenderCat", inPlace := ["internal/bytealg.IndexByteString", "internal/abi.NoEscape"], unfollowed := true, recurses := true, plainKeys := false, apart := false }
def FnRenderCatSaid : Prop := fnRenderCatRow.holds Try.pinned (OpenSpec.ofChange fnRenderCatSpec)

/-- ITS FALSE NEIGHBOUR: 'it returns false'. Refute it at one input. -/
def fnRenderCatWrong : ChangeSpec := { name := "fnRenderCat", fn := fun _ => fun
  | [d1, d2] => { results := [.lit (.bool false)], args := [d1, d2] }
  | _ => none }
def FnRenderCatWrongFalsely : Prop := fnRenderCatRow.holds Try.pinned (OpenSpec.ofChange fnRenderCatWrong)

/-- 'laws.FnBestWider': WHATEVER THE INPUT: true; the input reads as it did. -/
def fnBestWiderSpec : ChangeSpec := { name := "fnBestWider", fn := fun _ => fun
  | [d] => { results := [.lit (.bool true)], args := [d] }
  | _ => none }
def fnBestWiderRow : OpenClaim := { program := "ytgcaolofehgbeaa", sum := "dda751a8b6b30a64adaf7e20256a67d63c951a9a27d0f23a1d46d520a583b704", func := "loop.example/docalgebra/laws.FnBestWider", spec := "fnBestWider", inPlace := ["internal/bytealg.IndexByteString", "internal/abi.NoEscape"], unfollowed := true, recurses := true, plainKeys := false, apart := false }
def FnBestWiderSaid : Prop := fnBestWiderRow.holds Try.pinned (OpenSpec.ofChange fnBestWiderSpec)

/-- ITS FALSE NEIGHBOUR: 'it returns false'. Refute it at one input. -/
def fnBestWiderWrong : ChangeSpec := { name := "fnBestWider", fn := fun _ => fun
  | [d] => { results := [.lit (.bool false)], args := [d] }
  | _ => none }
def FnBestWiderWrongFalsely : Prop := fnBestWiderRow.holds Try.pinned (OpenSpec.ofChange fnBestWiderWrong)

/-- 'laws.FnParetoLayouts': WHATEVER THE INPUT: true; the input reads as it did. -/
def fnParetoLayoutsSpec : ChangeSpec := { name := "fnParetoLayouts", fn := fun _ => fun
  | [d] => { results := [.lit (.bool true)], args := [d] }
  | _ => none }
def fnParetoLayoutsRow : OpenClaim := { program := "ytgcaolofehgbeaa", sum := "dda751a8b6b30a64adaf7e20256a67d63c951a9a27d0f23a1d46d520a583b704", func := "loop.example/docalgebra/laws.FnParetoLayouts", spec := "fnParetoLayouts", inPlace := ["internal/bytealg.IndexByteString", "internal/abi.NoEscape"], unfollowed := true, recurses := true, plainKeys := false, apart := false }
def FnParetoLayoutsSaid : Prop := fnParetoLayoutsRow.holds Try.pinned (OpenSpec.ofChange fnParetoLayoutsSpec)

/-- ITS FALSE NEIGHBOUR: 'it returns false'. Refute it at one input. -/
def fnParetoLayoutsWrong : ChangeSpec := { name := "fnParetoLayouts", fn := fun _ => fun
  | [d] => { results := [.lit (.bool false)], args := [d] }
  | _ => none }
def FnParetoLayoutsWrongFalsely : Prop := fnParetoLayoutsRow.holds Try.pinned (OpenSpec.ofChange fnParetoLayoutsWrong)

/-- 'laws.FnBestFlat': WHATEVER THE INPUT: true; the input reads as it did. -/
def fnBestFlatSpec : ChangeSpec := { name := "fnBestFlat", fn := fun _ => fun
  | [d] => { results := [.lit (.bool true)], args := [d] }
  | _ => none }
def fnBestFlatRow : OpenClaim := { program := "ytgcaolofehgbeaa", sum := "dda751a8b6b30a64adaf7e20256a67d63c951a9a27d0f23a1d46d520a583b704", func := "loop.example/docalgebra/laws.FnBestFlat", spec := "fnBestFlat", inPlace := ["internal/bytealg.IndexByteString", "internal/abi.NoEscape"], unfollowed := true, recurses := true, plainKeys := false, apart := false }
def FnBestFlatSaid : Prop := fnBestFlatRow.holds Try.pinned (OpenSpec.ofChange fnBestFlatSpec)

/-- ITS FALSE NEIGHBOUR: 'it returns false'. Refute it at one input. -/
def fnBestFlatWrong : ChangeSpec := { name := "fnBestFlat", fn := fun _ => fun
  | [d] => { results := [.lit (.bool false)], args := [d] }
  | _ => none }
def FnBestFlatWrongFalsely : Prop := fnBestFlatRow.holds Try.pinned (OpenSpec.ofChange fnBestFlatWrong)

/-- 'laws.FnExactBestLayout': WHATEVER THE INPUT: true; the input reads as it did. -/
def fnExactBestLayoutSpec : ChangeSpec := { name := "fnExactBestLayout", fn := fun _ => fun
  | [d1, d2] => { results := [.lit (.bool true)], args := [d1, d2] }
  | _ => none }
def fnExactBestLayoutRow : OpenClaim := { program := "ytgcaolofehgbeaa", sum := "dda751a8b6b30a64adaf7e20256a67d63c951a9a27d0f23a1d46d520a583b704", func := "loop.example/docalgebra/laws.FnExactBestLayout", spec := "fnExactBestLayout", inPlace := ["internal/bytealg.IndexByteString", "internal/abi.NoEscape"], unfollowed := true, recurses := true, loops := true, plainKeys := false, apart := false }
def FnExactBestLayoutSaid : Prop := fnExactBestLayoutRow.holds Try.pinned (OpenSpec.ofChange fnExactBestLayoutSpec)

/-- ITS FALSE NEIGHBOUR: 'it returns false'. Refute it at one input. -/
def fnExactBestLayoutWrong : ChangeSpec := { name := "fnExactBestLayout", fn := fun _ => fun
  | [d1, d2] => { results := [.lit (.bool false)], args := [d1, d2] }
  | _ => none }
def FnExactBestLayoutWrongFalsely : Prop := fnExactBestLayoutRow.holds Try.pinned (OpenSpec.ofChange fnExactBestLayoutWrong)

/-- 'laws.FnExactBestCost': WHATEVER THE INPUT: true; the input reads as it did. -/
def fnExactBestCostSpec : ChangeSpec := { name := "fnExactBestCost", fn := fun _ => fun
  | [d1, d2] => { results := [.lit (.bool true)], args := [d1, d2] }
  | _ => none }
def fnExactBestCostRow : OpenClaim := { program := "ytgcaolofehgbeaa", sum := "dda751a8b6b30a64adaf7e20256a67d63c951a9a27d0f23a1d46d520a583b704", func := "loop.example/docalgebra/laws.FnExactBestCost", spec := "fnExactBestCost", inPlace := ["internal/bytealg.IndexByteString", "internal/abi.NoEscape"], unfollowed := true, recurses := true, loops := true, plainKeys := false, apart := false }
def FnExactBestCostSaid : Prop := fnExactBestCostRow.holds Try.pinned (OpenSpec.ofChange fnExactBestCostSpec)

/-- ITS FALSE NEIGHBOUR: 'it returns false'. Refute it at one input. -/
def fnExactBestCostWrong : ChangeSpec := { name := "fnExactBestCost", fn := fun _ => fun
  | [d1, d2] => { results := [.lit (.bool false)], args := [d1, d2] }
  | _ => none }
def FnExactBestCostWrongFalsely : Prop := fnExactBestCostRow.holds Try.pinned (OpenSpec.ofChange fnExactBestCostWrong)

/-- 'laws.FnExactParetoLayouts': WHATEVER THE INPUT: true; the input reads as it did. -/
def fnExactParetoLayoutsSpec : ChangeSpec := { name := "fnExactParetoLayouts", fn := fun _ => fun
  | [d] => { results := [.lit (.bool true)], args := [d] }
  | _ => none }
def fnExactParetoLayoutsRow : OpenClaim := { program := "ytgcaolofehgbeaa", sum := "dda751a8b6b30a64adaf7e20256a67d63c951a9a27d0f23a1d46d520a583b704", func := "loop.example/docalgebra/laws.FnExactParetoLayouts", spec := "fnExactParetoLayouts", inPlace := ["internal/bytealg.IndexByteString", "internal/abi.NoEscape"], unfollowed := true, recurses := true, loops := true, plainKeys := false, apart := false }
def FnExactParetoLayoutsSaid : Prop := fnExactParetoLayoutsRow.holds Try.pinned (OpenSpec.ofChange fnExactParetoLayoutsSpec)

/-- ITS FALSE NEIGHBOUR: 'it returns false'. Refute it at one input. -/
def fnExactParetoLayoutsWrong : ChangeSpec := { name := "fnExactParetoLayouts", fn := fun _ => fun
  | [d] => { results := [.lit (.bool false)], args := [d] }
  | _ => none }
def FnExactParetoLayoutsWrongFalsely : Prop := fnExactParetoLayoutsRow.holds Try.pinned (OpenSpec.ofChange fnExactParetoLayoutsWrong)

/- THE SECOND FORM. 'bulk': how many values and letters a reading holds, each counted each time it is reached (what is shared counts as often as it is met; a slice's spare places count too). A statement '..UptoSaid' is the law's where the arguments, and the package variables that the reading takes, are together of bulk at most 1048576: NARROWER than '..Said'. Prove '..Said' where nothing that the law and all that it calls make is longer than what came in: it says more and counts as full. Else prove '..UptoSaid'. A law counts once. -/
mutual
def uptoBulk {H : Type} : DataW H → Nat
  | .lit (.string bytes) => bytes.length + 1
  | .lit _ => 1
  | .nil => 1
  | .ptr d => uptoBulk d + 1
  | .slice elems spare => uptoBulkAll elems + uptoBulkAll spare + 1
  | .agg parts => uptoBulkAll parts + 1
  | .iface _ d => uptoBulk d + 1
  | .map entries => uptoBulkEntries entries + 1
  | .held _ => 1
def uptoBulkAll {H : Type} : List (DataW H) → Nat
  | [] => 0
  | d :: r => uptoBulk d + uptoBulkAll r
def uptoBulkEntries {H : Type} : List (Lit × DataW H) → Nat
  | [] => 0
  | x :: r => uptoBulkEntry x + uptoBulkEntries r
def uptoBulkEntry {H : Type} : Lit × DataW H → Nat
  | (.string bytes, d) => bytes.length + uptoBulk d + 1
  | (_, d) => uptoBulk d + 1
 end
def uptoSmall : (H : Type) → List (DataW H) → Bool := fun _ ds => decide (uptoBulkAll ds ≤ 1048576)
def OpenSpec.upto (s : _root_.Go.ChangeSpec) : _root_.Go.OpenSpec := { _root_.Go.OpenSpec.ofChange s with cond := some uptoSmall }

/-- 'laws.FnRenderCat', WHERE WHAT IT READS IS OF BULK AT MOST 1048576: true; the input reads as it did. -/
def fnRenderCatUptoRow : OpenClaim := { program := "ytgcaolofehgbeaa", sum := "dda751a8b6b30a64adaf7e20256a67d63c951a9a27d0f23a1d46d520a583b704", func := "loop.example/docalgebra/laws.FnRenderCat", spec := "fnRenderCat", inPlace := ["internal/bytealg.IndexByteString", "internal/abi.NoEscape"], unfollowed := true, recurses := true, plainKeys := false, apart := false, narrowed := true }
def FnRenderCatUptoSaid : Prop := fnRenderCatUptoRow.holds Try.pinned (OpenSpec.upto fnRenderCatSpec)

/-- 'laws.FnBestWider', WHERE WHAT IT READS IS OF BULK AT MOST 1048576: true; the input reads as it did. -/
def fnBestWiderUptoRow : OpenClaim := { program := "ytgcaolofehgbeaa", sum := "dda751a8b6b30a64adaf7e20256a67d63c951a9a27d0f23a1d46d520a583b704", func := "loop.example/docalgebra/laws.FnBestWider", spec := "fnBestWider", inPlace := ["internal/bytealg.IndexByteString", "internal/abi.NoEscape"], unfollowed := true, recurses := true, plainKeys := false, apart := false, narrowed := true }
def FnBestWiderUptoSaid : Prop := fnBestWiderUptoRow.holds Try.pinned (OpenSpec.upto fnBestWiderSpec)

/-- 'laws.FnParetoLayouts', WHERE WHAT IT READS IS OF BULK AT MOST 1048576: true; the input reads as it did. -/
def fnParetoLayoutsUptoRow : OpenClaim := { program := "ytgcaolofehgbeaa", sum := "dda751a8b6b30a64adaf7e20256a67d63c951a9a27d0f23a1d46d520a583b704", func := "loop.example/docalgebra/laws.FnParetoLayouts", spec := "fnParetoLayouts", inPlace := ["internal/bytealg.IndexByteString", "internal/abi.NoEscape"], unfollowed := true, recurses := true, plainKeys := false, apart := false, narrowed := true }
def FnParetoLayoutsUptoSaid : Prop := fnParetoLayoutsUptoRow.holds Try.pinned (OpenSpec.upto fnParetoLayoutsSpec)

/-- 'laws.FnBestFlat', WHERE WHAT IT READS IS OF BULK AT MOST 1048576: true; the input reads as it did. -/
def fnBestFlatUptoRow : OpenClaim := { program := "ytgcaolofehgbeaa", sum := "dda751a8b6b30a64adaf7e20256a67d63c951a9a27d0f23a1d46d520a583b704", func := "loop.example/docalgebra/laws.FnBestFlat", spec := "fnBestFlat", inPlace := ["internal/bytealg.IndexByteString", "internal/abi.NoEscape"], unfollowed := true, recurses := true, plainKeys := false, apart := false, narrowed := true }
def FnBestFlatUptoSaid : Prop := fnBestFlatUptoRow.holds Try.pinned (OpenSpec.upto fnBestFlatSpec)

/-- 'laws.FnExactBestLayout', WHERE WHAT IT READS IS OF BULK AT MOST 1048576: true; the input reads as it did. -/
def fnExactBestLayoutUptoRow : OpenClaim := { program := "ytgcaolofehgbeaa", sum := "dda751a8b6b30a64adaf7e20256a67d63c951a9a27d0f23a1d46d520a583b704", func := "loop.example/docalgebra/laws.FnExactBestLayout", spec := "fnExactBestLayout", inPlace := ["internal/bytealg.IndexByteString", "internal/abi.NoEscape"], unfollowed := true, recurses := true, loops := true, plainKeys := false, apart := false, narrowed := true }
def FnExactBestLayoutUptoSaid : Prop := fnExactBestLayoutUptoRow.holds Try.pinned (OpenSpec.upto fnExactBestLayoutSpec)

/-- 'laws.FnExactBestCost', WHERE WHAT IT READS IS OF BULK AT MOST 1048576: true; the input reads as it did. -/
def fnExactBestCostUptoRow : OpenClaim := { program := "ytgcaolofehgbeaa", sum := "dda751a8b6b30a64adaf7e20256a67d63c951a9a27d0f23a1d46d520a583b704", func := "loop.example/docalgebra/laws.FnExactBestCost", spec := "fnExactBestCost", inPlace := ["internal/bytealg.IndexByteString", "internal/abi.NoEscape"], unfollowed := true, recurses := true, loops := true, plainKeys := false, apart := false, narrowed := true }
def FnExactBestCostUptoSaid : Prop := fnExactBestCostUptoRow.holds Try.pinned (OpenSpec.upto fnExactBestCostSpec)

/-- 'laws.FnExactParetoLayouts', WHERE WHAT IT READS IS OF BULK AT MOST 1048576: true; the input reads as it did. -/
def fnExactParetoLayoutsUptoRow : OpenClaim := { program := "ytgcaolofehgbeaa", sum := "dda751a8b6b30a64adaf7e20256a67d63c951a9a27d0f23a1d46d520a583b704", func := "loop.example/docalgebra/laws.FnExactParetoLayouts", spec := "fnExactParetoLayouts", inPlace := ["internal/bytealg.IndexByteString", "internal/abi.NoEscape"], unfollowed := true, recurses := true, loops := true, plainKeys := false, apart := false, narrowed := true }
def FnExactParetoLayoutsUptoSaid : Prop := fnExactParetoLayoutsUptoRow.holds Try.pinned (OpenSpec.upto fnExactParetoLayoutsSpec)

end Rows
end Go.Proofs.Ytgcaolofehgbeaa
