/-
  No cell of these rows narrows 'for every input' (looked for: loops, veiled, ifaces, maps, wideKeys, modest, calm, conditions, laid).
  DERIVED. THE GIVEN ROWS OF THIS SEAT. 7 by the template 'for every input the law returns true; each argument reads behind the call as it read before'; 0 by the template 'total and deterministic' (their statements: YthlgjnmfblkegaaTotals.lean).
  GIVEN WITH THE SEED: the statements are not yours to turn. If you find one false, say at which input.
  Laid BY PROGRAM, IN A SANDBOX (cutbox-rows.mjs): the forced cells as the released guide's own fill.sh prints them over the translation 316b8a3ea7fa4448… (all of the seat's roots in one cut). By AI agents, Wed Nov 11 2026. No macro, syntax, notation, axiom, sorry.
-/
import Derived.Test.YthlgjnmfblkegaaChecked
import GoSem.Claim
import GoSem.ClaimJoined
import GoSem.ClaimMapViews
import Derived.JoinedTies
import Derived.KernelRfl
namespace Go.Proofs.Ythlgjnmfblkegaa
/- THE CELL 'sum', in the pinned program and in every row, IS THE sha256 OF THE DUMP (.gsa) THAT YthlgjnmfblkegaaProg.lean LOADS. Nothing in Lean hashes anything: it is a label: what it is worth is what the hold of that sum in a sandbox is worth. -/
noncomputable def Try.pinned : Pinned := { name := "ythlgjnmfblkegaa", sum := "316b8a3ea7fa4448eab727b85a6f60d44f4a03a57978af055288880c33209a3f", checked := Try.checked }
namespace Rows
def none {H : Type} : Left H := { results := [], args := [] }

/-- 'laws.FnLayoutWidth': WHATEVER THE INPUT: true; the input reads as it did. -/
def fnLayoutWidthSpec : ChangeSpec := { name := "fnLayoutWidth", fn := fun _ => fun
  | [d] => { results := [.lit (.bool true)], args := [d] }
  | _ => none }
def fnLayoutWidthRow : OpenClaim := { program := "ythlgjnmfblkegaa", sum := "316b8a3ea7fa4448eab727b85a6f60d44f4a03a57978af055288880c33209a3f", func := "loop.example/docalgebra/laws.FnLayoutWidth", spec := "fnLayoutWidth", inPlace := ["internal/bytealg.IndexByteString", "internal/abi.NoEscape", "internal/bytealg.MakeNoZero"], recurses := true, apart := false }
def FnLayoutWidthSaid : Prop := fnLayoutWidthRow.holds Try.pinned (OpenSpec.ofChange fnLayoutWidthSpec)

/-- ITS FALSE NEIGHBOUR: 'it returns false'. Refute it at one input. -/
def fnLayoutWidthWrong : ChangeSpec := { name := "fnLayoutWidth", fn := fun _ => fun
  | [d] => { results := [.lit (.bool false)], args := [d] }
  | _ => none }
def FnLayoutWidthWrongFalsely : Prop := fnLayoutWidthRow.holds Try.pinned (OpenSpec.ofChange fnLayoutWidthWrong)

/-- 'laws.FnOverflowSum': WHATEVER THE INPUT: true; the input reads as it did. -/
def fnOverflowSumSpec : ChangeSpec := { name := "fnOverflowSum", fn := fun _ => fun
  | [d] => { results := [.lit (.bool true)], args := [d] }
  | _ => none }
def fnOverflowSumRow : OpenClaim := { program := "ythlgjnmfblkegaa", sum := "316b8a3ea7fa4448eab727b85a6f60d44f4a03a57978af055288880c33209a3f", func := "loop.example/docalgebra/laws.FnOverflowSum", spec := "fnOverflowSum", inPlace := ["internal/bytealg.IndexByteString", "internal/abi.NoEscape", "internal/bytealg.MakeNoZero"], recurses := true, apart := false }
def FnOverflowSumSaid : Prop := fnOverflowSumRow.holds Try.pinned (OpenSpec.ofChange fnOverflowSumSpec)

/-- ITS FALSE NEIGHBOUR: 'it returns false'. Refute it at one input. -/
def fnOverflowSumWrong : ChangeSpec := { name := "fnOverflowSum", fn := fun _ => fun
  | [d] => { results := [.lit (.bool false)], args := [d] }
  | _ => none }
def FnOverflowSumWrongFalsely : Prop := fnOverflowSumRow.holds Try.pinned (OpenSpec.ofChange fnOverflowSumWrong)

/-- 'laws.FnCompareCosts': WHATEVER THE INPUT: true; the input reads as it did. -/
def fnCompareCostsSpec : ChangeSpec := { name := "fnCompareCosts", fn := fun _ => fun
  | [d1, d2] => { results := [.lit (.bool true)], args := [d1, d2] }
  | _ => none }
def fnCompareCostsRow : OpenClaim := { program := "ythlgjnmfblkegaa", sum := "316b8a3ea7fa4448eab727b85a6f60d44f4a03a57978af055288880c33209a3f", func := "loop.example/docalgebra/laws.FnCompareCosts", spec := "fnCompareCosts", apart := false }
def FnCompareCostsSaid : Prop := fnCompareCostsRow.holds Try.pinned (OpenSpec.ofChange fnCompareCostsSpec)

/-- ITS FALSE NEIGHBOUR: 'it returns false'. Refute it at one input. -/
def fnCompareCostsWrong : ChangeSpec := { name := "fnCompareCosts", fn := fun _ => fun
  | [d1, d2] => { results := [.lit (.bool false)], args := [d1, d2] }
  | _ => none }
def FnCompareCostsWrongFalsely : Prop := fnCompareCostsRow.holds Try.pinned (OpenSpec.ofChange fnCompareCostsWrong)

/-- 'laws.FnCostWider': WHATEVER THE INPUT: true; the input reads as it did. -/
def fnCostWiderSpec : ChangeSpec := { name := "fnCostWider", fn := fun _ => fun
  | [d] => { results := [.lit (.bool true)], args := [d] }
  | _ => none }
def fnCostWiderRow : OpenClaim := { program := "ythlgjnmfblkegaa", sum := "316b8a3ea7fa4448eab727b85a6f60d44f4a03a57978af055288880c33209a3f", func := "loop.example/docalgebra/laws.FnCostWider", spec := "fnCostWider", inPlace := ["internal/bytealg.IndexByteString"], recurses := true, apart := false }
def FnCostWiderSaid : Prop := fnCostWiderRow.holds Try.pinned (OpenSpec.ofChange fnCostWiderSpec)

/-- ITS FALSE NEIGHBOUR: 'it returns false'. Refute it at one input. -/
def fnCostWiderWrong : ChangeSpec := { name := "fnCostWider", fn := fun _ => fun
  | [d] => { results := [.lit (.bool false)], args := [d] }
  | _ => none }
def FnCostWiderWrongFalsely : Prop := fnCostWiderRow.holds Try.pinned (OpenSpec.ofChange fnCostWiderWrong)

/-- 'laws.FnExactOverflow': WHATEVER THE INPUT: true; the input reads as it did. -/
def fnExactOverflowSpec : ChangeSpec := { name := "fnExactOverflow", fn := fun _ => fun
  | [d1, d2] => { results := [.lit (.bool true)], args := [d1, d2] }
  | _ => none }
def fnExactOverflowRow : OpenClaim := { program := "ythlgjnmfblkegaa", sum := "316b8a3ea7fa4448eab727b85a6f60d44f4a03a57978af055288880c33209a3f", func := "loop.example/docalgebra/laws.FnExactOverflow", spec := "fnExactOverflow", inPlace := ["internal/bytealg.IndexByteString"], apart := false }
def FnExactOverflowSaid : Prop := fnExactOverflowRow.holds Try.pinned (OpenSpec.ofChange fnExactOverflowSpec)

/-- ITS FALSE NEIGHBOUR: 'it returns false'. Refute it at one input. -/
def fnExactOverflowWrong : ChangeSpec := { name := "fnExactOverflow", fn := fun _ => fun
  | [d1, d2] => { results := [.lit (.bool false)], args := [d1, d2] }
  | _ => none }
def FnExactOverflowWrongFalsely : Prop := fnExactOverflowRow.holds Try.pinned (OpenSpec.ofChange fnExactOverflowWrong)

/-- 'laws.FnExactCostOf': WHATEVER THE INPUT: true; the input reads as it did. -/
def fnExactCostOfSpec : ChangeSpec := { name := "fnExactCostOf", fn := fun _ => fun
  | [d1, d2] => { results := [.lit (.bool true)], args := [d1, d2] }
  | _ => none }
def fnExactCostOfRow : OpenClaim := { program := "ythlgjnmfblkegaa", sum := "316b8a3ea7fa4448eab727b85a6f60d44f4a03a57978af055288880c33209a3f", func := "loop.example/docalgebra/laws.FnExactCostOf", spec := "fnExactCostOf", inPlace := ["internal/bytealg.IndexByteString"], apart := false }
def FnExactCostOfSaid : Prop := fnExactCostOfRow.holds Try.pinned (OpenSpec.ofChange fnExactCostOfSpec)

/-- ITS FALSE NEIGHBOUR: 'it returns false'. Refute it at one input. -/
def fnExactCostOfWrong : ChangeSpec := { name := "fnExactCostOf", fn := fun _ => fun
  | [d1, d2] => { results := [.lit (.bool false)], args := [d1, d2] }
  | _ => none }
def FnExactCostOfWrongFalsely : Prop := fnExactCostOfRow.holds Try.pinned (OpenSpec.ofChange fnExactCostOfWrong)

/-- 'laws.FnExactCompareCosts': WHATEVER THE INPUT: true; the input reads as it did. -/
def fnExactCompareCostsSpec : ChangeSpec := { name := "fnExactCompareCosts", fn := fun _ => fun
  | [d1, d2] => { results := [.lit (.bool true)], args := [d1, d2] }
  | _ => none }
def fnExactCompareCostsRow : OpenClaim := { program := "ythlgjnmfblkegaa", sum := "316b8a3ea7fa4448eab727b85a6f60d44f4a03a57978af055288880c33209a3f", func := "loop.example/docalgebra/laws.FnExactCompareCosts", spec := "fnExactCompareCosts", apart := false }
def FnExactCompareCostsSaid : Prop := fnExactCompareCostsRow.holds Try.pinned (OpenSpec.ofChange fnExactCompareCostsSpec)

/-- ITS FALSE NEIGHBOUR: 'it returns false'. Refute it at one input. -/
def fnExactCompareCostsWrong : ChangeSpec := { name := "fnExactCompareCosts", fn := fun _ => fun
  | [d1, d2] => { results := [.lit (.bool false)], args := [d1, d2] }
  | _ => none }
def FnExactCompareCostsWrongFalsely : Prop := fnExactCompareCostsRow.holds Try.pinned (OpenSpec.ofChange fnExactCompareCostsWrong)

/- THE SECOND FORM. 'bulk': how many values and letters a reading holds, each counted each time it is reached (what is shared counts as often as it is met; a slice's spare places count too). A statement '..UptoSaid' is the law's where the arguments, and the package variables that the reading takes, are together of bulk at most 1048576: NARROWER than '..Said'. Prove '..Said' where nothing that the law and all that it calls make is longer than what came in: it says more and counts as full. Else prove '..UptoSaid'. A law counts once. -/
mutual
def uptoBulk {H : Type} : DataW H → Nat
  | .lit (.string bytes) => bytes.length + 1
  | .lit _ => 1
  | .nil => 1
  | .ptr d => uptoBulk d + 1
  | .slice elems spare => uptoBulkAll elems + uptoBulkAll spare + 1
  | .agg parts => uptoBulkAll parts + 1
  | .iface _ d => uptoBulk d + 1
  | .map entries => uptoBulkEntries entries + 1
  | .held _ => 1
def uptoBulkAll {H : Type} : List (DataW H) → Nat
  | [] => 0
  | d :: r => uptoBulk d + uptoBulkAll r
def uptoBulkEntries {H : Type} : List (Lit × DataW H) → Nat
  | [] => 0
  | x :: r => uptoBulkEntry x + uptoBulkEntries r
def uptoBulkEntry {H : Type} : Lit × DataW H → Nat
  | (.string bytes, d) => bytes.length + uptoBulk d + 1
  | (_, d) => uptoBulk d + 1
 end
def uptoSmall : (H : Type) → List (DataW H) → Bool := fun _ ds => decide (uptoBulkAll ds ≤ 1048576)
def OpenSpec.upto (s : _root_.Go.ChangeSpec) : _root_.Go.OpenSpec := { _root_.Go.OpenSpec.ofChange s with cond := some uptoSmall }

/-- 'laws.FnLayoutWidth', WHERE WHAT IT READS IS OF BULK AT MOST 1048576: true; the input reads as it did. -/
def fnLayoutWidthUptoRow : OpenClaim := { program := "ythlgjnmfblkegaa", sum := "316b8a3ea7fa4448eab727b85a6f60d44f4a03a57978af055288880c33209a3f", func := "loop.example/docalgebra/laws.FnLayoutWidth", spec := "fnLayoutWidth", inPlace := ["internal/bytealg.IndexByteString", "internal/abi.NoEscape", "internal/bytealg.MakeNoZero"], recurses := true, apart := false, narrowed := true }
def FnLayoutWidthUptoSaid : Prop := fnLayoutWidthUptoRow.holds Try.pinned (OpenSpec.upto fnLayoutWidthSpec)

/-- 'laws.FnOverflowSum', WHERE WHAT IT READS IS OF BULK AT MOST 1048576: true; the input reads as it did. -/
def fnOverflowSumUptoRow : OpenClaim := { program := "ythlgjnmfblkegaa", sum := "316b8a3ea7fa4448eab727b85a6f60d44f4a03a57978af055288880c33209a3f", func := "loop.example/docalgebra/laws.FnOverflowSum", spec := "fnOverflowSum", inPlace := ["internal/bytealg.IndexByteString", "internal/abi.NoEscape", "internal/bytealg.MakeNoZero"], recurses := true, apart := false, narrowed := true }
def FnOverflowSumUptoSaid : Prop := fnOverflowSumUptoRow.holds Try.pinned (OpenSpec.upto fnOverflowSumSpec)

/-- 'laws.FnCompareCosts', WHERE WHAT IT READS IS OF BULK AT MOST 1048576: true; the input reads as it did. -/
def fnCompareCostsUptoRow : OpenClaim := { program := "ythlgjnmfblkegaa", sum := "316b8a3ea7fa4448eab727b85a6f60d44f4a03a57978af055288880c33209a3f", func := "loop.example/docalgebra/laws.FnCompareCosts", spec := "fnCompareCosts", apart := false, narrowed := true }
def FnCompareCostsUptoSaid : Prop := fnCompareCostsUptoRow.holds Try.pinned (OpenSpec.upto fnCompareCostsSpec)

/-- 'laws.FnCostWider', WHERE WHAT IT READS IS OF BULK AT MOST 1048576: true; the input reads as it did. -/
def fnCostWiderUptoRow : OpenClaim := { program := "ythlgjnmfblkegaa", sum := "316b8a3ea7fa4448eab727b85a6f60d44f4a03a57978af055288880c33209a3f", func := "loop.example/docalgebra/laws.FnCostWider", spec := "fnCostWider", inPlace := ["internal/bytealg.IndexByteString"], recurses := true, apart := false, narrowed := true }
def FnCostWiderUptoSaid : Prop := fnCostWiderUptoRow.holds Try.pinned (OpenSpec.upto fnCostWiderSpec)

/-- 'laws.FnExactOverflow', WHERE WHAT IT READS IS OF BULK AT MOST 1048576: true; the input reads as it did. -/
def fnExactOverflowUptoRow : OpenClaim := { program := "ythlgjnmfblkegaa", sum := "316b8a3ea7fa4448eab727b85a6f60d44f4a03a57978af055288880c33209a3f", func := "loop.example/docalgebra/laws.FnExactOverflow", spec := "fnExactOverflow", inPlace := ["internal/bytealg.IndexByteString"], apart := false, narrowed := true }
def FnExactOverflowUptoSaid : Prop := fnExactOverflowUptoRow.holds Try.pinned (OpenSpec.upto fnExactOverflowSpec)

/-- 'laws.FnExactCostOf', WHERE WHAT IT READS IS OF BULK AT MOST 1048576: true; the input reads as it did. -/
def fnExactCostOfUptoRow : OpenClaim := { program := "ythlgjnmfblkegaa", sum := "316b8a3ea7fa4448eab727b85a6f60d44f4a03a57978af055288880c33209a3f", func := "loop.example/docalgebra/laws.FnExactCostOf", spec := "fnExactCostOf", inPlace := ["internal/bytealg.IndexByteString"], apart := false, narrowed := true }
def FnExactCostOfUptoSaid : Prop := fnExactCostOfUptoRow.holds Try.pinned (OpenSpec.upto fnExactCostOfSpec)

/-- 'laws.FnExactCompareCosts', WHERE WHAT IT READS IS OF BULK AT MOST 1048576: true; the input reads as it did. -/
def fnExactCompareCostsUptoRow : OpenClaim := { program := "ythlgjnmfblkegaa", sum := "316b8a3ea7fa4448eab727b85a6f60d44f4a03a57978af055288880c33209a3f", func := "loop.example/docalgebra/laws.FnExactCompareCosts", spec := "fnExactCompareCosts", apart := false, narrowed := true }
def FnExactCompareCostsUptoSaid : Prop := fnExactCompareCostsUptoRow.holds Try.pinned (OpenSpec.upto fnExactCompareCostsSpec)

end Rows
end Go.Proofs.Ythlgjnmfblkegaa
