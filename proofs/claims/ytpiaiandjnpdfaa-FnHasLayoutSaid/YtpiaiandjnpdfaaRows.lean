/-
  NARROWER THAN 'FOR EVERY INPUT', by the rows' own cells (each row's printed sentence says how): FnExactLayoutsOf: loops · FnExactHasLayout: loops · FnExactDistinctLayouts: loops · FnExactNarrowest: loops · FnExactShortest: loops.
  DERIVED. THE GIVEN ROWS OF THIS SEAT. 11 by the template 'for every input the law returns true; each argument reads behind the call as it read before'; 0 by the template 'total and deterministic' (their statements: YtpiaiandjnpdfaaTotals.lean).
  GIVEN WITH THE SEED: the statements are not yours to turn. If you find one false, say at which input.
  Laid BY PROGRAM, IN A SANDBOX (cutbox-rows.mjs): the forced cells as the released guide's own fill.sh prints them over the translation fb4932ea1ce228c3… (all of the seat's roots in one cut). By AI agents, Wed Nov 11 2026. No macro, syntax, notation, axiom, sorry.
-/
import Derived.Test.YtpiaiandjnpdfaaChecked
import GoSem.Claim
import GoSem.ClaimJoined
import GoSem.ClaimMapViews
import Derived.JoinedTies
import Derived.KernelRfl
namespace Go.Proofs.Ytpiaiandjnpdfaa
/- THE CELL 'sum', in the pinned program and in every row, IS THE sha256 OF THE DUMP (.gsa) THAT YtpiaiandjnpdfaaProg.lean LOADS. Nothing in Lean hashes anything: it is a label: what it is worth is what the hold of that sum in a sandbox is worth. -/
noncomputable def Try.pinned : Pinned := { name := "ytpiaiandjnpdfaa", sum := "fb4932ea1ce228c3d76006a571a901e072af6279d381a7d384c1728e6c17afa7", checked := Try.checked }
namespace Rows
def none {H : Type} : Left H := { results := [], args := [] }

/-- 'laws.FnLayoutsOf': WHATEVER THE INPUT: true; the input reads as it did. -/
def fnLayoutsOfSpec : ChangeSpec := { name := "fnLayoutsOf", fn := fun _ => fun
  | [d] => { results := [.lit (.bool true)], args := [d] }
  | _ => none }
def fnLayoutsOfRow : OpenClaim := { program := "ytpiaiandjnpdfaa", sum := "fb4932ea1ce228c3d76006a571a901e072af6279d381a7d384c1728e6c17afa7", func := "loop.example/docalgebra/laws.FnLayoutsOf", spec := "fnLayoutsOf", inPlace := ["internal/bytealg.IndexByteString", "internal/abi.NoEscape"], unfollowed := true, recurses := true, plainKeys := false, apart := false }
def FnLayoutsOfSaid : Prop := fnLayoutsOfRow.holds Try.pinned (OpenSpec.ofChange fnLayoutsOfSpec)

/-- ITS FALSE NEIGHBOUR: 'it returns false'. Refute it at one input. -/
def fnLayoutsOfWrong : ChangeSpec := { name := "fnLayoutsOf", fn := fun _ => fun
  | [d] => { results := [.lit (.bool false)], args := [d] }
  | _ => none }
def FnLayoutsOfWrongFalsely : Prop := fnLayoutsOfRow.holds Try.pinned (OpenSpec.ofChange fnLayoutsOfWrong)

/-- 'laws.FnDistinctLayouts': WHATEVER THE INPUT: true; the input reads as it did. -/
def fnDistinctLayoutsSpec : ChangeSpec := { name := "fnDistinctLayouts", fn := fun _ => fun
  | [d] => { results := [.lit (.bool true)], args := [d] }
  | _ => none }
def fnDistinctLayoutsRow : OpenClaim := { program := "ytpiaiandjnpdfaa", sum := "fb4932ea1ce228c3d76006a571a901e072af6279d381a7d384c1728e6c17afa7", func := "loop.example/docalgebra/laws.FnDistinctLayouts", spec := "fnDistinctLayouts", inPlace := ["internal/bytealg.IndexByteString", "internal/abi.NoEscape"], unfollowed := true, recurses := true, plainKeys := false, apart := false }
def FnDistinctLayoutsSaid : Prop := fnDistinctLayoutsRow.holds Try.pinned (OpenSpec.ofChange fnDistinctLayoutsSpec)

/-- ITS FALSE NEIGHBOUR: 'it returns false'. Refute it at one input. -/
def fnDistinctLayoutsWrong : ChangeSpec := { name := "fnDistinctLayouts", fn := fun _ => fun
  | [d] => { results := [.lit (.bool false)], args := [d] }
  | _ => none }
def FnDistinctLayoutsWrongFalsely : Prop := fnDistinctLayoutsRow.holds Try.pinned (OpenSpec.ofChange fnDistinctLayoutsWrong)

/-- 'laws.FnHasLayout': WHATEVER THE INPUT: true; the input reads as it did. -/
def fnHasLayoutSpec : ChangeSpec := { name := "fnHasLayout", fn := fun _ => fun
  | [d] => { results := [.lit (.bool true)], args := [d] }
  | _ => none }
def fnHasLayoutRow : OpenClaim := { program := "ytpiaiandjnpdfaa", sum := "fb4932ea1ce228c3d76006a571a901e072af6279d381a7d384c1728e6c17afa7", func := "loop.example/docalgebra/laws.FnHasLayout", spec := "fnHasLayout", inPlace := ["internal/bytealg.IndexByteString", "internal/abi.NoEscape"], unfollowed := true, recurses := true, plainKeys := false, apart := false }
def FnHasLayoutSaid : Prop := fnHasLayoutRow.holds Try.pinned (OpenSpec.ofChange fnHasLayoutSpec)

/-- ITS FALSE NEIGHBOUR: 'it returns false'. Refute it at one input. -/
def fnHasLayoutWrong : ChangeSpec := { name := "fnHasLayout", fn := fun _ => fun
  | [d] => { results := [.lit (.bool false)], args := [d] }
  | _ => none }
def FnHasLayoutWrongFalsely : Prop := fnHasLayoutRow.holds Try.pinned (OpenSpec.ofChange fnHasLayoutWrong)

/-- 'laws.FnNarrowest': WHATEVER THE INPUT: true; the input reads as it did. -/
def fnNarrowestSpec : ChangeSpec := { name := "fnNarrowest", fn := fun _ => fun
  | [d] => { results := [.lit (.bool true)], args := [d] }
  | _ => none }
def fnNarrowestRow : OpenClaim := { program := "ytpiaiandjnpdfaa", sum := "fb4932ea1ce228c3d76006a571a901e072af6279d381a7d384c1728e6c17afa7", func := "loop.example/docalgebra/laws.FnNarrowest", spec := "fnNarrowest", inPlace := ["internal/bytealg.IndexByteString", "internal/abi.NoEscape"], unfollowed := true, recurses := true, plainKeys := false, apart := false }
def FnNarrowestSaid : Prop := fnNarrowestRow.holds Try.pinned (OpenSpec.ofChange fnNarrowestSpec)

/-- ITS FALSE NEIGHBOUR: 'it returns false'. Refute it at one input. -/
def fnNarrowestWrong : ChangeSpec := { name := "fnNarrowest", fn := fun _ => fun
  | [d] => { results := [.lit (.bool false)], args := [d] }
  | _ => none }
def FnNarrowestWrongFalsely : Prop := fnNarrowestRow.holds Try.pinned (OpenSpec.ofChange fnNarrowestWrong)

/-- 'laws.FnGroupTwice': WHATEVER THE INPUT: true; the input reads as it did. -/
def fnGroupTwiceSpec : ChangeSpec := { name := "fnGroupTwice", fn := fun _ => fun
  | [d] => { results := [.lit (.bool true)], args := [d] }
  | _ => none }
def fnGroupTwiceRow : OpenClaim := { program := "ytpiaiandjnpdfaa", sum := "fb4932ea1ce228c3d76006a571a901e072af6279d381a7d384c1728e6c17afa7", func := "loop.example/docalgebra/laws.FnGroupTwice", spec := "fnGroupTwice", inPlace := ["internal/bytealg.IndexByteString", "internal/abi.NoEscape"], unfollowed := true, recurses := true, plainKeys := false, apart := false }
def FnGroupTwiceSaid : Prop := fnGroupTwiceRow.holds Try.pinned (OpenSpec.ofChange fnGroupTwiceSpec)

/-- ITS FALSE NEIGHBOUR: 'it returns false'. Refute it at one input. -/
def fnGroupTwiceWrong : ChangeSpec := { name := "fnGroupTwice", fn := fun _ => fun
  | [d] => { results := [.lit (.bool false)], args := [d] }
  | _ => none }
def FnGroupTwiceWrongFalsely : Prop := fnGroupTwiceRow.holds Try.pinned (OpenSpec.ofChange fnGroupTwiceWrong)

/-- 'laws.FnShortFlat': WHATEVER THE INPUT: true; the input reads as it did. -/
def fnShortFlatSpec : ChangeSpec := { name := "fnShortFlat", fn := fun _ => fun
  | [d] => { results := [.lit (.bool true)], args := [d] }
  | _ => none }
def fnShortFlatRow : OpenClaim := { program := "ytpiaiandjnpdfaa", sum := "fb4932ea1ce228c3d76006a571a901e072af6279d381a7d384c1728e6c17afa7", func := "loop.example/docalgebra/laws.FnShortFlat", spec := "fnShortFlat", inPlace := ["internal/bytealg.IndexByteString", "internal/abi.NoEscape"], unfollowed := true, recurses := true, plainKeys := false, apart := false }
def FnShortFlatSaid : Prop := fnShortFlatRow.holds Try.pinned (OpenSpec.ofChange fnShortFlatSpec)

/-- ITS FALSE NEIGHBOUR: 'it returns false'. Refute it at one input. -/
def fnShortFlatWrong : ChangeSpec := { name := "fnShortFlat", fn := fun _ => fun
  | [d] => { results := [.lit (.bool false)], args := [d] }
  | _ => none }
def FnShortFlatWrongFalsely : Prop := fnShortFlatRow.holds Try.pinned (OpenSpec.ofChange fnShortFlatWrong)

/-- 'laws.FnExactLayoutsOf': WHATEVER THE INPUT: true; the input reads as it did. -/
def fnExactLayoutsOfSpec : ChangeSpec := { name := "fnExactLayoutsOf", fn := fun _ => fun
  | [d] => { results := [.lit (.bool true)], args := [d] }
  | _ => none }
def fnExactLayoutsOfRow : OpenClaim := { program := "ytpiaiandjnpdfaa", sum := "fb4932ea1ce228c3d76006a571a901e072af6279d381a7d384c1728e6c17afa7", func := "loop.example/docalgebra/laws.FnExactLayoutsOf", spec := "fnExactLayoutsOf", inPlace := ["internal/bytealg.IndexByteString", "internal/abi.NoEscape"], unfollowed := true, recurses := true, loops := true, plainKeys := false, apart := false }
def FnExactLayoutsOfSaid : Prop := fnExactLayoutsOfRow.holds Try.pinned (OpenSpec.ofChange fnExactLayoutsOfSpec)

/-- ITS FALSE NEIGHBOUR: 'it returns false'. Refute it at one input. -/
def fnExactLayoutsOfWrong : ChangeSpec := { name := "fnExactLayoutsOf", fn := fun _ => fun
  | [d] => { results := [.lit (.bool false)], args := [d] }
  | _ => none }
def FnExactLayoutsOfWrongFalsely : Prop := fnExactLayoutsOfRow.holds Try.pinned (OpenSpec.ofChange fnExactLayoutsOfWrong)

/-- 'laws.FnExactHasLayout': WHATEVER THE INPUT: true; the input reads as it did. -/
def fnExactHasLayoutSpec : ChangeSpec := { name := "fnExactHasLayout", fn := fun _ => fun
  | [d1, d2] => { results := [.lit (.bool true)], args := [d1, d2] }
  | _ => none }
def fnExactHasLayoutRow : OpenClaim := { program := "ytpiaiandjnpdfaa", sum := "fb4932ea1ce228c3d76006a571a901e072af6279d381a7d384c1728e6c17afa7", func := "loop.example/docalgebra/laws.FnExactHasLayout", spec := "fnExactHasLayout", inPlace := ["internal/bytealg.IndexByteString", "internal/abi.NoEscape"], unfollowed := true, recurses := true, loops := true, plainKeys := false, apart := false }
def FnExactHasLayoutSaid : Prop := fnExactHasLayoutRow.holds Try.pinned (OpenSpec.ofChange fnExactHasLayoutSpec)

/-- ITS FALSE NEIGHBOUR: 'it returns false'. Refute it at one input. -/
def fnExactHasLayoutWrong : ChangeSpec := { name := "fnExactHasLayout", fn := fun _ => fun
  | [d1, d2] => { results := [.lit (.bool false)], args := [d1, d2] }
  | _ => none }
def FnExactHasLayoutWrongFalsely : Prop := fnExactHasLayoutRow.holds Try.pinned (OpenSpec.ofChange fnExactHasLayoutWrong)

/-- 'laws.FnExactDistinctLayouts': WHATEVER THE INPUT: true; the input reads as it did. -/
def fnExactDistinctLayoutsSpec : ChangeSpec := { name := "fnExactDistinctLayouts", fn := fun _ => fun
  | [d] => { results := [.lit (.bool true)], args := [d] }
  | _ => none }
def fnExactDistinctLayoutsRow : OpenClaim := { program := "ytpiaiandjnpdfaa", sum := "fb4932ea1ce228c3d76006a571a901e072af6279d381a7d384c1728e6c17afa7", func := "loop.example/docalgebra/laws.FnExactDistinctLayouts", spec := "fnExactDistinctLayouts", inPlace := ["internal/bytealg.IndexByteString", "internal/abi.NoEscape"], unfollowed := true, recurses := true, loops := true, plainKeys := false, apart := false }
def FnExactDistinctLayoutsSaid : Prop := fnExactDistinctLayoutsRow.holds Try.pinned (OpenSpec.ofChange fnExactDistinctLayoutsSpec)

/-- ITS FALSE NEIGHBOUR: 'it returns false'. Refute it at one input. -/
def fnExactDistinctLayoutsWrong : ChangeSpec := { name := "fnExactDistinctLayouts", fn := fun _ => fun
  | [d] => { results := [.lit (.bool false)], args := [d] }
  | _ => none }
def FnExactDistinctLayoutsWrongFalsely : Prop := fnExactDistinctLayoutsRow.holds Try.pinned (OpenSpec.ofChange fnExactDistinctLayoutsWrong)

/-- 'laws.FnExactNarrowest': WHATEVER THE INPUT: true; the input reads as it did. -/
def fnExactNarrowestSpec : ChangeSpec := { name := "fnExactNarrowest", fn := fun _ => fun
  | [d] => { results := [.lit (.bool true)], args := [d] }
  | _ => none }
def fnExactNarrowestRow : OpenClaim := { program := "ytpiaiandjnpdfaa", sum := "fb4932ea1ce228c3d76006a571a901e072af6279d381a7d384c1728e6c17afa7", func := "loop.example/docalgebra/laws.FnExactNarrowest", spec := "fnExactNarrowest", inPlace := ["internal/bytealg.IndexByteString", "internal/abi.NoEscape"], unfollowed := true, recurses := true, loops := true, plainKeys := false, apart := false }
def FnExactNarrowestSaid : Prop := fnExactNarrowestRow.holds Try.pinned (OpenSpec.ofChange fnExactNarrowestSpec)

/-- ITS FALSE NEIGHBOUR: 'it returns false'. Refute it at one input. -/
def fnExactNarrowestWrong : ChangeSpec := { name := "fnExactNarrowest", fn := fun _ => fun
  | [d] => { results := [.lit (.bool false)], args := [d] }
  | _ => none }
def FnExactNarrowestWrongFalsely : Prop := fnExactNarrowestRow.holds Try.pinned (OpenSpec.ofChange fnExactNarrowestWrong)

/-- 'laws.FnExactShortest': WHATEVER THE INPUT: true; the input reads as it did. -/
def fnExactShortestSpec : ChangeSpec := { name := "fnExactShortest", fn := fun _ => fun
  | [d] => { results := [.lit (.bool true)], args := [d] }
  | _ => none }
def fnExactShortestRow : OpenClaim := { program := "ytpiaiandjnpdfaa", sum := "fb4932ea1ce228c3d76006a571a901e072af6279d381a7d384c1728e6c17afa7", func := "loop.example/docalgebra/laws.FnExactShortest", spec := "fnExactShortest", inPlace := ["internal/bytealg.IndexByteString", "internal/abi.NoEscape"], unfollowed := true, recurses := true, loops := true, plainKeys := false, apart := false }
def FnExactShortestSaid : Prop := fnExactShortestRow.holds Try.pinned (OpenSpec.ofChange fnExactShortestSpec)

/-- ITS FALSE NEIGHBOUR: 'it returns false'. Refute it at one input. -/
def fnExactShortestWrong : ChangeSpec := { name := "fnExactShortest", fn := fun _ => fun
  | [d] => { results := [.lit (.bool false)], args := [d] }
  | _ => none }
def FnExactShortestWrongFalsely : Prop := fnExactShortestRow.holds Try.pinned (OpenSpec.ofChange fnExactShortestWrong)

/- THE SECOND FORM. 'bulk': how many values and letters a reading holds, each counted each time it is reached (what is shared counts as often as it is met; a slice's spare places count too). A statement '..UptoSaid' is the law's where the arguments, and the package variables that the reading takes, are together of bulk at most 1048576: NARROWER than '..Said'. Prove '..Said' where nothing that the law and all that it calls make is longer than what came in: it says more and counts as full. Else prove '..UptoSaid'. A law counts once. -/
mutual
def uptoBulk {H : Type} : DataW H → Nat
  | .lit (.string bytes) => bytes.length + 1
  | .lit _ => 1
  | .nil => 1
  | .ptr d => uptoBulk d + 1
  | .slice elems spare => uptoBulkAll elems + uptoBulkAll spare + 1
  | .agg parts => uptoBulkAll parts + 1
  | .iface _ d => uptoBulk d + 1
  | .map entries => uptoBulkEntries entries + 1
  | .held _ => 1
def uptoBulkAll {H : Type} : List (DataW H) → Nat
  | [] => 0
  | d :: r => uptoBulk d + uptoBulkAll r
def uptoBulkEntries {H : Type} : List (Lit × DataW H) → Nat
  | [] => 0
  | x :: r => uptoBulkEntry x + uptoBulkEntries r
def uptoBulkEntry {H : Type} : Lit × DataW H → Nat
  | (.string bytes, d) => bytes.length + uptoBulk d + 1
  | (_, d) => uptoBulk d + 1
 end
def uptoSmall : (H : Type) → List (DataW H) → Bool := fun _ ds => decide (uptoBulkAll ds ≤ 1048576)
def OpenSpec.upto (s : _root_.Go.ChangeSpec) : _root_.Go.OpenSpec := { _root_.Go.OpenSpec.ofChange s with cond := some uptoSmall }

/-- 'laws.FnLayoutsOf', WHERE WHAT IT READS IS OF BULK AT MOST 1048576: true; the input reads as it did. -/
def fnLayoutsOfUptoRow : OpenClaim := { program := "ytpiaiandjnpdfaa", sum := "fb4932ea1ce228c3d76006a571a901e072af6279d381a7d384c1728e6c17afa7", func := "loop.example/docalgebra/laws.FnLayoutsOf", spec := "fnLayoutsOf", inPlace := ["internal/bytealg.IndexByteString", "internal/abi.NoEscape"], unfollowed := true, recurses := true, plainKeys := false, apart := false, narrowed := true }
def FnLayoutsOfUptoSaid : Prop := fnLayoutsOfUptoRow.holds Try.pinned (OpenSpec.upto fnLayoutsOfSpec)

/-- 'laws.FnDistinctLayouts', WHERE WHAT IT READS IS OF BULK AT MOST 1048576: true; the input reads as it did. -/
def fnDistinctLayoutsUptoRow : OpenClaim := { program := "ytpiaiandjnpdfaa", sum := "fb4932ea1ce228c3d76006a571a901e072af6279d381a7d384c1728e6c17afa7", func := "loop.example/docalgebra/laws.FnDistinctLayouts", spec := "fnDistinctLayouts", inPlace := ["internal/bytealg.IndexByteString", "internal/abi.NoEscape"], unfollowed := true, recurses := true, plainKeys := false, apart := false, narrowed := true }
def FnDistinctLayoutsUptoSaid : Prop := fnDistinctLayoutsUptoRow.holds Try.pinned (OpenSpec.upto fnDistinctLayoutsSpec)

/-- 'laws.FnHasLayout', WHERE WHAT IT READS IS OF BULK AT MOST 1048576: true; the input reads as it did. -/
def fnHasLayoutUptoRow : OpenClaim := { program := "ytpiaiandjnpdfaa", sum := "fb4932ea1ce228c3d76006a571a901e072af6279d381a7d384c1728e6c17afa7", func := "loop.example/docalgebra/laws.FnHasLayout", spec := "fnHasLayout", inPlace := ["internal/bytealg.IndexByteString", "internal/abi.NoEscape"], unfollowed := true, recurses := true, plainKeys := false, apart := false, narrowed := true }
def FnHasLayoutUptoSaid : Prop := fnHasLayoutUptoRow.holds Try.pinned (OpenSpec.upto fnHasLayoutSpec)

/-- 'laws.FnNarrowest', WHERE WHAT IT READS IS OF BULK AT MOST 1048576: true; the input reads as it did. -/
def fnNarrowestUptoRow : OpenClaim := { program := "ytpiaiandjnpdfaa", sum := "fb4932ea1ce228c3d76006a571a901e072af6279d381a7d384c1728e6c17afa7", func := "loop.example/docalgebra/laws.FnNarrowest", spec := "fnNarrowest", inPlace := ["internal/bytealg.IndexByteString", "internal/abi.NoEscape"], unfollowed := true, recurses := true, plainKeys := false, apart := false, narrowed := true }
def FnNarrowestUptoSaid : Prop := fnNarrowestUptoRow.holds Try.pinned (OpenSpec.upto fnNarrowestSpec)

/-- 'laws.FnGroupTwice', WHERE WHAT IT READS IS OF BULK AT MOST 1048576: true; the input reads as it did. -/
def fnGroupTwiceUptoRow : OpenClaim := { program := "ytpiaiandjnpdfaa", sum := "fb4932ea1ce228c3d76006a571a901e072af6279d381a7d384c1728e6c17afa7", func := "loop.example/docalgebra/laws.FnGroupTwice", spec := "fnGroupTwice", inPlace := ["internal/bytealg.IndexByteString", "internal/abi.NoEscape"], unfollowed := true, recurses := true, plainKeys := false, apart := false, narrowed := true }
def FnGroupTwiceUptoSaid : Prop := fnGroupTwiceUptoRow.holds Try.pinned (OpenSpec.upto fnGroupTwiceSpec)

/-- 'laws.FnShortFlat', WHERE WHAT IT READS IS OF BULK AT MOST 1048576: true; the input reads as it did. -/
def fnShortFlatUptoRow : OpenClaim := { program := "ytpiaiandjnpdfaa", sum := "fb4932ea1ce228c3d76006a571a901e072af6279d381a7d384c1728e6c17afa7", func := "loop.example/docalgebra/laws.FnShortFlat", spec := "fnShortFlat", inPlace := ["internal/bytealg.IndexByteString", "internal/abi.NoEscape"], unfollowed := true, recurses := true, plainKeys := false, apart := false, narrowed := true }
def FnShortFlatUptoSaid : Prop := fnShortFlatUptoRow.holds Try.pinned (OpenSpec.upto fnShortFlatSpec)

/-- 'laws.FnExactLayoutsOf', WHERE WHAT IT READS IS OF BULK AT MOST 1048576: true; the input reads as it did. -/
def fnExactLayoutsOfUptoRow : OpenClaim := { program := "ytpiaiandjnpdfaa", sum := "fb4932ea1ce228c3d76006a571a901e072af6279d381a7d384c1728e6c17afa7", func := "loop.example/docalgebra/laws.FnExactLayoutsOf", spec := "fnExactLayoutsOf", inPlace := ["internal/bytealg.IndexByteString", "internal/abi.NoEscape"], unfollowed := true, recurses := true, loops := true, plainKeys := false, apart := false, narrowed := true }
def FnExactLayoutsOfUptoSaid : Prop := fnExactLayoutsOfUptoRow.holds Try.pinned (OpenSpec.upto fnExactLayoutsOfSpec)

/-- 'laws.FnExactHasLayout', WHERE WHAT IT READS IS OF BULK AT MOST 1048576: true; the input reads as it did. -/
def fnExactHasLayoutUptoRow : OpenClaim := { program := "ytpiaiandjnpdfaa", sum := "fb4932ea1ce228c3d76006a571a901e072af6279d381a7d384c1728e6c17afa7", func := "loop.example/docalgebra/laws.FnExactHasLayout", spec := "fnExactHasLayout", inPlace := ["internal/bytealg.IndexByteString", "internal/abi.NoEscape"], unfollowed := true, recurses := true, loops := true, plainKeys := false, apart := false, narrowed := true }
def FnExactHasLayoutUptoSaid : Prop := fnExactHasLayoutUptoRow.holds Try.pinned (OpenSpec.upto fnExactHasLayoutSpec)

/-- 'laws.FnExactDistinctLayouts', WHERE WHAT IT READS IS OF BULK AT MOST 1048576: true; the input reads as it did. -/
def fnExactDistinctLayoutsUptoRow : OpenClaim := { program := "ytpiaiandjnpdfaa", sum := "fb4932ea1ce228c3d76006a571a901e072af6279d381a7d384c1728e6c17afa7", func := "loop.example/docalgebra/laws.FnExactDistinctLayouts", spec := "fnExactDistinctLayouts", inPlace := ["internal/bytealg.IndexByteString", "internal/abi.NoEscape"], unfollowed := true, recurses := true, loops := true, plainKeys := false, apart := false, narrowed := true }
def FnExactDistinctLayoutsUptoSaid : Prop := fnExactDistinctLayoutsUptoRow.holds Try.pinned (OpenSpec.upto fnExactDistinctLayoutsSpec)

/-- 'laws.FnExactNarrowest', WHERE WHAT IT READS IS OF BULK AT MOST 1048576: true; the input reads as it did. -/
def fnExactNarrowestUptoRow : OpenClaim := { program := "ytpiaiandjnpdfaa", sum := "fb4932ea1ce228c3d76006a571a901e072af6279d381a7d384c1728e6c17afa7", func := "loop.example/docalgebra/laws.FnExactNarrowest", spec := "fnExactNarrowest", inPlace := ["internal/bytealg.IndexByteString", "internal/abi.NoEscape"], unfollowed := true, recurses := true, loops := true, plainKeys := false, apart := false, narrowed := true }
def FnExactNarrowestUptoSaid : Prop := fnExactNarrowestUptoRow.holds Try.pinned (OpenSpec.upto fnExactNarrowestSpec)

/-- 'laws.FnExactShortest', WHERE WHAT IT READS IS OF BULK AT MOST 1048576: true; the input reads as it did. -/
def fnExactShortestUptoRow : OpenClaim := { program := "ytpiaiandjnpdfaa", sum := "fb4932ea1ce228c3d76006a571a901e072af6279d381a7d384c1728e6c17afa7", func := "loop.example/docalgebra/laws.FnExactShortest", spec := "fnExactShortest", inPlace := ["internal/bytealg.IndexByteString", "internal/abi.NoEscape"], unfollowed := true, recurses := true, loops := true, plainKeys := false, apart := false, narrowed := true }
def FnExactShortestUptoSaid : Prop := fnExactShortestUptoRow.holds Try.pinned (OpenSpec.upto fnExactShortestSpec)

end Rows
end Go.Proofs.Ytpiaiandjnpdfaa
