/-
  NARROWER THAN 'FOR EVERY INPUT', by the rows' own cells (each row's printed sentence says how): FnExactTokensOf: loops.
  DERIVED. THE GIVEN ROWS OF THIS SEAT. 14 by the template 'for every input the law returns true; each argument reads behind the call as it read before'; 0 by the template 'total and deterministic' (their statements: YtcealfjkcbaelaaTotals.lean).
  GIVEN WITH THE SEED: the statements are not yours to turn. If you find one false, say at which input.
  Laid BY PROGRAM, IN A SANDBOX (cutbox-rows.mjs): the forced cells as the released guide's own fill.sh prints them over the translation 545bb5a4dd5848d3… (all of the seat's roots in one cut). By AI agents, Wed Nov 11 2026. No macro, syntax, notation, axiom, sorry.
-/
import Derived.Test.YtcealfjkcbaelaaChecked
import GoSem.Claim
import GoSem.ClaimJoined
import GoSem.ClaimMapViews
import Derived.JoinedTies
import Derived.KernelRfl
namespace Go.Proofs.Ytcealfjkcbaelaa
/- THE CELL 'sum', in the pinned program and in every row, IS THE sha256 OF THE DUMP (.gsa) THAT YtcealfjkcbaelaaProg.lean LOADS. Nothing in Lean hashes anything: it is a label: what it is worth is what the hold of that sum in a sandbox is worth. -/
noncomputable def Try.pinned : Pinned := { name := "ytcealfjkcbaelaa", sum := "545bb5a4dd5848d3646c911b48eb46bb76fd90c7d9f5e32651a44fec71ed1c4d", checked := Try.checked }
namespace Rows
def none {H : Type} : Left H := { results := [], args := [] }

/-- 'laws.FnStreamRows': WHATEVER THE INPUT: true; the input reads as it did. -/
def fnStreamRowsSpec : ChangeSpec := { name := "fnStreamRows", fn := fun _ => fun
  | [d] => { results := [.lit (.bool true)], args := [d] }
  | _ => none }
def fnStreamRowsRow : OpenClaim := { program := "ytcealfjkcbaelaa", sum := "545bb5a4dd5848d3646c911b48eb46bb76fd90c7d9f5e32651a44fec71ed1c4d", func := "loop.example/docalgebra/laws.FnStreamRows", spec := "fnStreamRows", inPlace := ["internal/bytealg.IndexByteString", "internal/abi.NoEscape"], unfollowed := true, recurses := true, plainKeys := false, leaving := true, apart := false }
def FnStreamRowsSaid : Prop := fnStreamRowsRow.holds Try.pinned (OpenSpec.ofChange fnStreamRowsSpec)

/-- ITS FALSE NEIGHBOUR: 'it returns false'. Refute it at one input. -/
def fnStreamRowsWrong : ChangeSpec := { name := "fnStreamRows", fn := fun _ => fun
  | [d] => { results := [.lit (.bool false)], args := [d] }
  | _ => none }
def FnStreamRowsWrongFalsely : Prop := fnStreamRowsRow.holds Try.pinned (OpenSpec.ofChange fnStreamRowsWrong)

/-- 'laws.FnDocOf': WHATEVER THE INPUT: true; the input reads as it did. -/
def fnDocOfSpec : ChangeSpec := { name := "fnDocOf", fn := fun _ => fun
  | [d] => { results := [.lit (.bool true)], args := [d] }
  | _ => none }
def fnDocOfRow : OpenClaim := { program := "ytcealfjkcbaelaa", sum := "545bb5a4dd5848d3646c911b48eb46bb76fd90c7d9f5e32651a44fec71ed1c4d", func := "loop.example/docalgebra/laws.FnDocOf", spec := "fnDocOf", inPlace := ["internal/bytealg.IndexByteString", "internal/abi.NoEscape"], unfollowed := true, recurses := true, plainKeys := false, leaving := true, apart := false }
def FnDocOfSaid : Prop := fnDocOfRow.holds Try.pinned (OpenSpec.ofChange fnDocOfSpec)

/-- ITS FALSE NEIGHBOUR: 'it returns false'. Refute it at one input. -/
def fnDocOfWrong : ChangeSpec := { name := "fnDocOf", fn := fun _ => fun
  | [d] => { results := [.lit (.bool false)], args := [d] }
  | _ => none }
def FnDocOfWrongFalsely : Prop := fnDocOfRow.holds Try.pinned (OpenSpec.ofChange fnDocOfWrong)

/-- 'laws.FnTokensOf': WHATEVER THE INPUT: true; the input reads as it did. -/
def fnTokensOfSpec : ChangeSpec := { name := "fnTokensOf", fn := fun _ => fun
  | [d] => { results := [.lit (.bool true)], args := [d] }
  | _ => none }
def fnTokensOfRow : OpenClaim := { program := "ytcealfjkcbaelaa", sum := "545bb5a4dd5848d3646c911b48eb46bb76fd90c7d9f5e32651a44fec71ed1c4d", func := "loop.example/docalgebra/laws.FnTokensOf", spec := "fnTokensOf", inPlace := ["internal/bytealg.IndexByteString"], unfollowed := true, recurses := true, plainKeys := false, leaving := true, apart := false }
def FnTokensOfSaid : Prop := fnTokensOfRow.holds Try.pinned (OpenSpec.ofChange fnTokensOfSpec)

/-- ITS FALSE NEIGHBOUR: 'it returns false'. Refute it at one input. -/
def fnTokensOfWrong : ChangeSpec := { name := "fnTokensOf", fn := fun _ => fun
  | [d] => { results := [.lit (.bool false)], args := [d] }
  | _ => none }
def FnTokensOfWrongFalsely : Prop := fnTokensOfRow.holds Try.pinned (OpenSpec.ofChange fnTokensOfWrong)

/-- 'laws.FnSizesOf': WHATEVER THE INPUT: true; the input reads as it did. -/
def fnSizesOfSpec : ChangeSpec := { name := "fnSizesOf", fn := fun _ => fun
  | [d] => { results := [.lit (.bool true)], args := [d] }
  | _ => none }
def fnSizesOfRow : OpenClaim := { program := "ytcealfjkcbaelaa", sum := "545bb5a4dd5848d3646c911b48eb46bb76fd90c7d9f5e32651a44fec71ed1c4d", func := "loop.example/docalgebra/laws.FnSizesOf", spec := "fnSizesOf", inPlace := ["internal/bytealg.IndexByteString"], unfollowed := true, recurses := true, plainKeys := false, leaving := true, apart := false }
def FnSizesOfSaid : Prop := fnSizesOfRow.holds Try.pinned (OpenSpec.ofChange fnSizesOfSpec)

/-- ITS FALSE NEIGHBOUR: 'it returns false'. Refute it at one input. -/
def fnSizesOfWrong : ChangeSpec := { name := "fnSizesOf", fn := fun _ => fun
  | [d] => { results := [.lit (.bool false)], args := [d] }
  | _ => none }
def FnSizesOfWrongFalsely : Prop := fnSizesOfRow.holds Try.pinned (OpenSpec.ofChange fnSizesOfWrong)

/-- 'laws.FnLookAhead': WHATEVER THE INPUT: true; the input reads as it did. -/
def fnLookAheadSpec : ChangeSpec := { name := "fnLookAhead", fn := fun _ => fun
  | [d] => { results := [.lit (.bool true)], args := [d] }
  | _ => none }
def fnLookAheadRow : OpenClaim := { program := "ytcealfjkcbaelaa", sum := "545bb5a4dd5848d3646c911b48eb46bb76fd90c7d9f5e32651a44fec71ed1c4d", func := "loop.example/docalgebra/laws.FnLookAhead", spec := "fnLookAhead", inPlace := ["internal/bytealg.IndexByteString"], recurses := true, plainKeys := false, apart := false }
def FnLookAheadSaid : Prop := fnLookAheadRow.holds Try.pinned (OpenSpec.ofChange fnLookAheadSpec)

/-- ITS FALSE NEIGHBOUR: 'it returns false'. Refute it at one input. -/
def fnLookAheadWrong : ChangeSpec := { name := "fnLookAhead", fn := fun _ => fun
  | [d] => { results := [.lit (.bool false)], args := [d] }
  | _ => none }
def FnLookAheadWrongFalsely : Prop := fnLookAheadRow.holds Try.pinned (OpenSpec.ofChange fnLookAheadWrong)

/-- 'laws.FnTokensValid': WHATEVER THE INPUT: true; the input reads as it did. -/
def fnTokensValidSpec : ChangeSpec := { name := "fnTokensValid", fn := fun _ => fun
  | [d] => { results := [.lit (.bool true)], args := [d] }
  | _ => none }
def fnTokensValidRow : OpenClaim := { program := "ytcealfjkcbaelaa", sum := "545bb5a4dd5848d3646c911b48eb46bb76fd90c7d9f5e32651a44fec71ed1c4d", func := "loop.example/docalgebra/laws.FnTokensValid", spec := "fnTokensValid", inPlace := ["internal/bytealg.IndexByteString"], recurses := true, plainKeys := false, apart := false }
def FnTokensValidSaid : Prop := fnTokensValidRow.holds Try.pinned (OpenSpec.ofChange fnTokensValidSpec)

/-- ITS FALSE NEIGHBOUR: 'it returns false'. Refute it at one input. -/
def fnTokensValidWrong : ChangeSpec := { name := "fnTokensValid", fn := fun _ => fun
  | [d] => { results := [.lit (.bool false)], args := [d] }
  | _ => none }
def FnTokensValidWrongFalsely : Prop := fnTokensValidRow.holds Try.pinned (OpenSpec.ofChange fnTokensValidWrong)

/-- 'laws.FnTokensTwice': WHATEVER THE INPUT: true; the input reads as it did. -/
def fnTokensTwiceSpec : ChangeSpec := { name := "fnTokensTwice", fn := fun _ => fun
  | [d] => { results := [.lit (.bool true)], args := [d] }
  | _ => none }
def fnTokensTwiceRow : OpenClaim := { program := "ytcealfjkcbaelaa", sum := "545bb5a4dd5848d3646c911b48eb46bb76fd90c7d9f5e32651a44fec71ed1c4d", func := "loop.example/docalgebra/laws.FnTokensTwice", spec := "fnTokensTwice", inPlace := ["internal/bytealg.IndexByteString"], unfollowed := true, recurses := true, plainKeys := false, leaving := true, apart := false }
def FnTokensTwiceSaid : Prop := fnTokensTwiceRow.holds Try.pinned (OpenSpec.ofChange fnTokensTwiceSpec)

/-- ITS FALSE NEIGHBOUR: 'it returns false'. Refute it at one input. -/
def fnTokensTwiceWrong : ChangeSpec := { name := "fnTokensTwice", fn := fun _ => fun
  | [d] => { results := [.lit (.bool false)], args := [d] }
  | _ => none }
def FnTokensTwiceWrongFalsely : Prop := fnTokensTwiceRow.holds Try.pinned (OpenSpec.ofChange fnTokensTwiceWrong)

/-- 'laws.FnStreamOpen': WHATEVER THE INPUT: true; the input reads as it did. -/
def fnStreamOpenSpec : ChangeSpec := { name := "fnStreamOpen", fn := fun _ => fun
  | [d] => { results := [.lit (.bool true)], args := [d] }
  | _ => none }
def fnStreamOpenRow : OpenClaim := { program := "ytcealfjkcbaelaa", sum := "545bb5a4dd5848d3646c911b48eb46bb76fd90c7d9f5e32651a44fec71ed1c4d", func := "loop.example/docalgebra/laws.FnStreamOpen", spec := "fnStreamOpen", inPlace := ["internal/bytealg.IndexByteString", "internal/abi.NoEscape"], unfollowed := true, recurses := true, plainKeys := false, leaving := true, apart := false }
def FnStreamOpenSaid : Prop := fnStreamOpenRow.holds Try.pinned (OpenSpec.ofChange fnStreamOpenSpec)

/-- ITS FALSE NEIGHBOUR: 'it returns false'. Refute it at one input. -/
def fnStreamOpenWrong : ChangeSpec := { name := "fnStreamOpen", fn := fun _ => fun
  | [d] => { results := [.lit (.bool false)], args := [d] }
  | _ => none }
def FnStreamOpenWrongFalsely : Prop := fnStreamOpenRow.holds Try.pinned (OpenSpec.ofChange fnStreamOpenWrong)

/-- 'laws.FnSizesPart': WHATEVER THE INPUT: true; the input reads as it did. -/
def fnSizesPartSpec : ChangeSpec := { name := "fnSizesPart", fn := fun _ => fun
  | [d] => { results := [.lit (.bool true)], args := [d] }
  | _ => none }
def fnSizesPartRow : OpenClaim := { program := "ytcealfjkcbaelaa", sum := "545bb5a4dd5848d3646c911b48eb46bb76fd90c7d9f5e32651a44fec71ed1c4d", func := "loop.example/docalgebra/laws.FnSizesPart", spec := "fnSizesPart", inPlace := ["internal/bytealg.IndexByteString"], recurses := true, plainKeys := false, apart := false }
def FnSizesPartSaid : Prop := fnSizesPartRow.holds Try.pinned (OpenSpec.ofChange fnSizesPartSpec)

/-- ITS FALSE NEIGHBOUR: 'it returns false'. Refute it at one input. -/
def fnSizesPartWrong : ChangeSpec := { name := "fnSizesPart", fn := fun _ => fun
  | [d] => { results := [.lit (.bool false)], args := [d] }
  | _ => none }
def FnSizesPartWrongFalsely : Prop := fnSizesPartRow.holds Try.pinned (OpenSpec.ofChange fnSizesPartWrong)

/-- 'laws.FnStreamHard': WHATEVER THE INPUT: true; the input reads as it did. -/
def fnStreamHardSpec : ChangeSpec := { name := "fnStreamHard", fn := fun _ => fun
  | [d] => { results := [.lit (.bool true)], args := [d] }
  | _ => none }
def fnStreamHardRow : OpenClaim := { program := "ytcealfjkcbaelaa", sum := "545bb5a4dd5848d3646c911b48eb46bb76fd90c7d9f5e32651a44fec71ed1c4d", func := "loop.example/docalgebra/laws.FnStreamHard", spec := "fnStreamHard", inPlace := ["internal/bytealg.IndexByteString", "internal/abi.NoEscape"], recurses := true, plainKeys := false, apart := false }
def FnStreamHardSaid : Prop := fnStreamHardRow.holds Try.pinned (OpenSpec.ofChange fnStreamHardSpec)

/-- ITS FALSE NEIGHBOUR: 'it returns false'. Refute it at one input. -/
def fnStreamHardWrong : ChangeSpec := { name := "fnStreamHard", fn := fun _ => fun
  | [d] => { results := [.lit (.bool false)], args := [d] }
  | _ => none }
def FnStreamHardWrongFalsely : Prop := fnStreamHardRow.holds Try.pinned (OpenSpec.ofChange fnStreamHardWrong)

/-- 'laws.FnExactTokensOf': WHATEVER THE INPUT: true; the input reads as it did. -/
def fnExactTokensOfSpec : ChangeSpec := { name := "fnExactTokensOf", fn := fun _ => fun
  | [d] => { results := [.lit (.bool true)], args := [d] }
  | _ => none }
def fnExactTokensOfRow : OpenClaim := { program := "ytcealfjkcbaelaa", sum := "545bb5a4dd5848d3646c911b48eb46bb76fd90c7d9f5e32651a44fec71ed1c4d", func := "loop.example/docalgebra/laws.FnExactTokensOf", spec := "fnExactTokensOf", inPlace := ["internal/bytealg.IndexByteString"], unfollowed := true, recurses := true, loops := true, plainKeys := false, leaving := true, apart := false }
def FnExactTokensOfSaid : Prop := fnExactTokensOfRow.holds Try.pinned (OpenSpec.ofChange fnExactTokensOfSpec)

/-- ITS FALSE NEIGHBOUR: 'it returns false'. Refute it at one input. -/
def fnExactTokensOfWrong : ChangeSpec := { name := "fnExactTokensOf", fn := fun _ => fun
  | [d] => { results := [.lit (.bool false)], args := [d] }
  | _ => none }
def FnExactTokensOfWrongFalsely : Prop := fnExactTokensOfRow.holds Try.pinned (OpenSpec.ofChange fnExactTokensOfWrong)

/-- 'laws.FnExactDocOf': WHATEVER THE INPUT: true; the input reads as it did. -/
def fnExactDocOfSpec : ChangeSpec := { name := "fnExactDocOf", fn := fun _ => fun
  | [d] => { results := [.lit (.bool true)], args := [d] }
  | _ => none }
def fnExactDocOfRow : OpenClaim := { program := "ytcealfjkcbaelaa", sum := "545bb5a4dd5848d3646c911b48eb46bb76fd90c7d9f5e32651a44fec71ed1c4d", func := "loop.example/docalgebra/laws.FnExactDocOf", spec := "fnExactDocOf", inPlace := ["internal/bytealg.IndexByteString"], unfollowed := true, recurses := true, plainKeys := false, leaving := true, apart := false }
def FnExactDocOfSaid : Prop := fnExactDocOfRow.holds Try.pinned (OpenSpec.ofChange fnExactDocOfSpec)

/-- ITS FALSE NEIGHBOUR: 'it returns false'. Refute it at one input. -/
def fnExactDocOfWrong : ChangeSpec := { name := "fnExactDocOf", fn := fun _ => fun
  | [d] => { results := [.lit (.bool false)], args := [d] }
  | _ => none }
def FnExactDocOfWrongFalsely : Prop := fnExactDocOfRow.holds Try.pinned (OpenSpec.ofChange fnExactDocOfWrong)

/-- 'laws.FnExactStreamRows': WHATEVER THE INPUT: true; the input reads as it did. -/
def fnExactStreamRowsSpec : ChangeSpec := { name := "fnExactStreamRows", fn := fun _ => fun
  | [d1, d2] => { results := [.lit (.bool true)], args := [d1, d2] }
  | _ => none }
def fnExactStreamRowsRow : OpenClaim := { program := "ytcealfjkcbaelaa", sum := "545bb5a4dd5848d3646c911b48eb46bb76fd90c7d9f5e32651a44fec71ed1c4d", func := "loop.example/docalgebra/laws.FnExactStreamRows", spec := "fnExactStreamRows", inPlace := ["internal/bytealg.IndexByteString", "internal/abi.NoEscape"], plainKeys := false, apart := false }
def FnExactStreamRowsSaid : Prop := fnExactStreamRowsRow.holds Try.pinned (OpenSpec.ofChange fnExactStreamRowsSpec)

/-- ITS FALSE NEIGHBOUR: 'it returns false'. Refute it at one input. -/
def fnExactStreamRowsWrong : ChangeSpec := { name := "fnExactStreamRows", fn := fun _ => fun
  | [d1, d2] => { results := [.lit (.bool false)], args := [d1, d2] }
  | _ => none }
def FnExactStreamRowsWrongFalsely : Prop := fnExactStreamRowsRow.holds Try.pinned (OpenSpec.ofChange fnExactStreamRowsWrong)

/-- 'laws.FnExactLookAhead': WHATEVER THE INPUT: true; the input reads as it did. -/
def fnExactLookAheadSpec : ChangeSpec := { name := "fnExactLookAhead", fn := fun _ => fun
  | [d1, d2] => { results := [.lit (.bool true)], args := [d1, d2] }
  | _ => none }
def fnExactLookAheadRow : OpenClaim := { program := "ytcealfjkcbaelaa", sum := "545bb5a4dd5848d3646c911b48eb46bb76fd90c7d9f5e32651a44fec71ed1c4d", func := "loop.example/docalgebra/laws.FnExactLookAhead", spec := "fnExactLookAhead", inPlace := ["internal/bytealg.IndexByteString"], plainKeys := false, apart := false }
def FnExactLookAheadSaid : Prop := fnExactLookAheadRow.holds Try.pinned (OpenSpec.ofChange fnExactLookAheadSpec)

/-- ITS FALSE NEIGHBOUR: 'it returns false'. Refute it at one input. -/
def fnExactLookAheadWrong : ChangeSpec := { name := "fnExactLookAhead", fn := fun _ => fun
  | [d1, d2] => { results := [.lit (.bool false)], args := [d1, d2] }
  | _ => none }
def FnExactLookAheadWrongFalsely : Prop := fnExactLookAheadRow.holds Try.pinned (OpenSpec.ofChange fnExactLookAheadWrong)

/- THE SECOND FORM. 'bulk': how many values and letters a reading holds, each counted each time it is reached (what is shared counts as often as it is met; a slice's spare places count too). A statement '..UptoSaid' is the law's where the arguments, and the package variables that the reading takes, are together of bulk at most 1048576: NARROWER than '..Said'. Prove '..Said' where nothing that the law and all that it calls make is longer than what came in: it says more and counts as full. Else prove '..UptoSaid'. A law counts once. -/
mutual
def uptoBulk {H : Type} : DataW H → Nat
  | .lit (.string bytes) => bytes.length + 1
  | .lit _ => 1
  | .nil => 1
  | .ptr d => uptoBulk d + 1
  | .slice elems spare => uptoBulkAll elems + uptoBulkAll spare + 1
  | .agg parts => uptoBulkAll parts + 1
  | .iface _ d => uptoBulk d + 1
  | .map entries => uptoBulkEntries entries + 1
  | .held _ => 1
def uptoBulkAll {H : Type} : List (DataW H) → Nat
  | [] => 0
  | d :: r => uptoBulk d + uptoBulkAll r
def uptoBulkEntries {H : Type} : List (Lit × DataW H) → Nat
  | [] => 0
  | x :: r => uptoBulkEntry x + uptoBulkEntries r
def uptoBulkEntry {H : Type} : Lit × DataW H → Nat
  | (.string bytes, d) => bytes.length + uptoBulk d + 1
  | (_, d) => uptoBulk d + 1
 end
def uptoSmall : (H : Type) → List (DataW H) → Bool := fun _ ds => decide (uptoBulkAll ds ≤ 1048576)
def OpenSpec.upto (s : _root_.Go.ChangeSpec) : _root_.Go.OpenSpec := { _root_.Go.OpenSpec.ofChange s with cond := some uptoSmall }

/-- 'laws.FnStreamRows', WHERE WHAT IT READS IS OF BULK AT MOST 1048576: true; the input reads as it did. -/
def fnStreamRowsUptoRow : OpenClaim := { program := "ytcealfjkcbaelaa", sum := "545bb5a4dd5848d3646c911b48eb46bb76fd90c7d9f5e32651a44fec71ed1c4d", func := "loop.example/docalgebra/laws.FnStreamRows", spec := "fnStreamRows", inPlace := ["internal/bytealg.IndexByteString", "internal/abi.NoEscape"], unfollowed := true, recurses := true, plainKeys := false, leaving := true, apart := false, narrowed := true }
def FnStreamRowsUptoSaid : Prop := fnStreamRowsUptoRow.holds Try.pinned (OpenSpec.upto fnStreamRowsSpec)

/-- 'laws.FnDocOf', WHERE WHAT IT READS IS OF BULK AT MOST 1048576: true; the input reads as it did. -/
def fnDocOfUptoRow : OpenClaim := { program := "ytcealfjkcbaelaa", sum := "545bb5a4dd5848d3646c911b48eb46bb76fd90c7d9f5e32651a44fec71ed1c4d", func := "loop.example/docalgebra/laws.FnDocOf", spec := "fnDocOf", inPlace := ["internal/bytealg.IndexByteString", "internal/abi.NoEscape"], unfollowed := true, recurses := true, plainKeys := false, leaving := true, apart := false, narrowed := true }
def FnDocOfUptoSaid : Prop := fnDocOfUptoRow.holds Try.pinned (OpenSpec.upto fnDocOfSpec)

/-- 'laws.FnTokensOf', WHERE WHAT IT READS IS OF BULK AT MOST 1048576: true; the input reads as it did. -/
def fnTokensOfUptoRow : OpenClaim := { program := "ytcealfjkcbaelaa", sum := "545bb5a4dd5848d3646c911b48eb46bb76fd90c7d9f5e32651a44fec71ed1c4d", func := "loop.example/docalgebra/laws.FnTokensOf", spec := "fnTokensOf", inPlace := ["internal/bytealg.IndexByteString"], unfollowed := true, recurses := true, plainKeys := false, leaving := true, apart := false, narrowed := true }
def FnTokensOfUptoSaid : Prop := fnTokensOfUptoRow.holds Try.pinned (OpenSpec.upto fnTokensOfSpec)

/-- 'laws.FnSizesOf', WHERE WHAT IT READS IS OF BULK AT MOST 1048576: true; the input reads as it did. -/
def fnSizesOfUptoRow : OpenClaim := { program := "ytcealfjkcbaelaa", sum := "545bb5a4dd5848d3646c911b48eb46bb76fd90c7d9f5e32651a44fec71ed1c4d", func := "loop.example/docalgebra/laws.FnSizesOf", spec := "fnSizesOf", inPlace := ["internal/bytealg.IndexByteString"], unfollowed := true, recurses := true, plainKeys := false, leaving := true, apart := false, narrowed := true }
def FnSizesOfUptoSaid : Prop := fnSizesOfUptoRow.holds Try.pinned (OpenSpec.upto fnSizesOfSpec)

/-- 'laws.FnLookAhead', WHERE WHAT IT READS IS OF BULK AT MOST 1048576: true; the input reads as it did. -/
def fnLookAheadUptoRow : OpenClaim := { program := "ytcealfjkcbaelaa", sum := "545bb5a4dd5848d3646c911b48eb46bb76fd90c7d9f5e32651a44fec71ed1c4d", func := "loop.example/docalgebra/laws.FnLookAhead", spec := "fnLookAhead", inPlace := ["internal/bytealg.IndexByteString"], recurses := true, plainKeys := false, apart := false, narrowed := true }
def FnLookAheadUptoSaid : Prop := fnLookAheadUptoRow.holds Try.pinned (OpenSpec.upto fnLookAheadSpec)

/-- 'laws.FnTokensValid', WHERE WHAT IT READS IS OF BULK AT MOST 1048576: true; the input reads as it did. -/
def fnTokensValidUptoRow : OpenClaim := { program := "ytcealfjkcbaelaa", sum := "545bb5a4dd5848d3646c911b48eb46bb76fd90c7d9f5e32651a44fec71ed1c4d", func := "loop.example/docalgebra/laws.FnTokensValid", spec := "fnTokensValid", inPlace := ["internal/bytealg.IndexByteString"], recurses := true, plainKeys := false, apart := false, narrowed := true }
def FnTokensValidUptoSaid : Prop := fnTokensValidUptoRow.holds Try.pinned (OpenSpec.upto fnTokensValidSpec)

/-- 'laws.FnTokensTwice', WHERE WHAT IT READS IS OF BULK AT MOST 1048576: true; the input reads as it did. -/
def fnTokensTwiceUptoRow : OpenClaim := { program := "ytcealfjkcbaelaa", sum := "545bb5a4dd5848d3646c911b48eb46bb76fd90c7d9f5e32651a44fec71ed1c4d", func := "loop.example/docalgebra/laws.FnTokensTwice", spec := "fnTokensTwice", inPlace := ["internal/bytealg.IndexByteString"], unfollowed := true, recurses := true, plainKeys := false, leaving := true, apart := false, narrowed := true }
def FnTokensTwiceUptoSaid : Prop := fnTokensTwiceUptoRow.holds Try.pinned (OpenSpec.upto fnTokensTwiceSpec)

/-- 'laws.FnStreamOpen', WHERE WHAT IT READS IS OF BULK AT MOST 1048576: true; the input reads as it did. -/
def fnStreamOpenUptoRow : OpenClaim := { program := "ytcealfjkcbaelaa", sum := "545bb5a4dd5848d3646c911b48eb46bb76fd90c7d9f5e32651a44fec71ed1c4d", func := "loop.example/docalgebra/laws.FnStreamOpen", spec := "fnStreamOpen", inPlace := ["internal/bytealg.IndexByteString", "internal/abi.NoEscape"], unfollowed := true, recurses := true, plainKeys := false, leaving := true, apart := false, narrowed := true }
def FnStreamOpenUptoSaid : Prop := fnStreamOpenUptoRow.holds Try.pinned (OpenSpec.upto fnStreamOpenSpec)

/-- 'laws.FnSizesPart', WHERE WHAT IT READS IS OF BULK AT MOST 1048576: true; the input reads as it did. -/
def fnSizesPartUptoRow : OpenClaim := { program := "ytcealfjkcbaelaa", sum := "545bb5a4dd5848d3646c911b48eb46bb76fd90c7d9f5e32651a44fec71ed1c4d", func := "loop.example/docalgebra/laws.FnSizesPart", spec := "fnSizesPart", inPlace := ["internal/bytealg.IndexByteString"], recurses := true, plainKeys := false, apart := false, narrowed := true }
def FnSizesPartUptoSaid : Prop := fnSizesPartUptoRow.holds Try.pinned (OpenSpec.upto fnSizesPartSpec)

/-- 'laws.FnStreamHard', WHERE WHAT IT READS IS OF BULK AT MOST 1048576: true; the input reads as it did. -/
def fnStreamHardUptoRow : OpenClaim := { program := "ytcealfjkcbaelaa", sum := "545bb5a4dd5848d3646c911b48eb46bb76fd90c7d9f5e32651a44fec71ed1c4d", func := "loop.example/docalgebra/laws.FnStreamHard", spec := "fnStreamHard", inPlace := ["internal/bytealg.IndexByteString", "internal/abi.NoEscape"], recurses := true, plainKeys := false, apart := false, narrowed := true }
def FnStreamHardUptoSaid : Prop := fnStreamHardUptoRow.holds Try.pinned (OpenSpec.upto fnStreamHardSpec)

/-- 'laws.FnExactTokensOf', WHERE WHAT IT READS IS OF BULK AT MOST 1048576: true; the input reads as it did. -/
def fnExactTokensOfUptoRow : OpenClaim := { program := "ytcealfjkcbaelaa", sum := "545bb5a4dd5848d3646c911b48eb46bb76fd90c7d9f5e32651a44fec71ed1c4d", func := "loop.example/docalgebra/laws.FnExactTokensOf", spec := "fnExactTokensOf", inPlace := ["internal/bytealg.IndexByteString"], unfollowed := true, recurses := true, loops := true, plainKeys := false, leaving := true, apart := false, narrowed := true }
def FnExactTokensOfUptoSaid : Prop := fnExactTokensOfUptoRow.holds Try.pinned (OpenSpec.upto fnExactTokensOfSpec)

/-- 'laws.FnExactDocOf', WHERE WHAT IT READS IS OF BULK AT MOST 1048576: true; the input reads as it did. -/
def fnExactDocOfUptoRow : OpenClaim := { program := "ytcealfjkcbaelaa", sum := "545bb5a4dd5848d3646c911b48eb46bb76fd90c7d9f5e32651a44fec71ed1c4d", func := "loop.example/docalgebra/laws.FnExactDocOf", spec := "fnExactDocOf", inPlace := ["internal/bytealg.IndexByteString"], unfollowed := true, recurses := true, plainKeys := false, leaving := true, apart := false, narrowed := true }
def FnExactDocOfUptoSaid : Prop := fnExactDocOfUptoRow.holds Try.pinned (OpenSpec.upto fnExactDocOfSpec)

/-- 'laws.FnExactStreamRows', WHERE WHAT IT READS IS OF BULK AT MOST 1048576: true; the input reads as it did. -/
def fnExactStreamRowsUptoRow : OpenClaim := { program := "ytcealfjkcbaelaa", sum := "545bb5a4dd5848d3646c911b48eb46bb76fd90c7d9f5e32651a44fec71ed1c4d", func := "loop.example/docalgebra/laws.FnExactStreamRows", spec := "fnExactStreamRows", inPlace := ["internal/bytealg.IndexByteString", "internal/abi.NoEscape"], plainKeys := false, apart := false, narrowed := true }
def FnExactStreamRowsUptoSaid : Prop := fnExactStreamRowsUptoRow.holds Try.pinned (OpenSpec.upto fnExactStreamRowsSpec)

/-- 'laws.FnExactLookAhead', WHERE WHAT IT READS IS OF BULK AT MOST 1048576: true; the input reads as it did. -/
def fnExactLookAheadUptoRow : OpenClaim := { program := "ytcealfjkcbaelaa", sum := "545bb5a4dd5848d3646c911b48eb46bb76fd90c7d9f5e32651a44fec71ed1c4d", func := "loop.example/docalgebra/laws.FnExactLookAhead", spec := "fnExactLookAhead", inPlace := ["internal/bytealg.IndexByteString"], plainKeys := false, apart := false, narrowed := true }
def FnExactLookAheadUptoSaid : Prop := fnExactLookAheadUptoRow.holds Try.pinned (OpenSpec.upto fnExactLookAheadSpec)

end Rows
end Go.Proofs.Ytcealfjkcbaelaa
