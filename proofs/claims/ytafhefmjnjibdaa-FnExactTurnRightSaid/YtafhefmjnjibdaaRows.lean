/-
  NARROWER THAN 'FOR EVERY INPUT', by the rows' own cells (each row's printed sentence says how): FnExactFuseText: loops · FnExactPushNest: loops · FnExactDropEmpty: loops · FnExactDropGroups: loops · FnExactTurnRight: loops · FnExactNormalDoc: loops · FnExactIsNormal: loops.
  DERIVED. THE GIVEN ROWS OF THIS SEAT. 15 by the template 'for every input the law returns true; each argument reads behind the call as it read before'; 0 by the template 'total and deterministic' (their statements: YtafhefmjnjibdaaTotals.lean).
  GIVEN WITH THE SEED: the statements are not yours to turn. If you find one false, say at which input.
  Laid BY PROGRAM, IN A SANDBOX (cutbox-rows.mjs): the forced cells as the released guide's own fill.sh prints them over the translation d336fdc677dbd169… (all of the seat's roots in one cut). By AI agents, Wed Nov 11 2026. No macro, syntax, notation, axiom, sorry.
-/
import Derived.Test.YtafhefmjnjibdaaChecked
import GoSem.Claim
import GoSem.ClaimJoined
import GoSem.ClaimMapViews
import Derived.JoinedTies
import Derived.KernelRfl
namespace Go.Proofs.Ytafhefmjnjibdaa
/- THE CELL 'sum', in the pinned program and in every row, IS THE sha256 OF THE DUMP (.gsa) THAT YtafhefmjnjibdaaProg.lean LOADS. Nothing in Lean hashes anything: it is a label: what it is worth is what the hold of that sum in a sandbox is worth. -/
noncomputable def Try.pinned : Pinned := { name := "ytafhefmjnjibdaa", sum := "d336fdc677dbd169a5190ba2b3e4a093e7b0bd2dd905084d405616347c7e3a46", checked := Try.checked }
namespace Rows
def none {H : Type} : Left H := { results := [], args := [] }

/-- 'laws.FnIsNormal': WHATEVER THE INPUT: true; the input reads as it did. -/
def fnIsNormalSpec : ChangeSpec := { name := "fnIsNormal", fn := fun _ => fun
  | [d] => { results := [.lit (.bool true)], args := [d] }
  | _ => none }
def fnIsNormalRow : OpenClaim := { program := "ytafhefmjnjibdaa", sum := "d336fdc677dbd169a5190ba2b3e4a093e7b0bd2dd905084d405616347c7e3a46", func := "loop.example/docalgebra/laws.FnIsNormal", spec := "fnIsNormal", inPlace := ["internal/bytealg.IndexByteString"], unfollowed := true, recurses := true, plainKeys := false, apart := false }
def FnIsNormalSaid : Prop := fnIsNormalRow.holds Try.pinned (OpenSpec.ofChange fnIsNormalSpec)

/-- ITS FALSE NEIGHBOUR: 'it returns false'. Refute it at one input. -/
def fnIsNormalWrong : ChangeSpec := { name := "fnIsNormal", fn := fun _ => fun
  | [d] => { results := [.lit (.bool false)], args := [d] }
  | _ => none }
def FnIsNormalWrongFalsely : Prop := fnIsNormalRow.holds Try.pinned (OpenSpec.ofChange fnIsNormalWrong)

/-- 'laws.FnPushNest': WHATEVER THE INPUT: true; the input reads as it did. -/
def fnPushNestSpec : ChangeSpec := { name := "fnPushNest", fn := fun _ => fun
  | [d] => { results := [.lit (.bool true)], args := [d] }
  | _ => none }
def fnPushNestRow : OpenClaim := { program := "ytafhefmjnjibdaa", sum := "d336fdc677dbd169a5190ba2b3e4a093e7b0bd2dd905084d405616347c7e3a46", func := "loop.example/docalgebra/laws.FnPushNest", spec := "fnPushNest", inPlace := ["internal/bytealg.IndexByteString", "internal/abi.NoEscape"], unfollowed := true, recurses := true, plainKeys := false, apart := false }
def FnPushNestSaid : Prop := fnPushNestRow.holds Try.pinned (OpenSpec.ofChange fnPushNestSpec)

/-- ITS FALSE NEIGHBOUR: 'it returns false'. Refute it at one input. -/
def fnPushNestWrong : ChangeSpec := { name := "fnPushNest", fn := fun _ => fun
  | [d] => { results := [.lit (.bool false)], args := [d] }
  | _ => none }
def FnPushNestWrongFalsely : Prop := fnPushNestRow.holds Try.pinned (OpenSpec.ofChange fnPushNestWrong)

/-- 'laws.FnTurnRight': WHATEVER THE INPUT: true; the input reads as it did. -/
def fnTurnRightSpec : ChangeSpec := { name := "fnTurnRight", fn := fun _ => fun
  | [d] => { results := [.lit (.bool true)], args := [d] }
  | _ => none }
def fnTurnRightRow : OpenClaim := { program := "ytafhefmjnjibdaa", sum := "d336fdc677dbd169a5190ba2b3e4a093e7b0bd2dd905084d405616347c7e3a46", func := "loop.example/docalgebra/laws.FnTurnRight", spec := "fnTurnRight", inPlace := ["internal/bytealg.IndexByteString", "internal/abi.NoEscape"], unfollowed := true, recurses := true, plainKeys := false, apart := false }
def FnTurnRightSaid : Prop := fnTurnRightRow.holds Try.pinned (OpenSpec.ofChange fnTurnRightSpec)

/-- ITS FALSE NEIGHBOUR: 'it returns false'. Refute it at one input. -/
def fnTurnRightWrong : ChangeSpec := { name := "fnTurnRight", fn := fun _ => fun
  | [d] => { results := [.lit (.bool false)], args := [d] }
  | _ => none }
def FnTurnRightWrongFalsely : Prop := fnTurnRightRow.holds Try.pinned (OpenSpec.ofChange fnTurnRightWrong)

/-- 'laws.FnDropGroups': WHATEVER THE INPUT: true; the input reads as it did. -/
def fnDropGroupsSpec : ChangeSpec := { name := "fnDropGroups", fn := fun _ => fun
  | [d] => { results := [.lit (.bool true)], args := [d] }
  | _ => none }
def fnDropGroupsRow : OpenClaim := { program := "ytafhefmjnjibdaa", sum := "d336fdc677dbd169a5190ba2b3e4a093e7b0bd2dd905084d405616347c7e3a46", func := "loop.example/docalgebra/laws.FnDropGroups", spec := "fnDropGroups", inPlace := ["internal/bytealg.IndexByteString", "internal/abi.NoEscape"], unfollowed := true, recurses := true, plainKeys := false, apart := false }
def FnDropGroupsSaid : Prop := fnDropGroupsRow.holds Try.pinned (OpenSpec.ofChange fnDropGroupsSpec)

/-- ITS FALSE NEIGHBOUR: 'it returns false'. Refute it at one input. -/
def fnDropGroupsWrong : ChangeSpec := { name := "fnDropGroups", fn := fun _ => fun
  | [d] => { results := [.lit (.bool false)], args := [d] }
  | _ => none }
def FnDropGroupsWrongFalsely : Prop := fnDropGroupsRow.holds Try.pinned (OpenSpec.ofChange fnDropGroupsWrong)

/-- 'laws.FnFuseText': WHATEVER THE INPUT: true; the input reads as it did. -/
def fnFuseTextSpec : ChangeSpec := { name := "fnFuseText", fn := fun _ => fun
  | [d] => { results := [.lit (.bool true)], args := [d] }
  | _ => none }
def fnFuseTextRow : OpenClaim := { program := "ytafhefmjnjibdaa", sum := "d336fdc677dbd169a5190ba2b3e4a093e7b0bd2dd905084d405616347c7e3a46", func := "loop.example/docalgebra/laws.FnFuseText", spec := "fnFuseText", inPlace := ["internal/bytealg.IndexByteString", "internal/abi.NoEscape"], unfollowed := true, recurses := true, plainKeys := false, apart := false }
def FnFuseTextSaid : Prop := fnFuseTextRow.holds Try.pinned (OpenSpec.ofChange fnFuseTextSpec)

/-- ITS FALSE NEIGHBOUR: 'it returns false'. Refute it at one input. -/
def fnFuseTextWrong : ChangeSpec := { name := "fnFuseText", fn := fun _ => fun
  | [d] => { results := [.lit (.bool false)], args := [d] }
  | _ => none }
def FnFuseTextWrongFalsely : Prop := fnFuseTextRow.holds Try.pinned (OpenSpec.ofChange fnFuseTextWrong)

/-- 'laws.FnDropEmpty': WHATEVER THE INPUT: true; the input reads as it did. -/
def fnDropEmptySpec : ChangeSpec := { name := "fnDropEmpty", fn := fun _ => fun
  | [d] => { results := [.lit (.bool true)], args := [d] }
  | _ => none }
def fnDropEmptyRow : OpenClaim := { program := "ytafhefmjnjibdaa", sum := "d336fdc677dbd169a5190ba2b3e4a093e7b0bd2dd905084d405616347c7e3a46", func := "loop.example/docalgebra/laws.FnDropEmpty", spec := "fnDropEmpty", inPlace := ["internal/bytealg.IndexByteString", "internal/abi.NoEscape"], unfollowed := true, recurses := true, plainKeys := false, apart := false }
def FnDropEmptySaid : Prop := fnDropEmptyRow.holds Try.pinned (OpenSpec.ofChange fnDropEmptySpec)

/-- ITS FALSE NEIGHBOUR: 'it returns false'. Refute it at one input. -/
def fnDropEmptyWrong : ChangeSpec := { name := "fnDropEmpty", fn := fun _ => fun
  | [d] => { results := [.lit (.bool false)], args := [d] }
  | _ => none }
def FnDropEmptyWrongFalsely : Prop := fnDropEmptyRow.holds Try.pinned (OpenSpec.ofChange fnDropEmptyWrong)

/-- 'laws.FnPushTwice': WHATEVER THE INPUT: true; the input reads as it did. -/
def fnPushTwiceSpec : ChangeSpec := { name := "fnPushTwice", fn := fun _ => fun
  | [d] => { results := [.lit (.bool true)], args := [d] }
  | _ => none }
def fnPushTwiceRow : OpenClaim := { program := "ytafhefmjnjibdaa", sum := "d336fdc677dbd169a5190ba2b3e4a093e7b0bd2dd905084d405616347c7e3a46", func := "loop.example/docalgebra/laws.FnPushTwice", spec := "fnPushTwice", inPlace := ["internal/bytealg.IndexByteString"], unfollowed := true, recurses := true, plainKeys := false, apart := false }
def FnPushTwiceSaid : Prop := fnPushTwiceRow.holds Try.pinned (OpenSpec.ofChange fnPushTwiceSpec)

/-- ITS FALSE NEIGHBOUR: 'it returns false'. Refute it at one input. -/
def fnPushTwiceWrong : ChangeSpec := { name := "fnPushTwice", fn := fun _ => fun
  | [d] => { results := [.lit (.bool false)], args := [d] }
  | _ => none }
def FnPushTwiceWrongFalsely : Prop := fnPushTwiceRow.holds Try.pinned (OpenSpec.ofChange fnPushTwiceWrong)

/-- 'laws.FnFuseTwice': WHATEVER THE INPUT: true; the input reads as it did. -/
def fnFuseTwiceSpec : ChangeSpec := { name := "fnFuseTwice", fn := fun _ => fun
  | [d] => { results := [.lit (.bool true)], args := [d] }
  | _ => none }
def fnFuseTwiceRow : OpenClaim := { program := "ytafhefmjnjibdaa", sum := "d336fdc677dbd169a5190ba2b3e4a093e7b0bd2dd905084d405616347c7e3a46", func := "loop.example/docalgebra/laws.FnFuseTwice", spec := "fnFuseTwice", inPlace := ["internal/bytealg.IndexByteString"], unfollowed := true, recurses := true, plainKeys := false, apart := false }
def FnFuseTwiceSaid : Prop := fnFuseTwiceRow.holds Try.pinned (OpenSpec.ofChange fnFuseTwiceSpec)

/-- ITS FALSE NEIGHBOUR: 'it returns false'. Refute it at one input. -/
def fnFuseTwiceWrong : ChangeSpec := { name := "fnFuseTwice", fn := fun _ => fun
  | [d] => { results := [.lit (.bool false)], args := [d] }
  | _ => none }
def FnFuseTwiceWrongFalsely : Prop := fnFuseTwiceRow.holds Try.pinned (OpenSpec.ofChange fnFuseTwiceWrong)

/-- 'laws.FnExactFuseText': WHATEVER THE INPUT: true; the input reads as it did. -/
def fnExactFuseTextSpec : ChangeSpec := { name := "fnExactFuseText", fn := fun _ => fun
  | [d] => { results := [.lit (.bool true)], args := [d] }
  | _ => none }
def fnExactFuseTextRow : OpenClaim := { program := "ytafhefmjnjibdaa", sum := "d336fdc677dbd169a5190ba2b3e4a093e7b0bd2dd905084d405616347c7e3a46", func := "loop.example/docalgebra/laws.FnExactFuseText", spec := "fnExactFuseText", inPlace := ["internal/bytealg.IndexByteString"], unfollowed := true, recurses := true, loops := true, plainKeys := false, apart := false }
def FnExactFuseTextSaid : Prop := fnExactFuseTextRow.holds Try.pinned (OpenSpec.ofChange fnExactFuseTextSpec)

/-- ITS FALSE NEIGHBOUR: 'it returns false'. Refute it at one input. -/
def fnExactFuseTextWrong : ChangeSpec := { name := "fnExactFuseText", fn := fun _ => fun
  | [d] => { results := [.lit (.bool false)], args := [d] }
  | _ => none }
def FnExactFuseTextWrongFalsely : Prop := fnExactFuseTextRow.holds Try.pinned (OpenSpec.ofChange fnExactFuseTextWrong)

/-- 'laws.FnExactPushNest': WHATEVER THE INPUT: true; the input reads as it did. -/
def fnExactPushNestSpec : ChangeSpec := { name := "fnExactPushNest", fn := fun _ => fun
  | [d] => { results := [.lit (.bool true)], args := [d] }
  | _ => none }
def fnExactPushNestRow : OpenClaim := { program := "ytafhefmjnjibdaa", sum := "d336fdc677dbd169a5190ba2b3e4a093e7b0bd2dd905084d405616347c7e3a46", func := "loop.example/docalgebra/laws.FnExactPushNest", spec := "fnExactPushNest", inPlace := ["internal/bytealg.IndexByteString"], unfollowed := true, recurses := true, loops := true, plainKeys := false, apart := false }
def FnExactPushNestSaid : Prop := fnExactPushNestRow.holds Try.pinned (OpenSpec.ofChange fnExactPushNestSpec)

/-- ITS FALSE NEIGHBOUR: 'it returns false'. Refute it at one input. -/
def fnExactPushNestWrong : ChangeSpec := { name := "fnExactPushNest", fn := fun _ => fun
  | [d] => { results := [.lit (.bool false)], args := [d] }
  | _ => none }
def FnExactPushNestWrongFalsely : Prop := fnExactPushNestRow.holds Try.pinned (OpenSpec.ofChange fnExactPushNestWrong)

/-- 'laws.FnExactDropEmpty': WHATEVER THE INPUT: true; the input reads as it did. -/
def fnExactDropEmptySpec : ChangeSpec := { name := "fnExactDropEmpty", fn := fun _ => fun
  | [d] => { results := [.lit (.bool true)], args := [d] }
  | _ => none }
def fnExactDropEmptyRow : OpenClaim := { program := "ytafhefmjnjibdaa", sum := "d336fdc677dbd169a5190ba2b3e4a093e7b0bd2dd905084d405616347c7e3a46", func := "loop.example/docalgebra/laws.FnExactDropEmpty", spec := "fnExactDropEmpty", inPlace := ["internal/bytealg.IndexByteString"], unfollowed := true, recurses := true, loops := true, plainKeys := false, apart := false }
def FnExactDropEmptySaid : Prop := fnExactDropEmptyRow.holds Try.pinned (OpenSpec.ofChange fnExactDropEmptySpec)

/-- ITS FALSE NEIGHBOUR: 'it returns false'. Refute it at one input. -/
def fnExactDropEmptyWrong : ChangeSpec := { name := "fnExactDropEmpty", fn := fun _ => fun
  | [d] => { results := [.lit (.bool false)], args := [d] }
  | _ => none }
def FnExactDropEmptyWrongFalsely : Prop := fnExactDropEmptyRow.holds Try.pinned (OpenSpec.ofChange fnExactDropEmptyWrong)

/-- 'laws.FnExactDropGroups': WHATEVER THE INPUT: true; the input reads as it did. -/
def fnExactDropGroupsSpec : ChangeSpec := { name := "fnExactDropGroups", fn := fun _ => fun
  | [d] => { results := [.lit (.bool true)], args := [d] }
  | _ => none }
def fnExactDropGroupsRow : OpenClaim := { program := "ytafhefmjnjibdaa", sum := "d336fdc677dbd169a5190ba2b3e4a093e7b0bd2dd905084d405616347c7e3a46", func := "loop.example/docalgebra/laws.FnExactDropGroups", spec := "fnExactDropGroups", inPlace := ["internal/bytealg.IndexByteString"], unfollowed := true, recurses := true, loops := true, plainKeys := false, apart := false }
def FnExactDropGroupsSaid : Prop := fnExactDropGroupsRow.holds Try.pinned (OpenSpec.ofChange fnExactDropGroupsSpec)

/-- ITS FALSE NEIGHBOUR: 'it returns false'. Refute it at one input. -/
def fnExactDropGroupsWrong : ChangeSpec := { name := "fnExactDropGroups", fn := fun _ => fun
  | [d] => { results := [.lit (.bool false)], args := [d] }
  | _ => none }
def FnExactDropGroupsWrongFalsely : Prop := fnExactDropGroupsRow.holds Try.pinned (OpenSpec.ofChange fnExactDropGroupsWrong)

/-- 'laws.FnExactTurnRight': WHATEVER THE INPUT: true; the input reads as it did. -/
def fnExactTurnRightSpec : ChangeSpec := { name := "fnExactTurnRight", fn := fun _ => fun
  | [d] => { results := [.lit (.bool true)], args := [d] }
  | _ => none }
def fnExactTurnRightRow : OpenClaim := { program := "ytafhefmjnjibdaa", sum := "d336fdc677dbd169a5190ba2b3e4a093e7b0bd2dd905084d405616347c7e3a46", func := "loop.example/docalgebra/laws.FnExactTurnRight", spec := "fnExactTurnRight", inPlace := ["internal/bytealg.IndexByteString"], unfollowed := true, recurses := true, loops := true, plainKeys := false, apart := false }
def FnExactTurnRightSaid : Prop := fnExactTurnRightRow.holds Try.pinned (OpenSpec.ofChange fnExactTurnRightSpec)

/-- ITS FALSE NEIGHBOUR: 'it returns false'. Refute it at one input. -/
def fnExactTurnRightWrong : ChangeSpec := { name := "fnExactTurnRight", fn := fun _ => fun
  | [d] => { results := [.lit (.bool false)], args := [d] }
  | _ => none }
def FnExactTurnRightWrongFalsely : Prop := fnExactTurnRightRow.holds Try.pinned (OpenSpec.ofChange fnExactTurnRightWrong)

/-- 'laws.FnExactNormalDoc': WHATEVER THE INPUT: true; the input reads as it did. -/
def fnExactNormalDocSpec : ChangeSpec := { name := "fnExactNormalDoc", fn := fun _ => fun
  | [d] => { results := [.lit (.bool true)], args := [d] }
  | _ => none }
def fnExactNormalDocRow : OpenClaim := { program := "ytafhefmjnjibdaa", sum := "d336fdc677dbd169a5190ba2b3e4a093e7b0bd2dd905084d405616347c7e3a46", func := "loop.example/docalgebra/laws.FnExactNormalDoc", spec := "fnExactNormalDoc", inPlace := ["internal/bytealg.IndexByteString"], unfollowed := true, recurses := true, loops := true, plainKeys := false, apart := false }
def FnExactNormalDocSaid : Prop := fnExactNormalDocRow.holds Try.pinned (OpenSpec.ofChange fnExactNormalDocSpec)

/-- ITS FALSE NEIGHBOUR: 'it returns false'. Refute it at one input. -/
def fnExactNormalDocWrong : ChangeSpec := { name := "fnExactNormalDoc", fn := fun _ => fun
  | [d] => { results := [.lit (.bool false)], args := [d] }
  | _ => none }
def FnExactNormalDocWrongFalsely : Prop := fnExactNormalDocRow.holds Try.pinned (OpenSpec.ofChange fnExactNormalDocWrong)

/-- 'laws.FnExactIsNormal': WHATEVER THE INPUT: true; the input reads as it did. -/
def fnExactIsNormalSpec : ChangeSpec := { name := "fnExactIsNormal", fn := fun _ => fun
  | [d] => { results := [.lit (.bool true)], args := [d] }
  | _ => none }
def fnExactIsNormalRow : OpenClaim := { program := "ytafhefmjnjibdaa", sum := "d336fdc677dbd169a5190ba2b3e4a093e7b0bd2dd905084d405616347c7e3a46", func := "loop.example/docalgebra/laws.FnExactIsNormal", spec := "fnExactIsNormal", inPlace := ["internal/bytealg.IndexByteString"], unfollowed := true, recurses := true, loops := true, plainKeys := false, apart := false }
def FnExactIsNormalSaid : Prop := fnExactIsNormalRow.holds Try.pinned (OpenSpec.ofChange fnExactIsNormalSpec)

/-- ITS FALSE NEIGHBOUR: 'it returns false'. Refute it at one input. -/
def fnExactIsNormalWrong : ChangeSpec := { name := "fnExactIsNormal", fn := fun _ => fun
  | [d] => { results := [.lit (.bool false)], args := [d] }
  | _ => none }
def FnExactIsNormalWrongFalsely : Prop := fnExactIsNormalRow.holds Try.pinned (OpenSpec.ofChange fnExactIsNormalWrong)

/- THE SECOND FORM. 'bulk': how many values and letters a reading holds, each counted each time it is reached (what is shared counts as often as it is met; a slice's spare places count too). A statement '..UptoSaid' is the law's where the arguments, and the package variables that the reading takes, are together of bulk at most 1048576: NARROWER than '..Said'. Prove '..Said' where nothing that the law and all that it calls make is longer than what came in: it says more and counts as full. Else prove '..UptoSaid'. A law counts once. -/
mutual
def uptoBulk {H : Type} : DataW H → Nat
  | .lit (.string bytes) => bytes.length + 1
  | .lit _ => 1
  | .nil => 1
  | .ptr d => uptoBulk d + 1
  | .slice elems spare => uptoBulkAll elems + uptoBulkAll spare + 1
  | .agg parts => uptoBulkAll parts + 1
  | .iface _ d => uptoBulk d + 1
  | .map entries => uptoBulkEntries entries + 1
  | .held _ => 1
def uptoBulkAll {H : Type} : List (DataW H) → Nat
  | [] => 0
  | d :: r => uptoBulk d + uptoBulkAll r
def uptoBulkEntries {H : Type} : List (Lit × DataW H) → Nat
  | [] => 0
  | x :: r => uptoBulkEntry x + uptoBulkEntries r
def uptoBulkEntry {H : Type} : Lit × DataW H → Nat
  | (.string bytes, d) => bytes.length + uptoBulk d + 1
  | (_, d) => uptoBulk d + 1
 end
def uptoSmall : (H : Type) → List (DataW H) → Bool := fun _ ds => decide (uptoBulkAll ds ≤ 1048576)
def OpenSpec.upto (s : _root_.Go.ChangeSpec) : _root_.Go.OpenSpec := { _root_.Go.OpenSpec.ofChange s with cond := some uptoSmall }

/-- 'laws.FnIsNormal', WHERE WHAT IT READS IS OF BULK AT MOST 1048576: true; the input reads as it did. -/
def fnIsNormalUptoRow : OpenClaim := { program := "ytafhefmjnjibdaa", sum := "d336fdc677dbd169a5190ba2b3e4a093e7b0bd2dd905084d405616347c7e3a46", func := "loop.example/docalgebra/laws.FnIsNormal", spec := "fnIsNormal", inPlace := ["internal/bytealg.IndexByteString"], unfollowed := true, recurses := true, plainKeys := false, apart := false, narrowed := true }
def FnIsNormalUptoSaid : Prop := fnIsNormalUptoRow.holds Try.pinned (OpenSpec.upto fnIsNormalSpec)

/-- 'laws.FnPushNest', WHERE WHAT IT READS IS OF BULK AT MOST 1048576: true; the input reads as it did. -/
def fnPushNestUptoRow : OpenClaim := { program := "ytafhefmjnjibdaa", sum := "d336fdc677dbd169a5190ba2b3e4a093e7b0bd2dd905084d405616347c7e3a46", func := "loop.example/docalgebra/laws.FnPushNest", spec := "fnPushNest", inPlace := ["internal/bytealg.IndexByteString", "internal/abi.NoEscape"], unfollowed := true, recurses := true, plainKeys := false, apart := false, narrowed := true }
def FnPushNestUptoSaid : Prop := fnPushNestUptoRow.holds Try.pinned (OpenSpec.upto fnPushNestSpec)

/-- 'laws.FnTurnRight', WHERE WHAT IT READS IS OF BULK AT MOST 1048576: true; the input reads as it did. -/
def fnTurnRightUptoRow : OpenClaim := { program := "ytafhefmjnjibdaa", sum := "d336fdc677dbd169a5190ba2b3e4a093e7b0bd2dd905084d405616347c7e3a46", func := "loop.example/docalgebra/laws.FnTurnRight", spec := "fnTurnRight", inPlace := ["internal/bytealg.IndexByteString", "internal/abi.NoEscape"], unfollowed := true, recurses := true, plainKeys := false, apart := false, narrowed := true }
def FnTurnRightUptoSaid : Prop := fnTurnRightUptoRow.holds Try.pinned (OpenSpec.upto fnTurnRightSpec)

/-- 'laws.FnDropGroups', WHERE WHAT IT READS IS OF BULK AT MOST 1048576: true; the input reads as it did. -/
def fnDropGroupsUptoRow : OpenClaim := { program := "ytafhefmjnjibdaa", sum := "d336fdc677dbd169a5190ba2b3e4a093e7b0bd2dd905084d405616347c7e3a46", func := "loop.example/docalgebra/laws.FnDropGroups", spec := "fnDropGroups", inPlace := ["internal/bytealg.IndexByteString", "internal/abi.NoEscape"], unfollowed := true, recurses := true, plainKeys := false, apart := false, narrowed := true }
def FnDropGroupsUptoSaid : Prop := fnDropGroupsUptoRow.holds Try.pinned (OpenSpec.upto fnDropGroupsSpec)

/-- 'laws.FnFuseText', WHERE WHAT IT READS IS OF BULK AT MOST 1048576: true; the input reads as it did. -/
def fnFuseTextUptoRow : OpenClaim := { program := "ytafhefmjnjibdaa", sum := "d336fdc677dbd169a5190ba2b3e4a093e7b0bd2dd905084d405616347c7e3a46", func := "loop.example/docalgebra/laws.FnFuseText", spec := "fnFuseText", inPlace := ["internal/bytealg.IndexByteString", "internal/abi.NoEscape"], unfollowed := true, recurses := true, plainKeys := false, apart := false, narrowed := true }
def FnFuseTextUptoSaid : Prop := fnFuseTextUptoRow.holds Try.pinned (OpenSpec.upto fnFuseTextSpec)

/-- 'laws.FnDropEmpty', WHERE WHAT IT READS IS OF BULK AT MOST 1048576: true; the input reads as it did. -/
def fnDropEmptyUptoRow : OpenClaim := { program := "ytafhefmjnjibdaa", sum := "d336fdc677dbd169a5190ba2b3e4a093e7b0bd2dd905084d405616347c7e3a46", func := "loop.example/docalgebra/laws.FnDropEmpty", spec := "fnDropEmpty", inPlace := ["internal/bytealg.IndexByteString", "internal/abi.NoEscape"], unfollowed := true, recurses := true, plainKeys := false, apart := false, narrowed := true }
def FnDropEmptyUptoSaid : Prop := fnDropEmptyUptoRow.holds Try.pinned (OpenSpec.upto fnDropEmptySpec)

/-- 'laws.FnPushTwice', WHERE WHAT IT READS IS OF BULK AT MOST 1048576: true; the input reads as it did. -/
def fnPushTwiceUptoRow : OpenClaim := { program := "ytafhefmjnjibdaa", sum := "d336fdc677dbd169a5190ba2b3e4a093e7b0bd2dd905084d405616347c7e3a46", func := "loop.example/docalgebra/laws.FnPushTwice", spec := "fnPushTwice", inPlace := ["internal/bytealg.IndexByteString"], unfollowed := true, recurses := true, plainKeys := false, apart := false, narrowed := true }
def FnPushTwiceUptoSaid : Prop := fnPushTwiceUptoRow.holds Try.pinned (OpenSpec.upto fnPushTwiceSpec)

/-- 'laws.FnFuseTwice', WHERE WHAT IT READS IS OF BULK AT MOST 1048576: true; the input reads as it did. -/
def fnFuseTwiceUptoRow : OpenClaim := { program := "ytafhefmjnjibdaa", sum := "d336fdc677dbd169a5190ba2b3e4a093e7b0bd2dd905084d405616347c7e3a46", func := "loop.example/docalgebra/laws.FnFuseTwice", spec := "fnFuseTwice", inPlace := ["internal/bytealg.IndexByteString"], unfollowed := true, recurses := true, plainKeys := false, apart := false, narrowed := true }
def FnFuseTwiceUptoSaid : Prop := fnFuseTwiceUptoRow.holds Try.pinned (OpenSpec.upto fnFuseTwiceSpec)

/-- 'laws.FnExactFuseText', WHERE WHAT IT READS IS OF BULK AT MOST 1048576: true; the input reads as it did. -/
def fnExactFuseTextUptoRow : OpenClaim := { program := "ytafhefmjnjibdaa", sum := "d336fdc677dbd169a5190ba2b3e4a093e7b0bd2dd905084d405616347c7e3a46", func := "loop.example/docalgebra/laws.FnExactFuseText", spec := "fnExactFuseText", inPlace := ["internal/bytealg.IndexByteString"], unfollowed := true, recurses := true, loops := true, plainKeys := false, apart := false, narrowed := true }
def FnExactFuseTextUptoSaid : Prop := fnExactFuseTextUptoRow.holds Try.pinned (OpenSpec.upto fnExactFuseTextSpec)

/-- 'laws.FnExactPushNest', WHERE WHAT IT READS IS OF BULK AT MOST 1048576: true; the input reads as it did. -/
def fnExactPushNestUptoRow : OpenClaim := { program := "ytafhefmjnjibdaa", sum := "d336fdc677dbd169a5190ba2b3e4a093e7b0bd2dd905084d405616347c7e3a46", func := "loop.example/docalgebra/laws.FnExactPushNest", spec := "fnExactPushNest", inPlace := ["internal/bytealg.IndexByteString"], unfollowed := true, recurses := true, loops := true, plainKeys := false, apart := false, narrowed := true }
def FnExactPushNestUptoSaid : Prop := fnExactPushNestUptoRow.holds Try.pinned (OpenSpec.upto fnExactPushNestSpec)

/-- 'laws.FnExactDropEmpty', WHERE WHAT IT READS IS OF BULK AT MOST 1048576: true; the input reads as it did. -/
def fnExactDropEmptyUptoRow : OpenClaim := { program := "ytafhefmjnjibdaa", sum := "d336fdc677dbd169a5190ba2b3e4a093e7b0bd2dd905084d405616347c7e3a46", func := "loop.example/docalgebra/laws.FnExactDropEmpty", spec := "fnExactDropEmpty", inPlace := ["internal/bytealg.IndexByteString"], unfollowed := true, recurses := true, loops := true, plainKeys := false, apart := false, narrowed := true }
def FnExactDropEmptyUptoSaid : Prop := fnExactDropEmptyUptoRow.holds Try.pinned (OpenSpec.upto fnExactDropEmptySpec)

/-- 'laws.FnExactDropGroups', WHERE WHAT IT READS IS OF BULK AT MOST 1048576: true; the input reads as it did. -/
def fnExactDropGroupsUptoRow : OpenClaim := { program := "ytafhefmjnjibdaa", sum := "d336fdc677dbd169a5190ba2b3e4a093e7b0bd2dd905084d405616347c7e3a46", func := "loop.example/docalgebra/laws.FnExactDropGroups", spec := "fnExactDropGroups", inPlace := ["internal/bytealg.IndexByteString"], unfollowed := true, recurses := true, loops := true, plainKeys := false, apart := false, narrowed := true }
def FnExactDropGroupsUptoSaid : Prop := fnExactDropGroupsUptoRow.holds Try.pinned (OpenSpec.upto fnExactDropGroupsSpec)

/-- 'laws.FnExactTurnRight', WHERE WHAT IT READS IS OF BULK AT MOST 1048576: true; the input reads as it did. -/
def fnExactTurnRightUptoRow : OpenClaim := { program := "ytafhefmjnjibdaa", sum := "d336fdc677dbd169a5190ba2b3e4a093e7b0bd2dd905084d405616347c7e3a46", func := "loop.example/docalgebra/laws.FnExactTurnRight", spec := "fnExactTurnRight", inPlace := ["internal/bytealg.IndexByteString"], unfollowed := true, recurses := true, loops := true, plainKeys := false, apart := false, narrowed := true }
def FnExactTurnRightUptoSaid : Prop := fnExactTurnRightUptoRow.holds Try.pinned (OpenSpec.upto fnExactTurnRightSpec)

/-- 'laws.FnExactNormalDoc', WHERE WHAT IT READS IS OF BULK AT MOST 1048576: true; the input reads as it did. -/
def fnExactNormalDocUptoRow : OpenClaim := { program := "ytafhefmjnjibdaa", sum := "d336fdc677dbd169a5190ba2b3e4a093e7b0bd2dd905084d405616347c7e3a46", func := "loop.example/docalgebra/laws.FnExactNormalDoc", spec := "fnExactNormalDoc", inPlace := ["internal/bytealg.IndexByteString"], unfollowed := true, recurses := true, loops := true, plainKeys := false, apart := false, narrowed := true }
def FnExactNormalDocUptoSaid : Prop := fnExactNormalDocUptoRow.holds Try.pinned (OpenSpec.upto fnExactNormalDocSpec)

/-- 'laws.FnExactIsNormal', WHERE WHAT IT READS IS OF BULK AT MOST 1048576: true; the input reads as it did. -/
def fnExactIsNormalUptoRow : OpenClaim := { program := "ytafhefmjnjibdaa", sum := "d336fdc677dbd169a5190ba2b3e4a093e7b0bd2dd905084d405616347c7e3a46", func := "loop.example/docalgebra/laws.FnExactIsNormal", spec := "fnExactIsNormal", inPlace := ["internal/bytealg.IndexByteString"], unfollowed := true, recurses := true, loops := true, plainKeys := false, apart := false, narrowed := true }
def FnExactIsNormalUptoSaid : Prop := fnExactIsNormalUptoRow.holds Try.pinned (OpenSpec.upto fnExactIsNormalSpec)

end Rows
end Go.Proofs.Ytafhefmjnjibdaa
