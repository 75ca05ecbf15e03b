/-
  NARROWER THAN 'FOR EVERY INPUT', by the rows' own cells (each row's printed sentence says how): FnExactFuseText: loops · FnExactNormalDoc: loops · FnExactIsNormal: loops.
  DERIVED. THE GIVEN ROWS OF THIS SEAT. 9 by the template 'for every input the law returns true; each argument reads behind the call as it read before'; 0 by the template 'total and deterministic' (their statements: YtcpbhkgdeaanmaaTotals.lean).
  GIVEN WITH THE SEED: the statements are not yours to turn. If you find one false, say at which input.
  Laid BY PROGRAM, IN A SANDBOX (cutbox-rows.mjs): the forced cells as the released guide's own fill.sh prints them over the translation 08d2b41f9d3c4165… (all of the seat's roots in one cut). By AI agents, Wed Nov 11 2026. No macro, syntax, notation, axiom, sorry.
-/
import Derived.Test.YtcpbhkgdeaanmaaChecked
import GoSem.Claim
import GoSem.ClaimJoined
import GoSem.ClaimMapViews
import Derived.JoinedTies
import Derived.KernelRfl
namespace Go.Proofs.Ytcpbhkgdeaanmaa
/- THE CELL 'sum', in the pinned program and in every row, IS THE sha256 OF THE DUMP (.gsa) THAT YtcpbhkgdeaanmaaProg.lean LOADS. Nothing in Lean hashes anything: it is a label: what it is worth is what the hold of that sum in a sandbox is worth. -/
noncomputable def Try.pinned : Pinned := { name := "ytcpbhkgdeaanmaa", sum := "08d2b41f9d3c4165a44a1a4e198304fcb3aece66e4ca8d5a46bf4fd960d19a1c", checked := Try.checked }
namespace Rows
def none {H : Type} : Left H := { results := [], args := [] }

/-- 'laws.FnIsNormal': WHATEVER THE INPUT: true; the input reads as it did. -/
def fnIsNormalSpec : ChangeSpec := { name := "fnIsNormal", fn := fun _ => fun
  | [d] => { results := [.lit (.bool true)], args := [d] }
  | _ => none }
def fnIsNormalRow : OpenClaim := { program := "ytcpbhkgdeaanmaa", sum := "08d2b41f9d3c4165a44a1a4e198304fcb3aece66e4ca8d5a46bf4fd960d19a1c", func := "loop.example/docalgebra/laws.FnIsNormal", spec := "fnIsNormal", inPlace := ["internal/bytealg.IndexByteString"], unfollowed := true, recurses := true, plainKeys := false, apart := false }
def FnIsNormalSaid : Prop := fnIsNormalRow.holds Try.pinned (OpenSpec.ofChange fnIsNormalSpec)

/-- ITS FALSE NEIGHBOUR: 'it returns false'. Refute it at one input. -/
def fnIsNormalWrong : ChangeSpec := { name := "fnIsNormal", fn := fun _ => fun
  | [d] => { results := [.lit (.bool false)], args := [d] }
  | _ => none }
def FnIsNormalWrongFalsely : Prop := fnIsNormalRow.holds Try.pinned (OpenSpec.ofChange fnIsNormalWrong)

/-- 'laws.FnTurnRight': WHATEVER THE INPUT: true; the input reads as it did. -/
def fnTurnRightSpec : ChangeSpec := { name := "fnTurnRight", fn := fun _ => fun
  | [d] => { results := [.lit (.bool true)], args := [d] }
  | _ => none }
def fnTurnRightRow : OpenClaim := { program := "ytcpbhkgdeaanmaa", sum := "08d2b41f9d3c4165a44a1a4e198304fcb3aece66e4ca8d5a46bf4fd960d19a1c", func := "loop.example/docalgebra/laws.FnTurnRight", spec := "fnTurnRight", inPlace := ["internal/bytealg.IndexByteString", "internal/abi.NoEscape"], unfollowed := true, recurses := true, plainKeys := false, apart := false }
def FnTurnRightSaid : Prop := fnTurnRightRow.holds Try.pinned (OpenSpec.ofChange fnTurnRightSpec)

/-- ITS FALSE NEIGHBOUR: 'it returns false'. Refute it at one input. -/
def fnTurnRightWrong : ChangeSpec := { name := "fnTurnRight", fn := fun _ => fun
  | [d] => { results := [.lit (.bool false)], args := [d] }
  | _ => none }
def FnTurnRightWrongFalsely : Prop := fnTurnRightRow.holds Try.pinned (OpenSpec.ofChange fnTurnRightWrong)

/-- 'laws.FnDropGroups': WHATEVER THE INPUT: true; the input reads as it did. -/
def fnDropGroupsSpec : ChangeSpec := { name := "fnDropGroups", fn := fun _ => fun
  | [d] => { results := [.lit (.bool true)], args := [d] }
  | _ => none }
def fnDropGroupsRow : OpenClaim := { program := "ytcpbhkgdeaanmaa", sum := "08d2b41f9d3c4165a44a1a4e198304fcb3aece66e4ca8d5a46bf4fd960d19a1c", func := "loop.example/docalgebra/laws.FnDropGroups", spec := "fnDropGroups", inPlace := ["internal/bytealg.IndexByteString", "internal/abi.NoEscape"], unfollowed := true, recurses := true, plainKeys := false, apart := false }
def FnDropGroupsSaid : Prop := fnDropGroupsRow.holds Try.pinned (OpenSpec.ofChange fnDropGroupsSpec)

/-- ITS FALSE NEIGHBOUR: 'it returns false'. Refute it at one input. -/
def fnDropGroupsWrong : ChangeSpec := { name := "fnDropGroups", fn := fun _ => fun
  | [d] => { results := [.lit (.bool false)], args := [d] }
  | _ => none }
def FnDropGroupsWrongFalsely : Prop := fnDropGroupsRow.holds Try.pinned (OpenSpec.ofChange fnDropGroupsWrong)

/-- 'laws.FnFuseText': WHATEVER THE INPUT: true; the input reads as it did. -/
def fnFuseTextSpec : ChangeSpec := { name := "fnFuseText", fn := fun _ => fun
  | [d] => { results := [.lit (.bool true)], args := [d] }
  | _ => none }
def fnFuseTextRow : OpenClaim := { program := "ytcpbhkgdeaanmaa", sum := "08d2b41f9d3c4165a44a1a4e198304fcb3aece66e4ca8d5a46bf4fd960d19a1c", func := "loop.example/docalgebra/laws.FnFuseText", spec := "fnFuseText", inPlace := ["internal/bytealg.IndexByteString", "internal/abi.NoEscape"], unfollowed := true, recurses := true, plainKeys := false, apart := false }
def FnFuseTextSaid : Prop := fnFuseTextRow.holds Try.pinned (OpenSpec.ofChange fnFuseTextSpec)

/-- ITS FALSE NEIGHBOUR: 'it returns false'. Refute it at one input. -/
def fnFuseTextWrong : ChangeSpec := { name := "fnFuseText", fn := fun _ => fun
  | [d] => { results := [.lit (.bool false)], args := [d] }
  | _ => none }
def FnFuseTextWrongFalsely : Prop := fnFuseTextRow.holds Try.pinned (OpenSpec.ofChange fnFuseTextWrong)

/-- 'laws.FnDropEmpty': WHATEVER THE INPUT: true; the input reads as it did. -/
def fnDropEmptySpec : ChangeSpec := { name := "fnDropEmpty", fn := fun _ => fun
  | [d] => { results := [.lit (.bool true)], args := [d] }
  | _ => none }
def fnDropEmptyRow : OpenClaim := { program := "ytcpbhkgdeaanmaa", sum := "08d2b41f9d3c4165a44a1a4e198304fcb3aece66e4ca8d5a46bf4fd960d19a1c", func := "loop.example/docalgebra/laws.FnDropEmpty", spec := "fnDropEmpty", inPlace := ["internal/bytealg.IndexByteString", "internal/abi.NoEscape"], unfollowed := true, recurses := true, plainKeys := false, apart := false }
def FnDropEmptySaid : Prop := fnDropEmptyRow.holds Try.pinned (OpenSpec.ofChange fnDropEmptySpec)

/-- ITS FALSE NEIGHBOUR: 'it returns false'. Refute it at one input. -/
def fnDropEmptyWrong : ChangeSpec := { name := "fnDropEmpty", fn := fun _ => fun
  | [d] => { results := [.lit (.bool false)], args := [d] }
  | _ => none }
def FnDropEmptyWrongFalsely : Prop := fnDropEmptyRow.holds Try.pinned (OpenSpec.ofChange fnDropEmptyWrong)

/-- 'laws.FnFuseTwice': WHATEVER THE INPUT: true; the input reads as it did. -/
def fnFuseTwiceSpec : ChangeSpec := { name := "fnFuseTwice", fn := fun _ => fun
  | [d] => { results := [.lit (.bool true)], args := [d] }
  | _ => none }
def fnFuseTwiceRow : OpenClaim := { program := "ytcpbhkgdeaanmaa", sum := "08d2b41f9d3c4165a44a1a4e198304fcb3aece66e4ca8d5a46bf4fd960d19a1c", func := "loop.example/docalgebra/laws.FnFuseTwice", spec := "fnFuseTwice", inPlace := ["internal/bytealg.IndexByteString"], unfollowed := true, recurses := true, plainKeys := false, apart := false }
def FnFuseTwiceSaid : Prop := fnFuseTwiceRow.holds Try.pinned (OpenSpec.ofChange fnFuseTwiceSpec)

/-- ITS FALSE NEIGHBOUR: 'it returns false'. Refute it at one input. -/
def fnFuseTwiceWrong : ChangeSpec := { name := "fnFuseTwice", fn := fun _ => fun
  | [d] => { results := [.lit (.bool false)], args := [d] }
  | _ => none }
def FnFuseTwiceWrongFalsely : Prop := fnFuseTwiceRow.holds Try.pinned (OpenSpec.ofChange fnFuseTwiceWrong)

/-- 'laws.FnExactFuseText': WHATEVER THE INPUT: true; the input reads as it did. -/
def fnExactFuseTextSpec : ChangeSpec := { name := "fnExactFuseText", fn := fun _ => fun
  | [d] => { results := [.lit (.bool true)], args := [d] }
  | _ => none }
def fnExactFuseTextRow : OpenClaim := { program := "ytcpbhkgdeaanmaa", sum := "08d2b41f9d3c4165a44a1a4e198304fcb3aece66e4ca8d5a46bf4fd960d19a1c", func := "loop.example/docalgebra/laws.FnExactFuseText", spec := "fnExactFuseText", inPlace := ["internal/bytealg.IndexByteString"], unfollowed := true, recurses := true, loops := true, plainKeys := false, apart := false }
def FnExactFuseTextSaid : Prop := fnExactFuseTextRow.holds Try.pinned (OpenSpec.ofChange fnExactFuseTextSpec)

/-- ITS FALSE NEIGHBOUR: 'it returns false'. Refute it at one input. -/
def fnExactFuseTextWrong : ChangeSpec := { name := "fnExactFuseText", fn := fun _ => fun
  | [d] => { results := [.lit (.bool false)], args := [d] }
  | _ => none }
def FnExactFuseTextWrongFalsely : Prop := fnExactFuseTextRow.holds Try.pinned (OpenSpec.ofChange fnExactFuseTextWrong)

/-- 'laws.FnExactNormalDoc': WHATEVER THE INPUT: true; the input reads as it did. -/
def fnExactNormalDocSpec : ChangeSpec := { name := "fnExactNormalDoc", fn := fun _ => fun
  | [d] => { results := [.lit (.bool true)], args := [d] }
  | _ => none }
def fnExactNormalDocRow : OpenClaim := { program := "ytcpbhkgdeaanmaa", sum := "08d2b41f9d3c4165a44a1a4e198304fcb3aece66e4ca8d5a46bf4fd960d19a1c", func := "loop.example/docalgebra/laws.FnExactNormalDoc", spec := "fnExactNormalDoc", inPlace := ["internal/bytealg.IndexByteString"], unfollowed := true, recurses := true, loops := true, plainKeys := false, apart := false }
def FnExactNormalDocSaid : Prop := fnExactNormalDocRow.holds Try.pinned (OpenSpec.ofChange fnExactNormalDocSpec)

/-- ITS FALSE NEIGHBOUR: 'it returns false'. Refute it at one input. -/
def fnExactNormalDocWrong : ChangeSpec := { name := "fnExactNormalDoc", fn := fun _ => fun
  | [d] => { results := [.lit (.bool false)], args := [d] }
  | _ => none }
def FnExactNormalDocWrongFalsely : Prop := fnExactNormalDocRow.holds Try.pinned (OpenSpec.ofChange fnExactNormalDocWrong)

/-- 'laws.FnExactIsNormal': WHATEVER THE INPUT: true; the input reads as it did. -/
def fnExactIsNormalSpec : ChangeSpec := { name := "fnExactIsNormal", fn := fun _ => fun
  | [d] => { results := [.lit (.bool true)], args := [d] }
  | _ => none }
def fnExactIsNormalRow : OpenClaim := { program := "ytcpbhkgdeaanmaa", sum := "08d2b41f9d3c4165a44a1a4e198304fcb3aece66e4ca8d5a46bf4fd960d19a1c", func := "loop.example/docalgebra/laws.FnExactIsNormal", spec := "fnExactIsNormal", inPlace := ["internal/bytealg.IndexByteString"], unfollowed := true, recurses := true, loops := true, plainKeys := false, apart := false }
def FnExactIsNormalSaid : Prop := fnExactIsNormalRow.holds Try.pinned (OpenSpec.ofChange fnExactIsNormalSpec)

/-- ITS FALSE NEIGHBOUR: 'it returns false'. Refute it at one input. -/
def fnExactIsNormalWrong : ChangeSpec := { name := "fnExactIsNormal", fn := fun _ => fun
  | [d] => { results := [.lit (.bool false)], args := [d] }
  | _ => none }
def FnExactIsNormalWrongFalsely : Prop := fnExactIsNormalRow.holds Try.pinned (OpenSpec.ofChange fnExactIsNormalWrong)

/- THE SECOND FORM. 'bulk': how many values and letters a reading holds, each counted each time it is reached (what is shared counts as often as it is met; a slice's spare places count too). A statement '..UptoSaid' is the law's where the arguments, and the package variables that the reading takes, are together of bulk at most 1048576: NARROWER than '..Said'. Prove '..Said' where nothing that the law and all that it calls make is longer than what came in: it says more and counts as full. Else prove '..UptoSaid'. A law counts once. -/
mutual
def uptoBulk {H : Type} : DataW H → Nat
  | .lit (.string bytes) => bytes.length + 1
  | .lit _ => 1
  | .nil => 1
  | .ptr d => uptoBulk d + 1
  | .slice elems spare => uptoBulkAll elems + uptoBulkAll spare + 1
  | .agg parts => uptoBulkAll parts + 1
  | .iface _ d => uptoBulk d + 1
  | .map entries => uptoBulkEntries entries + 1
  | .held _ => 1
def uptoBulkAll {H : Type} : List (DataW H) → Nat
  | [] => 0
  | d :: r => uptoBulk d + uptoBulkAll r
def uptoBulkEntries {H : Type} : List (Lit × DataW H) → Nat
  | [] => 0
  | x :: r => uptoBulkEntry x + uptoBulkEntries r
def uptoBulkEntry {H : Type} : Lit × DataW H → Nat
  | (.string bytes, d) => bytes.length + uptoBulk d + 1
  | (_, d) => uptoBulk d + 1
 end
def uptoSmall : (H : Type) → List (DataW H) → Bool := fun _ ds => decide (uptoBulkAll ds ≤ 1048576)
def OpenSpec.upto (s : _root_.Go.ChangeSpec) : _root_.Go.OpenSpec := { _root_.Go.OpenSpec.ofChange s with cond := some uptoSmall }

/-- 'laws.FnIsNormal', WHERE WHAT IT READS IS OF BULK AT MOST 1048576: true; the input reads as it did. -/
def fnIsNormalUptoRow : OpenClaim := { program := "ytcpbhkgdeaanmaa", sum := "08d2b41f9d3c4165a44a1a4e198304fcb3aece66e4ca8d5a46bf4fd960d19a1c", func := "loop.example/docalgebra/laws.FnIsNormal", spec := "fnIsNormal", inPlace := ["internal/bytealg.IndexByteString"], unfollowed := true, recurses := true, plainKeys := false, apart := false, narrowed := true }
def FnIsNormalUptoSaid : Prop := fnIsNormalUptoRow.holds Try.pinned (OpenSpec.upto fnIsNormalSpec)

/-- 'laws.FnTurnRight', WHERE WHAT IT READS IS OF BULK AT MOST 1048576: true; the input reads as it did. -/
def fnTurnRightUptoRow : OpenClaim := { program := "ytcpbhkgdeaanmaa", sum := "08d2b41f9d3c4165a44a1a4e198304fcb3aece66e4ca8d5a46bf4fd960d19a1c", func := "loop.example/docalgebra/laws.FnTurnRight", spec := "fnTurnRight", inPlace := ["internal/bytealg.IndexByteString", "internal/abi.NoEscape"], unfollowed := true, recurses := true, plainKeys := false, apart := false, narrowed := true }
def FnTurnRightUptoSaid : Prop := fnTurnRightUptoRow.holds Try.pinned (OpenSpec.upto fnTurnRightSpec)

/-- 'laws.FnDropGroups', WHERE WHAT IT READS IS OF BULK AT MOST 1048576: true; the input reads as it did. -/
def fnDropGroupsUptoRow : OpenClaim := { program := "ytcpbhkgdeaanmaa", sum := "08d2b41f9d3c4165a44a1a4e198304fcb3aece66e4ca8d5a46bf4fd960d19a1c", func := "loop.example/docalgebra/laws.FnDropGroups", spec := "fnDropGroups", inPlace := ["internal/bytealg.IndexByteString", "internal/abi.NoEscape"], unfollowed := true, recurses := true, plainKeys := false, apart := false, narrowed := true }
def FnDropGroupsUptoSaid : Prop := fnDropGroupsUptoRow.holds Try.pinned (OpenSpec.upto fnDropGroupsSpec)

/-- 'laws.FnFuseText', WHERE WHAT IT READS IS OF BULK AT MOST 1048576: true; the input reads as it did. -/
def fnFuseTextUptoRow : OpenClaim := { program := "ytcpbhkgdeaanmaa", sum := "08d2b41f9d3c4165a44a1a4e198304fcb3aece66e4ca8d5a46bf4fd960d19a1c", func := "loop.example/docalgebra/laws.FnFuseText", spec := "fnFuseText", inPlace := ["internal/bytealg.IndexByteString", "internal/abi.NoEscape"], unfollowed := true, recurses := true, plainKeys := false, apart := false, narrowed := true }
def FnFuseTextUptoSaid : Prop := fnFuseTextUptoRow.holds Try.pinned (OpenSpec.upto fnFuseTextSpec)

/-- 'laws.FnDropEmpty', WHERE WHAT IT READS IS OF BULK AT MOST 1048576: true; the input reads as it did. -/
def fnDropEmptyUptoRow : OpenClaim := { program := "ytcpbhkgdeaanmaa", sum := "08d2b41f9d3c4165a44a1a4e198304fcb3aece66e4ca8d5a46bf4fd960d19a1c", func := "loop.example/docalgebra/laws.FnDropEmpty", spec := "fnDropEmpty", inPlace := ["internal/bytealg.IndexByteString", "internal/abi.NoEscape"], unfollowed := true, recurses := true, plainKeys := false, apart := false, narrowed := true }
def FnDropEmptyUptoSaid : Prop := fnDropEmptyUptoRow.holds Try.pinned (OpenSpec.upto fnDropEmptySpec)

/-- 'laws.FnFuseTwice', WHERE WHAT IT READS IS OF BULK AT MOST 1048576: true; the input reads as it did. -/
def fnFuseTwiceUptoRow : OpenClaim := { program := "ytcpbhkgdeaanmaa", sum := "08d2b41f9d3c4165a44a1a4e198304fcb3aece66e4ca8d5a46bf4fd960d19a1c", func := "loop.example/docalgebra/laws.FnFuseTwice", spec := "fnFuseTwice", inPlace := ["internal/bytealg.IndexByteString"], unfollowed := true, recurses := true, plainKeys := false, apart := false, narrowed := true }
def FnFuseTwiceUptoSaid : Prop := fnFuseTwiceUptoRow.holds Try.pinned (OpenSpec.upto fnFuseTwiceSpec)

/-- 'laws.FnExactFuseText', WHERE WHAT IT READS IS OF BULK AT MOST 1048576: true; the input reads as it did. -/
def fnExactFuseTextUptoRow : OpenClaim := { program := "ytcpbhkgdeaanmaa", sum := "08d2b41f9d3c4165a44a1a4e198304fcb3aece66e4ca8d5a46bf4fd960d19a1c", func := "loop.example/docalgebra/laws.FnExactFuseText", spec := "fnExactFuseText", inPlace := ["internal/bytealg.IndexByteString"], unfollowed := true, recurses := true, loops := true, plainKeys := false, apart := false, narrowed := true }
def FnExactFuseTextUptoSaid : Prop := fnExactFuseTextUptoRow.holds Try.pinned (OpenSpec.upto fnExactFuseTextSpec)

/-- 'laws.FnExactNormalDoc', WHERE WHAT IT READS IS OF BULK AT MOST 1048576: true; the input reads as it did. -/
def fnExactNormalDocUptoRow : OpenClaim := { program := "ytcpbhkgdeaanmaa", sum := "08d2b41f9d3c4165a44a1a4e198304fcb3aece66e4ca8d5a46bf4fd960d19a1c", func := "loop.example/docalgebra/laws.FnExactNormalDoc", spec := "fnExactNormalDoc", inPlace := ["internal/bytealg.IndexByteString"], unfollowed := true, recurses := true, loops := true, plainKeys := false, apart := false, narrowed := true }
def FnExactNormalDocUptoSaid : Prop := fnExactNormalDocUptoRow.holds Try.pinned (OpenSpec.upto fnExactNormalDocSpec)

/-- 'laws.FnExactIsNormal', WHERE WHAT IT READS IS OF BULK AT MOST 1048576: true; the input reads as it did. -/
def fnExactIsNormalUptoRow : OpenClaim := { program := "ytcpbhkgdeaanmaa", sum := "08d2b41f9d3c4165a44a1a4e198304fcb3aece66e4ca8d5a46bf4fd960d19a1c", func := "loop.example/docalgebra/laws.FnExactIsNormal", spec := "fnExactIsNormal", inPlace := ["internal/bytealg.IndexByteString"], unfollowed := true, recurses := true, loops := true, plainKeys := false, apart := false, narrowed := true }
def FnExactIsNormalUptoSaid : Prop := fnExactIsNormalUptoRow.holds Try.pinned (OpenSpec.upto fnExactIsNormalSpec)

end Rows
end Go.Proofs.Ytcpbhkgdeaanmaa
