/-
  No cell of these rows narrows 'for every input' (looked for: loops, veiled, ifaces, maps, wideKeys, modest, calm, conditions, laid).
  DERIVED. THE GIVEN ROWS OF THIS SEAT. 5 by the template 'for every input the law returns true; each argument reads behind the call as it read before'; 0 by the template 'total and deterministic' (their statements: YtjcaiecapapceaaTotals.lean).
  GIVEN WITH THE SEED: the statements are not yours to turn. If you find one false, say at which input.
  Laid BY PROGRAM, IN A SANDBOX (cutbox-rows.mjs): the forced cells as the released guide's own fill.sh prints them over the translation 077a4f5e155d67a4… (all of the seat's roots in one cut). By AI agents, Wed Nov 11 2026. No macro, syntax, notation, axiom, sorry.
-/
import Derived.Test.YtjcaiecapapceaaChecked
import GoSem.Claim
import GoSem.ClaimJoined
import GoSem.ClaimMapViews
import Derived.JoinedTies
import Derived.KernelRfl
namespace Go.Proofs.Ytjcaiecapapceaa
/- THE CELL 'sum', in the pinned program and in every row, IS THE sha256 OF THE DUMP (.gsa) THAT YtjcaiecapapceaaProg.lean LOADS. Nothing in Lean hashes anything: it is a label: what it is worth is what the hold of that sum in a sandbox is worth. -/
noncomputable def Try.pinned : Pinned := { name := "ytjcaiecapapceaa", sum := "077a4f5e155d67a4017667edb4dc9c5f8a5899bdfbde90e3788d4423c8a4a731", checked := Try.checked }
namespace Rows
def none {H : Type} : Left H := { results := [], args := [] }

/-- 'laws.FnRenderCat': WHATEVER THE INPUT: true; the input reads as it did. -/
def fnRenderCatSpec : ChangeSpec := { name := "fnRenderCat", fn := fun _ => fun
  | [d1, d2] => { results := [.lit (.bool true)], args := [d1, d2] }
  | _ => none }
def fnRenderCatRow : OpenClaim := { program := "ytjcaiecapapceaa", sum := "077a4f5e155d67a4017667edb4dc9c5f8a5899bdfbde90e3788d4423c8a4a731", func := "loop.example/docalgebra/laws.FnRenderCat", spec := "fnRenderCat", inPlace := ["internal/bytealg.IndexByteString", "internal/abi.NoEscape"], unfollowed := true, recurses := true, plainKeys := false, apart := false }
def FnRenderCatSaid : Prop := fnRenderCatRow.holds Try.pinned (OpenSpec.ofChange fnRenderCatSpec)

/-- ITS FALSE NEIGHBOUR: 'it returns false'. Refute it at one input. -/
def fnRenderCatWrong : ChangeSpec := { name := "fnRenderCat", fn := fun _ => fun
  | [d1, d2] => { results := [.lit (.bool false)], args := [d1, d2] }
  | _ => none }
def FnRenderCatWrongFalsely : Prop := fnRenderCatRow.holds Try.pinned (OpenSpec.ofChange fnRenderCatWrong)

/-- 'laws.FnDropGroups': WHATEVER THE INPUT: true; the input reads as it did. -/
def fnDropGroupsSpec : ChangeSpec := { name := "fnDropGroups", fn := fun _ => fun
  | [d] => { results := [.lit (.bool true)], args := [d] }
  | _ => none }
def fnDropGroupsRow : OpenClaim := { program := "ytjcaiecapapceaa", sum := "077a4f5e155d67a4017667edb4dc9c5f8a5899bdfbde90e3788d4423c8a4a731", func := "loop.example/docalgebra/laws.FnDropGroups", spec := "fnDropGroups", inPlace := ["internal/bytealg.IndexByteString", "internal/abi.NoEscape"], unfollowed := true, recurses := true, plainKeys := false, apart := false }
def FnDropGroupsSaid : Prop := fnDropGroupsRow.holds Try.pinned (OpenSpec.ofChange fnDropGroupsSpec)

/-- ITS FALSE NEIGHBOUR: 'it returns false'. Refute it at one input. -/
def fnDropGroupsWrong : ChangeSpec := { name := "fnDropGroups", fn := fun _ => fun
  | [d] => { results := [.lit (.bool false)], args := [d] }
  | _ => none }
def FnDropGroupsWrongFalsely : Prop := fnDropGroupsRow.holds Try.pinned (OpenSpec.ofChange fnDropGroupsWrong)

/-- 'laws.FnNormalOpen': WHATEVER THE INPUT: true; the input reads as it did. -/
def fnNormalOpenSpec : ChangeSpec := { name := "fnNormalOpen", fn := fun _ => fun
  | [d] => { results := [.lit (.bool true)], args := [d] }
  | _ => none }
def fnNormalOpenRow : OpenClaim := { program := "ytjcaiecapapceaa", sum := "077a4f5e155d67a4017667edb4dc9c5f8a5899bdfbde90e3788d4423c8a4a731", func := "loop.example/docalgebra/laws.FnNormalOpen", spec := "fnNormalOpen", inPlace := ["internal/bytealg.IndexByteString"], unfollowed := true, recurses := true, plainKeys := false, apart := false }
def FnNormalOpenSaid : Prop := fnNormalOpenRow.holds Try.pinned (OpenSpec.ofChange fnNormalOpenSpec)

/-- ITS FALSE NEIGHBOUR: 'it returns false'. Refute it at one input. -/
def fnNormalOpenWrong : ChangeSpec := { name := "fnNormalOpen", fn := fun _ => fun
  | [d] => { results := [.lit (.bool false)], args := [d] }
  | _ => none }
def FnNormalOpenWrongFalsely : Prop := fnNormalOpenRow.holds Try.pinned (OpenSpec.ofChange fnNormalOpenWrong)

/-- 'laws.FnFirstWidth': WHATEVER THE INPUT: true; the input reads as it did. -/
def fnFirstWidthSpec : ChangeSpec := { name := "fnFirstWidth", fn := fun _ => fun
  | [d] => { results := [.lit (.bool true)], args := [d] }
  | _ => none }
def fnFirstWidthRow : OpenClaim := { program := "ytjcaiecapapceaa", sum := "077a4f5e155d67a4017667edb4dc9c5f8a5899bdfbde90e3788d4423c8a4a731", func := "loop.example/docalgebra/laws.FnFirstWidth", spec := "fnFirstWidth", inPlace := ["internal/bytealg.IndexByteString", "internal/abi.NoEscape"], unfollowed := true, recurses := true, plainKeys := false, apart := false }
def FnFirstWidthSaid : Prop := fnFirstWidthRow.holds Try.pinned (OpenSpec.ofChange fnFirstWidthSpec)

/-- ITS FALSE NEIGHBOUR: 'it returns false'. Refute it at one input. -/
def fnFirstWidthWrong : ChangeSpec := { name := "fnFirstWidth", fn := fun _ => fun
  | [d] => { results := [.lit (.bool false)], args := [d] }
  | _ => none }
def FnFirstWidthWrongFalsely : Prop := fnFirstWidthRow.holds Try.pinned (OpenSpec.ofChange fnFirstWidthWrong)

/-- 'laws.FnWidthBack': WHATEVER THE INPUT: true; the input reads as it did. -/
def fnWidthBackSpec : ChangeSpec := { name := "fnWidthBack", fn := fun _ => fun
  | [d] => { results := [.lit (.bool true)], args := [d] }
  | _ => none }
def fnWidthBackRow : OpenClaim := { program := "ytjcaiecapapceaa", sum := "077a4f5e155d67a4017667edb4dc9c5f8a5899bdfbde90e3788d4423c8a4a731", func := "loop.example/docalgebra/laws.FnWidthBack", spec := "fnWidthBack", inPlace := ["internal/bytealg.IndexByteString", "internal/abi.NoEscape"], unfollowed := true, recurses := true, plainKeys := false, apart := false }
def FnWidthBackSaid : Prop := fnWidthBackRow.holds Try.pinned (OpenSpec.ofChange fnWidthBackSpec)

/-- ITS FALSE NEIGHBOUR: 'it returns false'. Refute it at one input. -/
def fnWidthBackWrong : ChangeSpec := { name := "fnWidthBack", fn := fun _ => fun
  | [d] => { results := [.lit (.bool false)], args := [d] }
  | _ => none }
def FnWidthBackWrongFalsely : Prop := fnWidthBackRow.holds Try.pinned (OpenSpec.ofChange fnWidthBackWrong)

/- THE SECOND FORM. 'bulk': how many values and letters a reading holds, each counted each time it is reached (what is shared counts as often as it is met; a slice's spare places count too). A statement '..UptoSaid' is the law's where the arguments, and the package variables that the reading takes, are together of bulk at most 1048576: NARROWER than '..Said'. Prove '..Said' where nothing that the law and all that it calls make is longer than what came in: it says more and counts as full. Else prove '..UptoSaid'. A law counts once. -/
mutual
def uptoBulk {H : Type} : DataW H → Nat
  | .lit (.string bytes) => bytes.length + 1
  | .lit _ => 1
  | .nil => 1
  | .ptr d => uptoBulk d + 1
  | .slice elems spare => uptoBulkAll elems + uptoBulkAll spare + 1
  | .agg parts => uptoBulkAll parts + 1
  | .iface _ d => uptoBulk d + 1
  | .map entries => uptoBulkEntries entries + 1
  | .held _ => 1
def uptoBulkAll {H : Type} : List (DataW H) → Nat
  | [] => 0
  | d :: r => uptoBulk d + uptoBulkAll r
def uptoBulkEntries {H : Type} : List (Lit × DataW H) → Nat
  | [] => 0
  | x :: r => uptoBulkEntry x + uptoBulkEntries r
def uptoBulkEntry {H : Type} : Lit × DataW H → Nat
  | (.string bytes, d) => bytes.length + uptoBulk d + 1
  | (_, d) => uptoBulk d + 1
 end
def uptoSmall : (H : Type) → List (DataW H) → Bool := fun _ ds => decide (uptoBulkAll ds ≤ 1048576)
def OpenSpec.upto (s : _root_.Go.ChangeSpec) : _root_.Go.OpenSpec := { _root_.Go.OpenSpec.ofChange s with cond := some uptoSmall }

/-- 'laws.FnRenderCat', WHERE WHAT IT READS IS OF BULK AT MOST 1048576: true; the input reads as it did. -/
def fnRenderCatUptoRow : OpenClaim := { program := "ytjcaiecapapceaa", sum := "077a4f5e155d67a4017667edb4dc9c5f8a5899bdfbde90e3788d4423c8a4a731", func := "loop.example/docalgebra/laws.FnRenderCat", spec := "fnRenderCat", inPlace := ["internal/bytealg.IndexByteString", "internal/abi.NoEscape"], unfollowed := true, recurses := true, plainKeys := false, apart := false, narrowed := true }
def FnRenderCatUptoSaid : Prop := fnRenderCatUptoRow.holds Try.pinned (OpenSpec.upto fnRenderCatSpec)

/-- 'laws.FnDropGroups', WHERE WHAT IT READS IS OF BULK AT MOST 1048576: true; the input reads as it did. -/
def fnDropGroupsUptoRow : OpenClaim := { program := "ytjcaiecapapceaa", sum := "077a4f5e155d67a4017667edb4dc9c5f8a5899bdfbde90e3788d4423c8a4a731", func := "loop.example/docalgebra/laws.FnDropGroups", spec := "fnDropGroups", inPlace := ["internal/bytealg.IndexByteString", "internal/abi.NoEscape"], unfollowed := true, recurses := true, plainKeys := false, apart := false, narrowed := true }
def FnDropGroupsUptoSaid : Prop := fnDropGroupsUptoRow.holds Try.pinned (OpenSpec.upto fnDropGroupsSpec)

/-- 'laws.FnNormalOpen', WHERE WHAT IT READS IS OF BULK AT MOST 1048576: true; the input reads as it did. -/
def fnNormalOpenUptoRow : OpenClaim := { program := "ytjcaiecapapceaa", sum := "077a4f5e155d67a4017667edb4dc9c5f8a5899bdfbde90e3788d4423c8a4a731", func := "loop.example/docalgebra/laws.FnNormalOpen", spec := "fnNormalOpen", inPlace := ["internal/bytealg.IndexByteString"], unfollowed := true, recurses := true, plainKeys := false, apart := false, narrowed := true }
def FnNormalOpenUptoSaid : Prop := fnNormalOpenUptoRow.holds Try.pinned (OpenSpec.upto fnNormalOpenSpec)

/-- 'laws.FnFirstWidth', WHERE WHAT IT READS IS OF BULK AT MOST 1048576: true; the input reads as it did. -/
def fnFirstWidthUptoRow : OpenClaim := { program := "ytjcaiecapapceaa", sum := "077a4f5e155d67a4017667edb4dc9c5f8a5899bdfbde90e3788d4423c8a4a731", func := "loop.example/docalgebra/laws.FnFirstWidth", spec := "fnFirstWidth", inPlace := ["internal/bytealg.IndexByteString", "internal/abi.NoEscape"], unfollowed := true, recurses := true, plainKeys := false, apart := false, narrowed := true }
def FnFirstWidthUptoSaid : Prop := fnFirstWidthUptoRow.holds Try.pinned (OpenSpec.upto fnFirstWidthSpec)

/-- 'laws.FnWidthBack', WHERE WHAT IT READS IS OF BULK AT MOST 1048576: true; the input reads as it did. -/
def fnWidthBackUptoRow : OpenClaim := { program := "ytjcaiecapapceaa", sum := "077a4f5e155d67a4017667edb4dc9c5f8a5899bdfbde90e3788d4423c8a4a731", func := "loop.example/docalgebra/laws.FnWidthBack", spec := "fnWidthBack", inPlace := ["internal/bytealg.IndexByteString", "internal/abi.NoEscape"], unfollowed := true, recurses := true, plainKeys := false, apart := false, narrowed := true }
def FnWidthBackUptoSaid : Prop := fnWidthBackUptoRow.holds Try.pinned (OpenSpec.upto fnWidthBackSpec)

end Rows
end Go.Proofs.Ytjcaiecapapceaa
