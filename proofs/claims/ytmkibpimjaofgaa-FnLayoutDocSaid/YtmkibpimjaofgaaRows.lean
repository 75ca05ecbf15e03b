/-
  NARROWER THAN 'FOR EVERY INPUT', by the rows' own cells (each row's printed sentence says how): FnExactSameOpen: loops · FnExactWithoutGroups: loops · FnExactOnlyLayout: loops · FnExactSameLayouts: loops · FnExactSameRenders: loops · FnExactFirstWidth: loops.
  DERIVED. THE GIVEN ROWS OF THIS SEAT. 13 by the template 'for every input the law returns true; each argument reads behind the call as it read before'; 0 by the template 'total and deterministic' (their statements: YtmkibpimjaofgaaTotals.lean).
  GIVEN WITH THE SEED: the statements are not yours to turn. If you find one false, say at which input.
  Laid BY PROGRAM, IN A SANDBOX (cutbox-rows.mjs): the forced cells as the released guide's own fill.sh prints them over the translation be8e879337527666… (all of the seat's roots in one cut). By AI agents, Wed Nov 11 2026. No macro, syntax, notation, axiom, sorry.
-/
import Derived.Test.YtmkibpimjaofgaaChecked
import GoSem.Claim
import GoSem.ClaimJoined
import GoSem.ClaimMapViews
import Derived.JoinedTies
import Derived.KernelRfl
namespace Go.Proofs.Ytmkibpimjaofgaa
/- THE CELL 'sum', in the pinned program and in every row, IS THE sha256 OF THE DUMP (.gsa) THAT YtmkibpimjaofgaaProg.lean LOADS. Nothing in Lean hashes anything: it is a label: what it is worth is what the hold of that sum in a sandbox is worth. -/
noncomputable def Try.pinned : Pinned := { name := "ytmkibpimjaofgaa", sum := "be8e8793375276662b4a9443a4f6a10e0de4527d9441f01a530bab5e21c94eaa", checked := Try.checked }
namespace Rows
def none {H : Type} : Left H := { results := [], args := [] }

/-- 'laws.FnExactSameOpen': WHATEVER THE INPUT: true; the input reads as it did. -/
def fnExactSameOpenSpec : ChangeSpec := { name := "fnExactSameOpen", fn := fun _ => fun
  | [d1, d2] => { results := [.lit (.bool true)], args := [d1, d2] }
  | _ => none }
def fnExactSameOpenRow : OpenClaim := { program := "ytmkibpimjaofgaa", sum := "be8e8793375276662b4a9443a4f6a10e0de4527d9441f01a530bab5e21c94eaa", func := "loop.example/docalgebra/laws.FnExactSameOpen", spec := "fnExactSameOpen", inPlace := ["internal/bytealg.IndexByteString"], recurses := true, loops := true, plainKeys := false, apart := false }
def FnExactSameOpenSaid : Prop := fnExactSameOpenRow.holds Try.pinned (OpenSpec.ofChange fnExactSameOpenSpec)

/-- ITS FALSE NEIGHBOUR: 'it returns false'. Refute it at one input. -/
def fnExactSameOpenWrong : ChangeSpec := { name := "fnExactSameOpen", fn := fun _ => fun
  | [d1, d2] => { results := [.lit (.bool false)], args := [d1, d2] }
  | _ => none }
def FnExactSameOpenWrongFalsely : Prop := fnExactSameOpenRow.holds Try.pinned (OpenSpec.ofChange fnExactSameOpenWrong)

/-- 'laws.FnExactWithoutGroups': WHATEVER THE INPUT: true; the input reads as it did. -/
def fnExactWithoutGroupsSpec : ChangeSpec := { name := "fnExactWithoutGroups", fn := fun _ => fun
  | [d] => { results := [.lit (.bool true)], args := [d] }
  | _ => none }
def fnExactWithoutGroupsRow : OpenClaim := { program := "ytmkibpimjaofgaa", sum := "be8e8793375276662b4a9443a4f6a10e0de4527d9441f01a530bab5e21c94eaa", func := "loop.example/docalgebra/laws.FnExactWithoutGroups", spec := "fnExactWithoutGroups", inPlace := ["internal/bytealg.IndexByteString"], unfollowed := true, recurses := true, loops := true, plainKeys := false, apart := false }
def FnExactWithoutGroupsSaid : Prop := fnExactWithoutGroupsRow.holds Try.pinned (OpenSpec.ofChange fnExactWithoutGroupsSpec)

/-- ITS FALSE NEIGHBOUR: 'it returns false'. Refute it at one input. -/
def fnExactWithoutGroupsWrong : ChangeSpec := { name := "fnExactWithoutGroups", fn := fun _ => fun
  | [d] => { results := [.lit (.bool false)], args := [d] }
  | _ => none }
def FnExactWithoutGroupsWrongFalsely : Prop := fnExactWithoutGroupsRow.holds Try.pinned (OpenSpec.ofChange fnExactWithoutGroupsWrong)

/-- 'laws.FnExactOnlyLayout': WHATEVER THE INPUT: true; the input reads as it did. -/
def fnExactOnlyLayoutSpec : ChangeSpec := { name := "fnExactOnlyLayout", fn := fun _ => fun
  | [d1, d2] => { results := [.lit (.bool true)], args := [d1, d2] }
  | _ => none }
def fnExactOnlyLayoutRow : OpenClaim := { program := "ytmkibpimjaofgaa", sum := "be8e8793375276662b4a9443a4f6a10e0de4527d9441f01a530bab5e21c94eaa", func := "loop.example/docalgebra/laws.FnExactOnlyLayout", spec := "fnExactOnlyLayout", inPlace := ["internal/bytealg.IndexByteString", "internal/abi.NoEscape"], unfollowed := true, recurses := true, loops := true, plainKeys := false, apart := false }
def FnExactOnlyLayoutSaid : Prop := fnExactOnlyLayoutRow.holds Try.pinned (OpenSpec.ofChange fnExactOnlyLayoutSpec)

/-- ITS FALSE NEIGHBOUR: 'it returns false'. Refute it at one input. -/
def fnExactOnlyLayoutWrong : ChangeSpec := { name := "fnExactOnlyLayout", fn := fun _ => fun
  | [d1, d2] => { results := [.lit (.bool false)], args := [d1, d2] }
  | _ => none }
def FnExactOnlyLayoutWrongFalsely : Prop := fnExactOnlyLayoutRow.holds Try.pinned (OpenSpec.ofChange fnExactOnlyLayoutWrong)

/-- 'laws.FnExactSameLayouts': WHATEVER THE INPUT: true; the input reads as it did. -/
def fnExactSameLayoutsSpec : ChangeSpec := { name := "fnExactSameLayouts", fn := fun _ => fun
  | [d1, d2] => { results := [.lit (.bool true)], args := [d1, d2] }
  | _ => none }
def fnExactSameLayoutsRow : OpenClaim := { program := "ytmkibpimjaofgaa", sum := "be8e8793375276662b4a9443a4f6a10e0de4527d9441f01a530bab5e21c94eaa", func := "loop.example/docalgebra/laws.FnExactSameLayouts", spec := "fnExactSameLayouts", inPlace := ["internal/bytealg.IndexByteString", "internal/abi.NoEscape"], unfollowed := true, recurses := true, loops := true, plainKeys := false, apart := false }
def FnExactSameLayoutsSaid : Prop := fnExactSameLayoutsRow.holds Try.pinned (OpenSpec.ofChange fnExactSameLayoutsSpec)

/-- ITS FALSE NEIGHBOUR: 'it returns false'. Refute it at one input. -/
def fnExactSameLayoutsWrong : ChangeSpec := { name := "fnExactSameLayouts", fn := fun _ => fun
  | [d1, d2] => { results := [.lit (.bool false)], args := [d1, d2] }
  | _ => none }
def FnExactSameLayoutsWrongFalsely : Prop := fnExactSameLayoutsRow.holds Try.pinned (OpenSpec.ofChange fnExactSameLayoutsWrong)

/-- 'laws.FnExactSameRenders': WHATEVER THE INPUT: true; the input reads as it did. -/
def fnExactSameRendersSpec : ChangeSpec := { name := "fnExactSameRenders", fn := fun _ => fun
  | [d1, d2] => { results := [.lit (.bool true)], args := [d1, d2] }
  | _ => none }
def fnExactSameRendersRow : OpenClaim := { program := "ytmkibpimjaofgaa", sum := "be8e8793375276662b4a9443a4f6a10e0de4527d9441f01a530bab5e21c94eaa", func := "loop.example/docalgebra/laws.FnExactSameRenders", spec := "fnExactSameRenders", inPlace := ["internal/bytealg.IndexByteString", "internal/abi.NoEscape"], unfollowed := true, recurses := true, loops := true, plainKeys := false, apart := false }
def FnExactSameRendersSaid : Prop := fnExactSameRendersRow.holds Try.pinned (OpenSpec.ofChange fnExactSameRendersSpec)

/-- ITS FALSE NEIGHBOUR: 'it returns false'. Refute it at one input. -/
def fnExactSameRendersWrong : ChangeSpec := { name := "fnExactSameRenders", fn := fun _ => fun
  | [d1, d2] => { results := [.lit (.bool false)], args := [d1, d2] }
  | _ => none }
def FnExactSameRendersWrongFalsely : Prop := fnExactSameRendersRow.holds Try.pinned (OpenSpec.ofChange fnExactSameRendersWrong)

/-- 'laws.FnExactFirstWidth': WHATEVER THE INPUT: true; the input reads as it did. -/
def fnExactFirstWidthSpec : ChangeSpec := { name := "fnExactFirstWidth", fn := fun _ => fun
  | [d1, d2] => { results := [.lit (.bool true)], args := [d1, d2] }
  | _ => none }
def fnExactFirstWidthRow : OpenClaim := { program := "ytmkibpimjaofgaa", sum := "be8e8793375276662b4a9443a4f6a10e0de4527d9441f01a530bab5e21c94eaa", func := "loop.example/docalgebra/laws.FnExactFirstWidth", spec := "fnExactFirstWidth", inPlace := ["internal/bytealg.IndexByteString", "internal/abi.NoEscape"], unfollowed := true, recurses := true, loops := true, plainKeys := false, apart := false }
def FnExactFirstWidthSaid : Prop := fnExactFirstWidthRow.holds Try.pinned (OpenSpec.ofChange fnExactFirstWidthSpec)

/-- ITS FALSE NEIGHBOUR: 'it returns false'. Refute it at one input. -/
def fnExactFirstWidthWrong : ChangeSpec := { name := "fnExactFirstWidth", fn := fun _ => fun
  | [d1, d2] => { results := [.lit (.bool false)], args := [d1, d2] }
  | _ => none }
def FnExactFirstWidthWrongFalsely : Prop := fnExactFirstWidthRow.holds Try.pinned (OpenSpec.ofChange fnExactFirstWidthWrong)

/-- 'laws.FnExactLayoutDoc': WHATEVER THE INPUT: true; the input reads as it did. -/
def fnExactLayoutDocSpec : ChangeSpec := { name := "fnExactLayoutDoc", fn := fun _ => fun
  | [d] => { results := [.lit (.bool true)], args := [d] }
  | _ => none }
def fnExactLayoutDocRow : OpenClaim := { program := "ytmkibpimjaofgaa", sum := "be8e8793375276662b4a9443a4f6a10e0de4527d9441f01a530bab5e21c94eaa", func := "loop.example/docalgebra/laws.FnExactLayoutDoc", spec := "fnExactLayoutDoc", inPlace := ["internal/bytealg.IndexByteString"], unfollowed := true, recurses := true, plainKeys := false, apart := false }
def FnExactLayoutDocSaid : Prop := fnExactLayoutDocRow.holds Try.pinned (OpenSpec.ofChange fnExactLayoutDocSpec)

/-- ITS FALSE NEIGHBOUR: 'it returns false'. Refute it at one input. -/
def fnExactLayoutDocWrong : ChangeSpec := { name := "fnExactLayoutDoc", fn := fun _ => fun
  | [d] => { results := [.lit (.bool false)], args := [d] }
  | _ => none }
def FnExactLayoutDocWrongFalsely : Prop := fnExactLayoutDocRow.holds Try.pinned (OpenSpec.ofChange fnExactLayoutDocWrong)

/-- 'laws.FnWithoutGroups': WHATEVER THE INPUT: true; the input reads as it did. -/
def fnWithoutGroupsSpec : ChangeSpec := { name := "fnWithoutGroups", fn := fun _ => fun
  | [d] => { results := [.lit (.bool true)], args := [d] }
  | _ => none }
def fnWithoutGroupsRow : OpenClaim := { program := "ytmkibpimjaofgaa", sum := "be8e8793375276662b4a9443a4f6a10e0de4527d9441f01a530bab5e21c94eaa", func := "loop.example/docalgebra/laws.FnWithoutGroups", spec := "fnWithoutGroups", inPlace := ["internal/bytealg.IndexByteString", "internal/abi.NoEscape"], unfollowed := true, recurses := true, plainKeys := false, apart := false }
def FnWithoutGroupsSaid : Prop := fnWithoutGroupsRow.holds Try.pinned (OpenSpec.ofChange fnWithoutGroupsSpec)

/-- ITS FALSE NEIGHBOUR: 'it returns false'. Refute it at one input. -/
def fnWithoutGroupsWrong : ChangeSpec := { name := "fnWithoutGroups", fn := fun _ => fun
  | [d] => { results := [.lit (.bool false)], args := [d] }
  | _ => none }
def FnWithoutGroupsWrongFalsely : Prop := fnWithoutGroupsRow.holds Try.pinned (OpenSpec.ofChange fnWithoutGroupsWrong)

/-- 'laws.FnBareSame': WHATEVER THE INPUT: true; the input reads as it did. -/
def fnBareSameSpec : ChangeSpec := { name := "fnBareSame", fn := fun _ => fun
  | [d] => { results := [.lit (.bool true)], args := [d] }
  | _ => none }
def fnBareSameRow : OpenClaim := { program := "ytmkibpimjaofgaa", sum := "be8e8793375276662b4a9443a4f6a10e0de4527d9441f01a530bab5e21c94eaa", func := "loop.example/docalgebra/laws.FnBareSame", spec := "fnBareSame", inPlace := ["internal/bytealg.IndexByteString"], unfollowed := true, recurses := true, plainKeys := false, apart := false }
def FnBareSameSaid : Prop := fnBareSameRow.holds Try.pinned (OpenSpec.ofChange fnBareSameSpec)

/-- ITS FALSE NEIGHBOUR: 'it returns false'. Refute it at one input. -/
def fnBareSameWrong : ChangeSpec := { name := "fnBareSame", fn := fun _ => fun
  | [d] => { results := [.lit (.bool false)], args := [d] }
  | _ => none }
def FnBareSameWrongFalsely : Prop := fnBareSameRow.holds Try.pinned (OpenSpec.ofChange fnBareSameWrong)

/-- 'laws.FnGroupsTwice': WHATEVER THE INPUT: true; the input reads as it did. -/
def fnGroupsTwiceSpec : ChangeSpec := { name := "fnGroupsTwice", fn := fun _ => fun
  | [d] => { results := [.lit (.bool true)], args := [d] }
  | _ => none }
def fnGroupsTwiceRow : OpenClaim := { program := "ytmkibpimjaofgaa", sum := "be8e8793375276662b4a9443a4f6a10e0de4527d9441f01a530bab5e21c94eaa", func := "loop.example/docalgebra/laws.FnGroupsTwice", spec := "fnGroupsTwice", inPlace := ["internal/bytealg.IndexByteString"], unfollowed := true, recurses := true, plainKeys := false, apart := false }
def FnGroupsTwiceSaid : Prop := fnGroupsTwiceRow.holds Try.pinned (OpenSpec.ofChange fnGroupsTwiceSpec)

/-- ITS FALSE NEIGHBOUR: 'it returns false'. Refute it at one input. -/
def fnGroupsTwiceWrong : ChangeSpec := { name := "fnGroupsTwice", fn := fun _ => fun
  | [d] => { results := [.lit (.bool false)], args := [d] }
  | _ => none }
def FnGroupsTwiceWrongFalsely : Prop := fnGroupsTwiceRow.holds Try.pinned (OpenSpec.ofChange fnGroupsTwiceWrong)

/-- 'laws.FnLayoutDoc': WHATEVER THE INPUT: true; the input reads as it did. -/
def fnLayoutDocSpec : ChangeSpec := { name := "fnLayoutDoc", fn := fun _ => fun
  | [d] => { results := [.lit (.bool true)], args := [d] }
  | _ => none }
def fnLayoutDocRow : OpenClaim := { program := "ytmkibpimjaofgaa", sum := "be8e8793375276662b4a9443a4f6a10e0de4527d9441f01a530bab5e21c94eaa", func := "loop.example/docalgebra/laws.FnLayoutDoc", spec := "fnLayoutDoc", inPlace := ["internal/bytealg.IndexByteString"], unfollowed := true, recurses := true, plainKeys := false, apart := false }
def FnLayoutDocSaid : Prop := fnLayoutDocRow.holds Try.pinned (OpenSpec.ofChange fnLayoutDocSpec)

/-- ITS FALSE NEIGHBOUR: 'it returns false'. Refute it at one input. -/
def fnLayoutDocWrong : ChangeSpec := { name := "fnLayoutDoc", fn := fun _ => fun
  | [d] => { results := [.lit (.bool false)], args := [d] }
  | _ => none }
def FnLayoutDocWrongFalsely : Prop := fnLayoutDocRow.holds Try.pinned (OpenSpec.ofChange fnLayoutDocWrong)

/-- 'laws.FnNormalOpen': WHATEVER THE INPUT: true; the input reads as it did. -/
def fnNormalOpenSpec : ChangeSpec := { name := "fnNormalOpen", fn := fun _ => fun
  | [d] => { results := [.lit (.bool true)], args := [d] }
  | _ => none }
def fnNormalOpenRow : OpenClaim := { program := "ytmkibpimjaofgaa", sum := "be8e8793375276662b4a9443a4f6a10e0de4527d9441f01a530bab5e21c94eaa", func := "loop.example/docalgebra/laws.FnNormalOpen", spec := "fnNormalOpen", inPlace := ["internal/bytealg.IndexByteString"], unfollowed := true, recurses := true, plainKeys := false, apart := false }
def FnNormalOpenSaid : Prop := fnNormalOpenRow.holds Try.pinned (OpenSpec.ofChange fnNormalOpenSpec)

/-- ITS FALSE NEIGHBOUR: 'it returns false'. Refute it at one input. -/
def fnNormalOpenWrong : ChangeSpec := { name := "fnNormalOpen", fn := fun _ => fun
  | [d] => { results := [.lit (.bool false)], args := [d] }
  | _ => none }
def FnNormalOpenWrongFalsely : Prop := fnNormalOpenRow.holds Try.pinned (OpenSpec.ofChange fnNormalOpenWrong)

/-- 'laws.FnLayoutBack': WHATEVER THE INPUT: true; the input reads as it did. -/
def fnLayoutBackSpec : ChangeSpec := { name := "fnLayoutBack", fn := fun _ => fun
  | [d] => { results := [.lit (.bool true)], args := [d] }
  | _ => none }
def fnLayoutBackRow : OpenClaim := { program := "ytmkibpimjaofgaa", sum := "be8e8793375276662b4a9443a4f6a10e0de4527d9441f01a530bab5e21c94eaa", func := "loop.example/docalgebra/laws.FnLayoutBack", spec := "fnLayoutBack", inPlace := ["internal/bytealg.IndexByteString", "internal/abi.NoEscape"], unfollowed := true, recurses := true, plainKeys := false, apart := false }
def FnLayoutBackSaid : Prop := fnLayoutBackRow.holds Try.pinned (OpenSpec.ofChange fnLayoutBackSpec)

/-- ITS FALSE NEIGHBOUR: 'it returns false'. Refute it at one input. -/
def fnLayoutBackWrong : ChangeSpec := { name := "fnLayoutBack", fn := fun _ => fun
  | [d] => { results := [.lit (.bool false)], args := [d] }
  | _ => none }
def FnLayoutBackWrongFalsely : Prop := fnLayoutBackRow.holds Try.pinned (OpenSpec.ofChange fnLayoutBackWrong)

/- THE SECOND FORM. 'bulk': how many values and letters a reading holds, each counted each time it is reached (what is shared counts as often as it is met; a slice's spare places count too). A statement '..UptoSaid' is the law's where the arguments, and the package variables that the reading takes, are together of bulk at most 1048576: NARROWER than '..Said'. Prove '..Said' where nothing that the law and all that it calls make is longer than what came in: it says more and counts as full. Else prove '..UptoSaid'. A law counts once. -/
mutual
def uptoBulk {H : Type} : DataW H → Nat
  | .lit (.string bytes) => bytes.length + 1
  | .lit _ => 1
  | .nil => 1
  | .ptr d => uptoBulk d + 1
  | .slice elems spare => uptoBulkAll elems + uptoBulkAll spare + 1
  | .agg parts => uptoBulkAll parts + 1
  | .iface _ d => uptoBulk d + 1
  | .map entries => uptoBulkEntries entries + 1
  | .held _ => 1
def uptoBulkAll {H : Type} : List (DataW H) → Nat
  | [] => 0
  | d :: r => uptoBulk d + uptoBulkAll r
def uptoBulkEntries {H : Type} : List (Lit × DataW H) → Nat
  | [] => 0
  | x :: r => uptoBulkEntry x + uptoBulkEntries r
def uptoBulkEntry {H : Type} : Lit × DataW H → Nat
  | (.string bytes, d) => bytes.length + uptoBulk d + 1
  | (_, d) => uptoBulk d + 1
 end
def uptoSmall : (H : Type) → List (DataW H) → Bool := fun _ ds => decide (uptoBulkAll ds ≤ 1048576)
def OpenSpec.upto (s : _root_.Go.ChangeSpec) : _root_.Go.OpenSpec := { _root_.Go.OpenSpec.ofChange s with cond := some uptoSmall }

/-- 'laws.FnExactSameOpen', WHERE WHAT IT READS IS OF BULK AT MOST 1048576: true; the input reads as it did. -/
def fnExactSameOpenUptoRow : OpenClaim := { program := "ytmkibpimjaofgaa", sum := "be8e8793375276662b4a9443a4f6a10e0de4527d9441f01a530bab5e21c94eaa", func := "loop.example/docalgebra/laws.FnExactSameOpen", spec := "fnExactSameOpen", inPlace := ["internal/bytealg.IndexByteString"], recurses := true, loops := true, plainKeys := false, apart := false, narrowed := true }
def FnExactSameOpenUptoSaid : Prop := fnExactSameOpenUptoRow.holds Try.pinned (OpenSpec.upto fnExactSameOpenSpec)

/-- 'laws.FnExactWithoutGroups', WHERE WHAT IT READS IS OF BULK AT MOST 1048576: true; the input reads as it did. -/
def fnExactWithoutGroupsUptoRow : OpenClaim := { program := "ytmkibpimjaofgaa", sum := "be8e8793375276662b4a9443a4f6a10e0de4527d9441f01a530bab5e21c94eaa", func := "loop.example/docalgebra/laws.FnExactWithoutGroups", spec := "fnExactWithoutGroups", inPlace := ["internal/bytealg.IndexByteString"], unfollowed := true, recurses := true, loops := true, plainKeys := false, apart := false, narrowed := true }
def FnExactWithoutGroupsUptoSaid : Prop := fnExactWithoutGroupsUptoRow.holds Try.pinned (OpenSpec.upto fnExactWithoutGroupsSpec)

/-- 'laws.FnExactOnlyLayout', WHERE WHAT IT READS IS OF BULK AT MOST 1048576: true; the input reads as it did. -/
def fnExactOnlyLayoutUptoRow : OpenClaim := { program := "ytmkibpimjaofgaa", sum := "be8e8793375276662b4a9443a4f6a10e0de4527d9441f01a530bab5e21c94eaa", func := "loop.example/docalgebra/laws.FnExactOnlyLayout", spec := "fnExactOnlyLayout", inPlace := ["internal/bytealg.IndexByteString", "internal/abi.NoEscape"], unfollowed := true, recurses := true, loops := true, plainKeys := false, apart := false, narrowed := true }
def FnExactOnlyLayoutUptoSaid : Prop := fnExactOnlyLayoutUptoRow.holds Try.pinned (OpenSpec.upto fnExactOnlyLayoutSpec)

/-- 'laws.FnExactSameLayouts', WHERE WHAT IT READS IS OF BULK AT MOST 1048576: true; the input reads as it did. -/
def fnExactSameLayoutsUptoRow : OpenClaim := { program := "ytmkibpimjaofgaa", sum := "be8e8793375276662b4a9443a4f6a10e0de4527d9441f01a530bab5e21c94eaa", func := "loop.example/docalgebra/laws.FnExactSameLayouts", spec := "fnExactSameLayouts", inPlace := ["internal/bytealg.IndexByteString", "internal/abi.NoEscape"], unfollowed := true, recurses := true, loops := true, plainKeys := false, apart := false, narrowed := true }
def FnExactSameLayoutsUptoSaid : Prop := fnExactSameLayoutsUptoRow.holds Try.pinned (OpenSpec.upto fnExactSameLayoutsSpec)

/-- 'laws.FnExactSameRenders', WHERE WHAT IT READS IS OF BULK AT MOST 1048576: true; the input reads as it did. -/
def fnExactSameRendersUptoRow : OpenClaim := { program := "ytmkibpimjaofgaa", sum := "be8e8793375276662b4a9443a4f6a10e0de4527d9441f01a530bab5e21c94eaa", func := "loop.example/docalgebra/laws.FnExactSameRenders", spec := "fnExactSameRenders", inPlace := ["internal/bytealg.IndexByteString", "internal/abi.NoEscape"], unfollowed := true, recurses := true, loops := true, plainKeys := false, apart := false, narrowed := true }
def FnExactSameRendersUptoSaid : Prop := fnExactSameRendersUptoRow.holds Try.pinned (OpenSpec.upto fnExactSameRendersSpec)

/-- 'laws.FnExactFirstWidth', WHERE WHAT IT READS IS OF BULK AT MOST 1048576: true; the input reads as it did. -/
def fnExactFirstWidthUptoRow : OpenClaim := { program := "ytmkibpimjaofgaa", sum := "be8e8793375276662b4a9443a4f6a10e0de4527d9441f01a530bab5e21c94eaa", func := "loop.example/docalgebra/laws.FnExactFirstWidth", spec := "fnExactFirstWidth", inPlace := ["internal/bytealg.IndexByteString", "internal/abi.NoEscape"], unfollowed := true, recurses := true, loops := true, plainKeys := false, apart := false, narrowed := true }
def FnExactFirstWidthUptoSaid : Prop := fnExactFirstWidthUptoRow.holds Try.pinned (OpenSpec.upto fnExactFirstWidthSpec)

/-- 'laws.FnExactLayoutDoc', WHERE WHAT IT READS IS OF BULK AT MOST 1048576: true; the input reads as it did. -/
def fnExactLayoutDocUptoRow : OpenClaim := { program := "ytmkibpimjaofgaa", sum := "be8e8793375276662b4a9443a4f6a10e0de4527d9441f01a530bab5e21c94eaa", func := "loop.example/docalgebra/laws.FnExactLayoutDoc", spec := "fnExactLayoutDoc", inPlace := ["internal/bytealg.IndexByteString"], unfollowed := true, recurses := true, plainKeys := false, apart := false, narrowed := true }
def FnExactLayoutDocUptoSaid : Prop := fnExactLayoutDocUptoRow.holds Try.pinned (OpenSpec.upto fnExactLayoutDocSpec)

/-- 'laws.FnWithoutGroups', WHERE WHAT IT READS IS OF BULK AT MOST 1048576: true; the input reads as it did. -/
def fnWithoutGroupsUptoRow : OpenClaim := { program := "ytmkibpimjaofgaa", sum := "be8e8793375276662b4a9443a4f6a10e0de4527d9441f01a530bab5e21c94eaa", func := "loop.example/docalgebra/laws.FnWithoutGroups", spec := "fnWithoutGroups", inPlace := ["internal/bytealg.IndexByteString", "internal/abi.NoEscape"], unfollowed := true, recurses := true, plainKeys := false, apart := false, narrowed := true }
def FnWithoutGroupsUptoSaid : Prop := fnWithoutGroupsUptoRow.holds Try.pinned (OpenSpec.upto fnWithoutGroupsSpec)

/-- 'laws.FnBareSame', WHERE WHAT IT READS IS OF BULK AT MOST 1048576: true; the input reads as it did. -/
def fnBareSameUptoRow : OpenClaim := { program := "ytmkibpimjaofgaa", sum := "be8e8793375276662b4a9443a4f6a10e0de4527d9441f01a530bab5e21c94eaa", func := "loop.example/docalgebra/laws.FnBareSame", spec := "fnBareSame", inPlace := ["internal/bytealg.IndexByteString"], unfollowed := true, recurses := true, plainKeys := false, apart := false, narrowed := true }
def FnBareSameUptoSaid : Prop := fnBareSameUptoRow.holds Try.pinned (OpenSpec.upto fnBareSameSpec)

/-- 'laws.FnGroupsTwice', WHERE WHAT IT READS IS OF BULK AT MOST 1048576: true; the input reads as it did. -/
def fnGroupsTwiceUptoRow : OpenClaim := { program := "ytmkibpimjaofgaa", sum := "be8e8793375276662b4a9443a4f6a10e0de4527d9441f01a530bab5e21c94eaa", func := "loop.example/docalgebra/laws.FnGroupsTwice", spec := "fnGroupsTwice", inPlace := ["internal/bytealg.IndexByteString"], unfollowed := true, recurses := true, plainKeys := false, apart := false, narrowed := true }
def FnGroupsTwiceUptoSaid : Prop := fnGroupsTwiceUptoRow.holds Try.pinned (OpenSpec.upto fnGroupsTwiceSpec)

/-- 'laws.FnLayoutDoc', WHERE WHAT IT READS IS OF BULK AT MOST 1048576: true; the input reads as it did. -/
def fnLayoutDocUptoRow : OpenClaim := { program := "ytmkibpimjaofgaa", sum := "be8e8793375276662b4a9443a4f6a10e0de4527d9441f01a530bab5e21c94eaa", func := "loop.example/docalgebra/laws.FnLayoutDoc", spec := "fnLayoutDoc", inPlace := ["internal/bytealg.IndexByteString"], unfollowed := true, recurses := true, plainKeys := false, apart := false, narrowed := true }
def FnLayoutDocUptoSaid : Prop := fnLayoutDocUptoRow.holds Try.pinned (OpenSpec.upto fnLayoutDocSpec)

/-- 'laws.FnNormalOpen', WHERE WHAT IT READS IS OF BULK AT MOST 1048576: true; the input reads as it did. -/
def fnNormalOpenUptoRow : OpenClaim := { program := "ytmkibpimjaofgaa", sum := "be8e8793375276662b4a9443a4f6a10e0de4527d9441f01a530bab5e21c94eaa", func := "loop.example/docalgebra/laws.FnNormalOpen", spec := "fnNormalOpen", inPlace := ["internal/bytealg.IndexByteString"], unfollowed := true, recurses := true, plainKeys := false, apart := false, narrowed := true }
def FnNormalOpenUptoSaid : Prop := fnNormalOpenUptoRow.holds Try.pinned (OpenSpec.upto fnNormalOpenSpec)

/-- 'laws.FnLayoutBack', WHERE WHAT IT READS IS OF BULK AT MOST 1048576: true; the input reads as it did. -/
def fnLayoutBackUptoRow : OpenClaim := { program := "ytmkibpimjaofgaa", sum := "be8e8793375276662b4a9443a4f6a10e0de4527d9441f01a530bab5e21c94eaa", func := "loop.example/docalgebra/laws.FnLayoutBack", spec := "fnLayoutBack", inPlace := ["internal/bytealg.IndexByteString", "internal/abi.NoEscape"], unfollowed := true, recurses := true, plainKeys := false, apart := false, narrowed := true }
def FnLayoutBackUptoSaid : Prop := fnLayoutBackUptoRow.holds Try.pinned (OpenSpec.upto fnLayoutBackSpec)

end Rows
end Go.Proofs.Ytmkibpimjaofgaa
