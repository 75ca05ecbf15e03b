/-
  NARROWER THAN 'FOR EVERY INPUT', by the rows' own cells (each row's printed sentence says how): FnExactCountChoices: loops · FnExactChoiceOf: loops · FnExactFlatWidth: loops · FnExactLeadWidth: loops.
  DERIVED. THE GIVEN ROWS OF THIS SEAT. 14 by the template 'for every input the law returns true; each argument reads behind the call as it read before'; 0 by the template 'total and deterministic' (their statements: YtlpmocdbmnpjcaaTotals.lean).
  GIVEN WITH THE SEED: the statements are not yours to turn. If you find one false, say at which input.
  Laid BY PROGRAM, IN A SANDBOX (cutbox-rows.mjs): the forced cells as the released guide's own fill.sh prints them over the translation fa5df8c244325ce5… (all of the seat's roots in one cut). By AI agents, Wed Nov 11 2026. No macro, syntax, notation, axiom, sorry.
-/
import Derived.Test.YtlpmocdbmnpjcaaChecked
import GoSem.Claim
import GoSem.ClaimJoined
import GoSem.ClaimMapViews
import Derived.JoinedTies
import Derived.KernelRfl
namespace Go.Proofs.Ytlpmocdbmnpjcaa
/- THE CELL 'sum', in the pinned program and in every row, IS THE sha256 OF THE DUMP (.gsa) THAT YtlpmocdbmnpjcaaProg.lean LOADS. Nothing in Lean hashes anything: it is a label: what it is worth is what the hold of that sum in a sandbox is worth. -/
noncomputable def Try.pinned : Pinned := { name := "ytlpmocdbmnpjcaa", sum := "fa5df8c244325ce52b20b2b8b22e12767bdbd7769a5b0dba104bba9883291476", checked := Try.checked }
namespace Rows
def none {H : Type} : Left H := { results := [], args := [] }

/-- 'laws.FnCatDocs': WHATEVER THE INPUT: true; the input reads as it did. -/
def fnCatDocsSpec : ChangeSpec := { name := "fnCatDocs", fn := fun _ => fun
  | [d] => { results := [.lit (.bool true)], args := [d] }
  | _ => none }
def fnCatDocsRow : OpenClaim := { program := "ytlpmocdbmnpjcaa", sum := "fa5df8c244325ce52b20b2b8b22e12767bdbd7769a5b0dba104bba9883291476", func := "loop.example/docalgebra/laws.FnCatDocs", spec := "fnCatDocs", inPlace := ["internal/bytealg.IndexByteString"], unfollowed := true, recurses := true, plainKeys := false, apart := false }
def FnCatDocsSaid : Prop := fnCatDocsRow.holds Try.pinned (OpenSpec.ofChange fnCatDocsSpec)

/-- ITS FALSE NEIGHBOUR: 'it returns false'. Refute it at one input. -/
def fnCatDocsWrong : ChangeSpec := { name := "fnCatDocs", fn := fun _ => fun
  | [d] => { results := [.lit (.bool false)], args := [d] }
  | _ => none }
def FnCatDocsWrongFalsely : Prop := fnCatDocsRow.holds Try.pinned (OpenSpec.ofChange fnCatDocsWrong)

/-- 'laws.FnCatSame': WHATEVER THE INPUT: true; the input reads as it did. -/
def fnCatSameSpec : ChangeSpec := { name := "fnCatSame", fn := fun _ => fun
  | [d1, d2] => { results := [.lit (.bool true)], args := [d1, d2] }
  | _ => none }
def fnCatSameRow : OpenClaim := { program := "ytlpmocdbmnpjcaa", sum := "fa5df8c244325ce52b20b2b8b22e12767bdbd7769a5b0dba104bba9883291476", func := "loop.example/docalgebra/laws.FnCatSame", spec := "fnCatSame", inPlace := ["internal/bytealg.IndexByteString"], recurses := true, plainKeys := false, apart := false }
def FnCatSameSaid : Prop := fnCatSameRow.holds Try.pinned (OpenSpec.ofChange fnCatSameSpec)

/-- ITS FALSE NEIGHBOUR: 'it returns false'. Refute it at one input. -/
def fnCatSameWrong : ChangeSpec := { name := "fnCatSame", fn := fun _ => fun
  | [d1, d2] => { results := [.lit (.bool false)], args := [d1, d2] }
  | _ => none }
def FnCatSameWrongFalsely : Prop := fnCatSameRow.holds Try.pinned (OpenSpec.ofChange fnCatSameWrong)

/-- 'laws.FnLastChoice': WHATEVER THE INPUT: true; the input reads as it did. -/
def fnLastChoiceSpec : ChangeSpec := { name := "fnLastChoice", fn := fun _ => fun
  | [d] => { results := [.lit (.bool true)], args := [d] }
  | _ => none }
def fnLastChoiceRow : OpenClaim := { program := "ytlpmocdbmnpjcaa", sum := "fa5df8c244325ce52b20b2b8b22e12767bdbd7769a5b0dba104bba9883291476", func := "loop.example/docalgebra/laws.FnLastChoice", spec := "fnLastChoice", inPlace := ["internal/bytealg.IndexByteString", "internal/abi.NoEscape"], unfollowed := true, recurses := true, plainKeys := false, apart := false }
def FnLastChoiceSaid : Prop := fnLastChoiceRow.holds Try.pinned (OpenSpec.ofChange fnLastChoiceSpec)

/-- ITS FALSE NEIGHBOUR: 'it returns false'. Refute it at one input. -/
def fnLastChoiceWrong : ChangeSpec := { name := "fnLastChoice", fn := fun _ => fun
  | [d] => { results := [.lit (.bool false)], args := [d] }
  | _ => none }
def FnLastChoiceWrongFalsely : Prop := fnLastChoiceRow.holds Try.pinned (OpenSpec.ofChange fnLastChoiceWrong)

/-- 'laws.FnChoiceCat': WHATEVER THE INPUT: true; the input reads as it did. -/
def fnChoiceCatSpec : ChangeSpec := { name := "fnChoiceCat", fn := fun _ => fun
  | [d] => { results := [.lit (.bool true)], args := [d] }
  | _ => none }
def fnChoiceCatRow : OpenClaim := { program := "ytlpmocdbmnpjcaa", sum := "fa5df8c244325ce52b20b2b8b22e12767bdbd7769a5b0dba104bba9883291476", func := "loop.example/docalgebra/laws.FnChoiceCat", spec := "fnChoiceCat", inPlace := ["internal/bytealg.IndexByteString", "internal/abi.NoEscape"], unfollowed := true, recurses := true, plainKeys := false, apart := false }
def FnChoiceCatSaid : Prop := fnChoiceCatRow.holds Try.pinned (OpenSpec.ofChange fnChoiceCatSpec)

/-- ITS FALSE NEIGHBOUR: 'it returns false'. Refute it at one input. -/
def fnChoiceCatWrong : ChangeSpec := { name := "fnChoiceCat", fn := fun _ => fun
  | [d] => { results := [.lit (.bool false)], args := [d] }
  | _ => none }
def FnChoiceCatWrongFalsely : Prop := fnChoiceCatRow.holds Try.pinned (OpenSpec.ofChange fnChoiceCatWrong)

/-- 'laws.FnChoiceNest': WHATEVER THE INPUT: true; the input reads as it did. -/
def fnChoiceNestSpec : ChangeSpec := { name := "fnChoiceNest", fn := fun _ => fun
  | [d] => { results := [.lit (.bool true)], args := [d] }
  | _ => none }
def fnChoiceNestRow : OpenClaim := { program := "ytlpmocdbmnpjcaa", sum := "fa5df8c244325ce52b20b2b8b22e12767bdbd7769a5b0dba104bba9883291476", func := "loop.example/docalgebra/laws.FnChoiceNest", spec := "fnChoiceNest", inPlace := ["internal/bytealg.IndexByteString", "internal/abi.NoEscape"], unfollowed := true, recurses := true, plainKeys := false, apart := false }
def FnChoiceNestSaid : Prop := fnChoiceNestRow.holds Try.pinned (OpenSpec.ofChange fnChoiceNestSpec)

/-- ITS FALSE NEIGHBOUR: 'it returns false'. Refute it at one input. -/
def fnChoiceNestWrong : ChangeSpec := { name := "fnChoiceNest", fn := fun _ => fun
  | [d] => { results := [.lit (.bool false)], args := [d] }
  | _ => none }
def FnChoiceNestWrongFalsely : Prop := fnChoiceNestRow.holds Try.pinned (OpenSpec.ofChange fnChoiceNestWrong)

/-- 'laws.FnChoiceLines': WHATEVER THE INPUT: true; the input reads as it did. -/
def fnChoiceLinesSpec : ChangeSpec := { name := "fnChoiceLines", fn := fun _ => fun
  | [d] => { results := [.lit (.bool true)], args := [d] }
  | _ => none }
def fnChoiceLinesRow : OpenClaim := { program := "ytlpmocdbmnpjcaa", sum := "fa5df8c244325ce52b20b2b8b22e12767bdbd7769a5b0dba104bba9883291476", func := "loop.example/docalgebra/laws.FnChoiceLines", spec := "fnChoiceLines", inPlace := ["internal/bytealg.IndexByteString", "internal/abi.NoEscape"], unfollowed := true, recurses := true, plainKeys := false, apart := false }
def FnChoiceLinesSaid : Prop := fnChoiceLinesRow.holds Try.pinned (OpenSpec.ofChange fnChoiceLinesSpec)

/-- ITS FALSE NEIGHBOUR: 'it returns false'. Refute it at one input. -/
def fnChoiceLinesWrong : ChangeSpec := { name := "fnChoiceLines", fn := fun _ => fun
  | [d] => { results := [.lit (.bool false)], args := [d] }
  | _ => none }
def FnChoiceLinesWrongFalsely : Prop := fnChoiceLinesRow.holds Try.pinned (OpenSpec.ofChange fnChoiceLinesWrong)

/-- 'laws.FnCountGroups': WHATEVER THE INPUT: true; the input reads as it did. -/
def fnCountGroupsSpec : ChangeSpec := { name := "fnCountGroups", fn := fun _ => fun
  | [d] => { results := [.lit (.bool true)], args := [d] }
  | _ => none }
def fnCountGroupsRow : OpenClaim := { program := "ytlpmocdbmnpjcaa", sum := "fa5df8c244325ce52b20b2b8b22e12767bdbd7769a5b0dba104bba9883291476", func := "loop.example/docalgebra/laws.FnCountGroups", spec := "fnCountGroups", inPlace := ["internal/bytealg.IndexByteString"], unfollowed := true, recurses := true, plainKeys := false, apart := false }
def FnCountGroupsSaid : Prop := fnCountGroupsRow.holds Try.pinned (OpenSpec.ofChange fnCountGroupsSpec)

/-- ITS FALSE NEIGHBOUR: 'it returns false'. Refute it at one input. -/
def fnCountGroupsWrong : ChangeSpec := { name := "fnCountGroups", fn := fun _ => fun
  | [d] => { results := [.lit (.bool false)], args := [d] }
  | _ => none }
def FnCountGroupsWrongFalsely : Prop := fnCountGroupsRow.holds Try.pinned (OpenSpec.ofChange fnCountGroupsWrong)

/-- 'laws.FnFlatWidth': WHATEVER THE INPUT: true; the input reads as it did. -/
def fnFlatWidthSpec : ChangeSpec := { name := "fnFlatWidth", fn := fun _ => fun
  | [d] => { results := [.lit (.bool true)], args := [d] }
  | _ => none }
def fnFlatWidthRow : OpenClaim := { program := "ytlpmocdbmnpjcaa", sum := "fa5df8c244325ce52b20b2b8b22e12767bdbd7769a5b0dba104bba9883291476", func := "loop.example/docalgebra/laws.FnFlatWidth", spec := "fnFlatWidth", inPlace := ["internal/bytealg.IndexByteString"], recurses := true, plainKeys := false, apart := false }
def FnFlatWidthSaid : Prop := fnFlatWidthRow.holds Try.pinned (OpenSpec.ofChange fnFlatWidthSpec)

/-- ITS FALSE NEIGHBOUR: 'it returns false'. Refute it at one input. -/
def fnFlatWidthWrong : ChangeSpec := { name := "fnFlatWidth", fn := fun _ => fun
  | [d] => { results := [.lit (.bool false)], args := [d] }
  | _ => none }
def FnFlatWidthWrongFalsely : Prop := fnFlatWidthRow.holds Try.pinned (OpenSpec.ofChange fnFlatWidthWrong)

/-- 'laws.FnLeadWidth': WHATEVER THE INPUT: true; the input reads as it did. -/
def fnLeadWidthSpec : ChangeSpec := { name := "fnLeadWidth", fn := fun _ => fun
  | [d] => { results := [.lit (.bool true)], args := [d] }
  | _ => none }
def fnLeadWidthRow : OpenClaim := { program := "ytlpmocdbmnpjcaa", sum := "fa5df8c244325ce52b20b2b8b22e12767bdbd7769a5b0dba104bba9883291476", func := "loop.example/docalgebra/laws.FnLeadWidth", spec := "fnLeadWidth", inPlace := ["internal/bytealg.IndexByteString"], recurses := true, plainKeys := false, apart := false }
def FnLeadWidthSaid : Prop := fnLeadWidthRow.holds Try.pinned (OpenSpec.ofChange fnLeadWidthSpec)

/-- ITS FALSE NEIGHBOUR: 'it returns false'. Refute it at one input. -/
def fnLeadWidthWrong : ChangeSpec := { name := "fnLeadWidth", fn := fun _ => fun
  | [d] => { results := [.lit (.bool false)], args := [d] }
  | _ => none }
def FnLeadWidthWrongFalsely : Prop := fnLeadWidthRow.holds Try.pinned (OpenSpec.ofChange fnLeadWidthWrong)

/-- 'laws.FnLeadCat': WHATEVER THE INPUT: true; the input reads as it did. -/
def fnLeadCatSpec : ChangeSpec := { name := "fnLeadCat", fn := fun _ => fun
  | [d] => { results := [.lit (.bool true)], args := [d] }
  | _ => none }
def fnLeadCatRow : OpenClaim := { program := "ytlpmocdbmnpjcaa", sum := "fa5df8c244325ce52b20b2b8b22e12767bdbd7769a5b0dba104bba9883291476", func := "loop.example/docalgebra/laws.FnLeadCat", spec := "fnLeadCat", inPlace := ["internal/bytealg.IndexByteString"], recurses := true, plainKeys := false, apart := false }
def FnLeadCatSaid : Prop := fnLeadCatRow.holds Try.pinned (OpenSpec.ofChange fnLeadCatSpec)

/-- ITS FALSE NEIGHBOUR: 'it returns false'. Refute it at one input. -/
def fnLeadCatWrong : ChangeSpec := { name := "fnLeadCat", fn := fun _ => fun
  | [d] => { results := [.lit (.bool false)], args := [d] }
  | _ => none }
def FnLeadCatWrongFalsely : Prop := fnLeadCatRow.holds Try.pinned (OpenSpec.ofChange fnLeadCatWrong)

/-- 'laws.FnExactCountChoices': WHATEVER THE INPUT: true; the input reads as it did. -/
def fnExactCountChoicesSpec : ChangeSpec := { name := "fnExactCountChoices", fn := fun _ => fun
  | [d] => { results := [.lit (.bool true)], args := [d] }
  | _ => none }
def fnExactCountChoicesRow : OpenClaim := { program := "ytlpmocdbmnpjcaa", sum := "fa5df8c244325ce52b20b2b8b22e12767bdbd7769a5b0dba104bba9883291476", func := "loop.example/docalgebra/laws.FnExactCountChoices", spec := "fnExactCountChoices", inPlace := ["internal/bytealg.IndexByteString"], recurses := true, loops := true, plainKeys := false, apart := false }
def FnExactCountChoicesSaid : Prop := fnExactCountChoicesRow.holds Try.pinned (OpenSpec.ofChange fnExactCountChoicesSpec)

/-- ITS FALSE NEIGHBOUR: 'it returns false'. Refute it at one input. -/
def fnExactCountChoicesWrong : ChangeSpec := { name := "fnExactCountChoices", fn := fun _ => fun
  | [d] => { results := [.lit (.bool false)], args := [d] }
  | _ => none }
def FnExactCountChoicesWrongFalsely : Prop := fnExactCountChoicesRow.holds Try.pinned (OpenSpec.ofChange fnExactCountChoicesWrong)

/-- 'laws.FnExactChoiceOf': WHATEVER THE INPUT: true; the input reads as it did. -/
def fnExactChoiceOfSpec : ChangeSpec := { name := "fnExactChoiceOf", fn := fun _ => fun
  | [d1, d2] => { results := [.lit (.bool true)], args := [d1, d2] }
  | _ => none }
def fnExactChoiceOfRow : OpenClaim := { program := "ytlpmocdbmnpjcaa", sum := "fa5df8c244325ce52b20b2b8b22e12767bdbd7769a5b0dba104bba9883291476", func := "loop.example/docalgebra/laws.FnExactChoiceOf", spec := "fnExactChoiceOf", inPlace := ["internal/bytealg.IndexByteString", "internal/abi.NoEscape"], unfollowed := true, recurses := true, loops := true, plainKeys := false, apart := false }
def FnExactChoiceOfSaid : Prop := fnExactChoiceOfRow.holds Try.pinned (OpenSpec.ofChange fnExactChoiceOfSpec)

/-- ITS FALSE NEIGHBOUR: 'it returns false'. Refute it at one input. -/
def fnExactChoiceOfWrong : ChangeSpec := { name := "fnExactChoiceOf", fn := fun _ => fun
  | [d1, d2] => { results := [.lit (.bool false)], args := [d1, d2] }
  | _ => none }
def FnExactChoiceOfWrongFalsely : Prop := fnExactChoiceOfRow.holds Try.pinned (OpenSpec.ofChange fnExactChoiceOfWrong)

/-- 'laws.FnExactFlatWidth': WHATEVER THE INPUT: true; the input reads as it did. -/
def fnExactFlatWidthSpec : ChangeSpec := { name := "fnExactFlatWidth", fn := fun _ => fun
  | [d] => { results := [.lit (.bool true)], args := [d] }
  | _ => none }
def fnExactFlatWidthRow : OpenClaim := { program := "ytlpmocdbmnpjcaa", sum := "fa5df8c244325ce52b20b2b8b22e12767bdbd7769a5b0dba104bba9883291476", func := "loop.example/docalgebra/laws.FnExactFlatWidth", spec := "fnExactFlatWidth", inPlace := ["internal/bytealg.IndexByteString"], recurses := true, loops := true, plainKeys := false, apart := false }
def FnExactFlatWidthSaid : Prop := fnExactFlatWidthRow.holds Try.pinned (OpenSpec.ofChange fnExactFlatWidthSpec)

/-- ITS FALSE NEIGHBOUR: 'it returns false'. Refute it at one input. -/
def fnExactFlatWidthWrong : ChangeSpec := { name := "fnExactFlatWidth", fn := fun _ => fun
  | [d] => { results := [.lit (.bool false)], args := [d] }
  | _ => none }
def FnExactFlatWidthWrongFalsely : Prop := fnExactFlatWidthRow.holds Try.pinned (OpenSpec.ofChange fnExactFlatWidthWrong)

/-- 'laws.FnExactLeadWidth': WHATEVER THE INPUT: true; the input reads as it did. -/
def fnExactLeadWidthSpec : ChangeSpec := { name := "fnExactLeadWidth", fn := fun _ => fun
  | [d] => { results := [.lit (.bool true)], args := [d] }
  | _ => none }
def fnExactLeadWidthRow : OpenClaim := { program := "ytlpmocdbmnpjcaa", sum := "fa5df8c244325ce52b20b2b8b22e12767bdbd7769a5b0dba104bba9883291476", func := "loop.example/docalgebra/laws.FnExactLeadWidth", spec := "fnExactLeadWidth", inPlace := ["internal/bytealg.IndexByteString"], recurses := true, loops := true, plainKeys := false, apart := false }
def FnExactLeadWidthSaid : Prop := fnExactLeadWidthRow.holds Try.pinned (OpenSpec.ofChange fnExactLeadWidthSpec)

/-- ITS FALSE NEIGHBOUR: 'it returns false'. Refute it at one input. -/
def fnExactLeadWidthWrong : ChangeSpec := { name := "fnExactLeadWidth", fn := fun _ => fun
  | [d] => { results := [.lit (.bool false)], args := [d] }
  | _ => none }
def FnExactLeadWidthWrongFalsely : Prop := fnExactLeadWidthRow.holds Try.pinned (OpenSpec.ofChange fnExactLeadWidthWrong)

/- THE SECOND FORM. 'bulk': how many values and letters a reading holds, each counted each time it is reached (what is shared counts as often as it is met; a slice's spare places count too). A statement '..UptoSaid' is the law's where the arguments, and the package variables that the reading takes, are together of bulk at most 1048576: NARROWER than '..Said'. Prove '..Said' where nothing that the law and all that it calls make is longer than what came in: it says more and counts as full. Else prove '..UptoSaid'. A law counts once. -/
mutual
def uptoBulk {H : Type} : DataW H → Nat
  | .lit (.string bytes) => bytes.length + 1
  | .lit _ => 1
  | .nil => 1
  | .ptr d => uptoBulk d + 1
  | .slice elems spare => uptoBulkAll elems + uptoBulkAll spare + 1
  | .agg parts => uptoBulkAll parts + 1
  | .iface _ d => uptoBulk d + 1
  | .map entries => uptoBulkEntries entries + 1
  | .held _ => 1
def uptoBulkAll {H : Type} : List (DataW H) → Nat
  | [] => 0
  | d :: r => uptoBulk d + uptoBulkAll r
def uptoBulkEntries {H : Type} : List (Lit × DataW H) → Nat
  | [] => 0
  | x :: r => uptoBulkEntry x + uptoBulkEntries r
def uptoBulkEntry {H : Type} : Lit × DataW H → Nat
  | (.string bytes, d) => bytes.length + uptoBulk d + 1
  | (_, d) => uptoBulk d + 1
 end
def uptoSmall : (H : Type) → List (DataW H) → Bool := fun _ ds => decide (uptoBulkAll ds ≤ 1048576)
def OpenSpec.upto (s : _root_.Go.ChangeSpec) : _root_.Go.OpenSpec := { _root_.Go.OpenSpec.ofChange s with cond := some uptoSmall }

/-- 'laws.FnCatDocs', WHERE WHAT IT READS IS OF BULK AT MOST 1048576: true; the input reads as it did. -/
def fnCatDocsUptoRow : OpenClaim := { program := "ytlpmocdbmnpjcaa", sum := "fa5df8c244325ce52b20b2b8b22e12767bdbd7769a5b0dba104bba9883291476", func := "loop.example/docalgebra/laws.FnCatDocs", spec := "fnCatDocs", inPlace := ["internal/bytealg.IndexByteString"], unfollowed := true, recurses := true, plainKeys := false, apart := false, narrowed := true }
def FnCatDocsUptoSaid : Prop := fnCatDocsUptoRow.holds Try.pinned (OpenSpec.upto fnCatDocsSpec)

/-- 'laws.FnCatSame', WHERE WHAT IT READS IS OF BULK AT MOST 1048576: true; the input reads as it did. -/
def fnCatSameUptoRow : OpenClaim := { program := "ytlpmocdbmnpjcaa", sum := "fa5df8c244325ce52b20b2b8b22e12767bdbd7769a5b0dba104bba9883291476", func := "loop.example/docalgebra/laws.FnCatSame", spec := "fnCatSame", inPlace := ["internal/bytealg.IndexByteString"], recurses := true, plainKeys := false, apart := false, narrowed := true }
def FnCatSameUptoSaid : Prop := fnCatSameUptoRow.holds Try.pinned (OpenSpec.upto fnCatSameSpec)

/-- 'laws.FnLastChoice', WHERE WHAT IT READS IS OF BULK AT MOST 1048576: true; the input reads as it did. -/
def fnLastChoiceUptoRow : OpenClaim := { program := "ytlpmocdbmnpjcaa", sum := "fa5df8c244325ce52b20b2b8b22e12767bdbd7769a5b0dba104bba9883291476", func := "loop.example/docalgebra/laws.FnLastChoice", spec := "fnLastChoice", inPlace := ["internal/bytealg.IndexByteString", "internal/abi.NoEscape"], unfollowed := true, recurses := true, plainKeys := false, apart := false, narrowed := true }
def FnLastChoiceUptoSaid : Prop := fnLastChoiceUptoRow.holds Try.pinned (OpenSpec.upto fnLastChoiceSpec)

/-- 'laws.FnChoiceCat', WHERE WHAT IT READS IS OF BULK AT MOST 1048576: true; the input reads as it did. -/
def fnChoiceCatUptoRow : OpenClaim := { program := "ytlpmocdbmnpjcaa", sum := "fa5df8c244325ce52b20b2b8b22e12767bdbd7769a5b0dba104bba9883291476", func := "loop.example/docalgebra/laws.FnChoiceCat", spec := "fnChoiceCat", inPlace := ["internal/bytealg.IndexByteString", "internal/abi.NoEscape"], unfollowed := true, recurses := true, plainKeys := false, apart := false, narrowed := true }
def FnChoiceCatUptoSaid : Prop := fnChoiceCatUptoRow.holds Try.pinned (OpenSpec.upto fnChoiceCatSpec)

/-- 'laws.FnChoiceNest', WHERE WHAT IT READS IS OF BULK AT MOST 1048576: true; the input reads as it did. -/
def fnChoiceNestUptoRow : OpenClaim := { program := "ytlpmocdbmnpjcaa", sum := "fa5df8c244325ce52b20b2b8b22e12767bdbd7769a5b0dba104bba9883291476", func := "loop.example/docalgebra/laws.FnChoiceNest", spec := "fnChoiceNest", inPlace := ["internal/bytealg.IndexByteString", "internal/abi.NoEscape"], unfollowed := true, recurses := true, plainKeys := false, apart := false, narrowed := true }
def FnChoiceNestUptoSaid : Prop := fnChoiceNestUptoRow.holds Try.pinned (OpenSpec.upto fnChoiceNestSpec)

/-- 'laws.FnChoiceLines', WHERE WHAT IT READS IS OF BULK AT MOST 1048576: true; the input reads as it did. -/
def fnChoiceLinesUptoRow : OpenClaim := { program := "ytlpmocdbmnpjcaa", sum := "fa5df8c244325ce52b20b2b8b22e12767bdbd7769a5b0dba104bba9883291476", func := "loop.example/docalgebra/laws.FnChoiceLines", spec := "fnChoiceLines", inPlace := ["internal/bytealg.IndexByteString", "internal/abi.NoEscape"], unfollowed := true, recurses := true, plainKeys := false, apart := false, narrowed := true }
def FnChoiceLinesUptoSaid : Prop := fnChoiceLinesUptoRow.holds Try.pinned (OpenSpec.upto fnChoiceLinesSpec)

/-- 'laws.FnCountGroups', WHERE WHAT IT READS IS OF BULK AT MOST 1048576: true; the input reads as it did. -/
def fnCountGroupsUptoRow : OpenClaim := { program := "ytlpmocdbmnpjcaa", sum := "fa5df8c244325ce52b20b2b8b22e12767bdbd7769a5b0dba104bba9883291476", func := "loop.example/docalgebra/laws.FnCountGroups", spec := "fnCountGroups", inPlace := ["internal/bytealg.IndexByteString"], unfollowed := true, recurses := true, plainKeys := false, apart := false, narrowed := true }
def FnCountGroupsUptoSaid : Prop := fnCountGroupsUptoRow.holds Try.pinned (OpenSpec.upto fnCountGroupsSpec)

/-- 'laws.FnFlatWidth', WHERE WHAT IT READS IS OF BULK AT MOST 1048576: true; the input reads as it did. -/
def fnFlatWidthUptoRow : OpenClaim := { program := "ytlpmocdbmnpjcaa", sum := "fa5df8c244325ce52b20b2b8b22e12767bdbd7769a5b0dba104bba9883291476", func := "loop.example/docalgebra/laws.FnFlatWidth", spec := "fnFlatWidth", inPlace := ["internal/bytealg.IndexByteString"], recurses := true, plainKeys := false, apart := false, narrowed := true }
def FnFlatWidthUptoSaid : Prop := fnFlatWidthUptoRow.holds Try.pinned (OpenSpec.upto fnFlatWidthSpec)

/-- 'laws.FnLeadWidth', WHERE WHAT IT READS IS OF BULK AT MOST 1048576: true; the input reads as it did. -/
def fnLeadWidthUptoRow : OpenClaim := { program := "ytlpmocdbmnpjcaa", sum := "fa5df8c244325ce52b20b2b8b22e12767bdbd7769a5b0dba104bba9883291476", func := "loop.example/docalgebra/laws.FnLeadWidth", spec := "fnLeadWidth", inPlace := ["internal/bytealg.IndexByteString"], recurses := true, plainKeys := false, apart := false, narrowed := true }
def FnLeadWidthUptoSaid : Prop := fnLeadWidthUptoRow.holds Try.pinned (OpenSpec.upto fnLeadWidthSpec)

/-- 'laws.FnLeadCat', WHERE WHAT IT READS IS OF BULK AT MOST 1048576: true; the input reads as it did. -/
def fnLeadCatUptoRow : OpenClaim := { program := "ytlpmocdbmnpjcaa", sum := "fa5df8c244325ce52b20b2b8b22e12767bdbd7769a5b0dba104bba9883291476", func := "loop.example/docalgebra/laws.FnLeadCat", spec := "fnLeadCat", inPlace := ["internal/bytealg.IndexByteString"], recurses := true, plainKeys := false, apart := false, narrowed := true }
def FnLeadCatUptoSaid : Prop := fnLeadCatUptoRow.holds Try.pinned (OpenSpec.upto fnLeadCatSpec)

/-- 'laws.FnExactCountChoices', WHERE WHAT IT READS IS OF BULK AT MOST 1048576: true; the input reads as it did. -/
def fnExactCountChoicesUptoRow : OpenClaim := { program := "ytlpmocdbmnpjcaa", sum := "fa5df8c244325ce52b20b2b8b22e12767bdbd7769a5b0dba104bba9883291476", func := "loop.example/docalgebra/laws.FnExactCountChoices", spec := "fnExactCountChoices", inPlace := ["internal/bytealg.IndexByteString"], recurses := true, loops := true, plainKeys := false, apart := false, narrowed := true }
def FnExactCountChoicesUptoSaid : Prop := fnExactCountChoicesUptoRow.holds Try.pinned (OpenSpec.upto fnExactCountChoicesSpec)

/-- 'laws.FnExactChoiceOf', WHERE WHAT IT READS IS OF BULK AT MOST 1048576: true; the input reads as it did. -/
def fnExactChoiceOfUptoRow : OpenClaim := { program := "ytlpmocdbmnpjcaa", sum := "fa5df8c244325ce52b20b2b8b22e12767bdbd7769a5b0dba104bba9883291476", func := "loop.example/docalgebra/laws.FnExactChoiceOf", spec := "fnExactChoiceOf", inPlace := ["internal/bytealg.IndexByteString", "internal/abi.NoEscape"], unfollowed := true, recurses := true, loops := true, plainKeys := false, apart := false, narrowed := true }
def FnExactChoiceOfUptoSaid : Prop := fnExactChoiceOfUptoRow.holds Try.pinned (OpenSpec.upto fnExactChoiceOfSpec)

/-- 'laws.FnExactFlatWidth', WHERE WHAT IT READS IS OF BULK AT MOST 1048576: true; the input reads as it did. -/
def fnExactFlatWidthUptoRow : OpenClaim := { program := "ytlpmocdbmnpjcaa", sum := "fa5df8c244325ce52b20b2b8b22e12767bdbd7769a5b0dba104bba9883291476", func := "loop.example/docalgebra/laws.FnExactFlatWidth", spec := "fnExactFlatWidth", inPlace := ["internal/bytealg.IndexByteString"], recurses := true, loops := true, plainKeys := false, apart := false, narrowed := true }
def FnExactFlatWidthUptoSaid : Prop := fnExactFlatWidthUptoRow.holds Try.pinned (OpenSpec.upto fnExactFlatWidthSpec)

/-- 'laws.FnExactLeadWidth', WHERE WHAT IT READS IS OF BULK AT MOST 1048576: true; the input reads as it did. -/
def fnExactLeadWidthUptoRow : OpenClaim := { program := "ytlpmocdbmnpjcaa", sum := "fa5df8c244325ce52b20b2b8b22e12767bdbd7769a5b0dba104bba9883291476", func := "loop.example/docalgebra/laws.FnExactLeadWidth", spec := "fnExactLeadWidth", inPlace := ["internal/bytealg.IndexByteString"], recurses := true, loops := true, plainKeys := false, apart := false, narrowed := true }
def FnExactLeadWidthUptoSaid : Prop := fnExactLeadWidthUptoRow.holds Try.pinned (OpenSpec.upto fnExactLeadWidthSpec)

end Rows
end Go.Proofs.Ytlpmocdbmnpjcaa
