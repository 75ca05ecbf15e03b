/-
  NARROWER THAN 'FOR EVERY INPUT', by the rows' own cells (each row's printed sentence says how): FnExactFlatText: loops · FnExactOpenLayout: loops.
  DERIVED. THE GIVEN ROWS OF THIS SEAT. 21 by the template 'for every input the law returns true; each argument reads behind the call as it read before'; 0 by the template 'total and deterministic' (their statements: YtgnpcfafdjebeaaTotals.lean).
  GIVEN WITH THE SEED: the statements are not yours to turn. If you find one false, say at which input.
  Laid BY PROGRAM, IN A SANDBOX (cutbox-rows.mjs): the forced cells as the released guide's own fill.sh prints them over the translation 9475c414d517e491… (all of the seat's roots in one cut). By AI agents, Wed Nov 11 2026. No macro, syntax, notation, axiom, sorry.
-/
import Derived.Test.YtgnpcfafdjebeaaChecked
import GoSem.Claim
import GoSem.ClaimJoined
import GoSem.ClaimMapViews
import Derived.JoinedTies
import Derived.KernelRfl
namespace Go.Proofs.Ytgnpcfafdjebeaa
/- THE CELL 'sum', in the pinned program and in every row, IS THE sha256 OF THE DUMP (.gsa) THAT YtgnpcfafdjebeaaProg.lean LOADS. Nothing in Lean hashes anything: it is a label: what it is worth is what the hold of that sum in a sandbox is worth. -/
noncomputable def Try.pinned : Pinned := { name := "ytgnpcfafdjebeaa", sum := "9475c414d517e491af15bdbf0debaaf30ac3f6565c5992da3890dcfe331a1a43", checked := Try.checked }
namespace Rows
def none {H : Type} : Left H := { results := [], args := [] }

/-- 'laws.FnCatLayouts': WHATEVER THE INPUT: true; the input reads as it did. -/
def fnCatLayoutsSpec : ChangeSpec := { name := "fnCatLayouts", fn := fun _ => fun
  | [d] => { results := [.lit (.bool true)], args := [d] }
  | _ => none }
def fnCatLayoutsRow : OpenClaim := { program := "ytgnpcfafdjebeaa", sum := "9475c414d517e491af15bdbf0debaaf30ac3f6565c5992da3890dcfe331a1a43", func := "loop.example/docalgebra/laws.FnCatLayouts", spec := "fnCatLayouts", inPlace := ["internal/bytealg.IndexByteString"], recurses := true, plainKeys := false, apart := false }
def FnCatLayoutsSaid : Prop := fnCatLayoutsRow.holds Try.pinned (OpenSpec.ofChange fnCatLayoutsSpec)

/-- ITS FALSE NEIGHBOUR: 'it returns false'. Refute it at one input. -/
def fnCatLayoutsWrong : ChangeSpec := { name := "fnCatLayouts", fn := fun _ => fun
  | [d] => { results := [.lit (.bool false)], args := [d] }
  | _ => none }
def FnCatLayoutsWrongFalsely : Prop := fnCatLayoutsRow.holds Try.pinned (OpenSpec.ofChange fnCatLayoutsWrong)

/-- 'laws.FnNestLayout': WHATEVER THE INPUT: true; the input reads as it did. -/
def fnNestLayoutSpec : ChangeSpec := { name := "fnNestLayout", fn := fun _ => fun
  | [d] => { results := [.lit (.bool true)], args := [d] }
  | _ => none }
def fnNestLayoutRow : OpenClaim := { program := "ytgnpcfafdjebeaa", sum := "9475c414d517e491af15bdbf0debaaf30ac3f6565c5992da3890dcfe331a1a43", func := "loop.example/docalgebra/laws.FnNestLayout", spec := "fnNestLayout", inPlace := ["internal/bytealg.IndexByteString"], recurses := true, plainKeys := false, apart := false }
def FnNestLayoutSaid : Prop := fnNestLayoutRow.holds Try.pinned (OpenSpec.ofChange fnNestLayoutSpec)

/-- ITS FALSE NEIGHBOUR: 'it returns false'. Refute it at one input. -/
def fnNestLayoutWrong : ChangeSpec := { name := "fnNestLayout", fn := fun _ => fun
  | [d] => { results := [.lit (.bool false)], args := [d] }
  | _ => none }
def FnNestLayoutWrongFalsely : Prop := fnNestLayoutRow.holds Try.pinned (OpenSpec.ofChange fnNestLayoutWrong)

/-- 'laws.FnNestCat': WHATEVER THE INPUT: true; the input reads as it did. -/
def fnNestCatSpec : ChangeSpec := { name := "fnNestCat", fn := fun _ => fun
  | [d] => { results := [.lit (.bool true)], args := [d] }
  | _ => none }
def fnNestCatRow : OpenClaim := { program := "ytgnpcfafdjebeaa", sum := "9475c414d517e491af15bdbf0debaaf30ac3f6565c5992da3890dcfe331a1a43", func := "loop.example/docalgebra/laws.FnNestCat", spec := "fnNestCat", inPlace := ["internal/bytealg.IndexByteString"], recurses := true, plainKeys := false, apart := false }
def FnNestCatSaid : Prop := fnNestCatRow.holds Try.pinned (OpenSpec.ofChange fnNestCatSpec)

/-- ITS FALSE NEIGHBOUR: 'it returns false'. Refute it at one input. -/
def fnNestCatWrong : ChangeSpec := { name := "fnNestCat", fn := fun _ => fun
  | [d] => { results := [.lit (.bool false)], args := [d] }
  | _ => none }
def FnNestCatWrongFalsely : Prop := fnNestCatRow.holds Try.pinned (OpenSpec.ofChange fnNestCatWrong)

/-- 'laws.FnOpenLayout': WHATEVER THE INPUT: true; the input reads as it did. -/
def fnOpenLayoutSpec : ChangeSpec := { name := "fnOpenLayout", fn := fun _ => fun
  | [d] => { results := [.lit (.bool true)], args := [d] }
  | _ => none }
def fnOpenLayoutRow : OpenClaim := { program := "ytgnpcfafdjebeaa", sum := "9475c414d517e491af15bdbf0debaaf30ac3f6565c5992da3890dcfe331a1a43", func := "loop.example/docalgebra/laws.FnOpenLayout", spec := "fnOpenLayout", inPlace := ["internal/bytealg.IndexByteString"], unfollowed := true, recurses := true, plainKeys := false, apart := false }
def FnOpenLayoutSaid : Prop := fnOpenLayoutRow.holds Try.pinned (OpenSpec.ofChange fnOpenLayoutSpec)

/-- ITS FALSE NEIGHBOUR: 'it returns false'. Refute it at one input. -/
def fnOpenLayoutWrong : ChangeSpec := { name := "fnOpenLayout", fn := fun _ => fun
  | [d] => { results := [.lit (.bool false)], args := [d] }
  | _ => none }
def FnOpenLayoutWrongFalsely : Prop := fnOpenLayoutRow.holds Try.pinned (OpenSpec.ofChange fnOpenLayoutWrong)

/-- 'laws.FnFlatText': WHATEVER THE INPUT: true; the input reads as it did. -/
def fnFlatTextSpec : ChangeSpec := { name := "fnFlatText", fn := fun _ => fun
  | [d] => { results := [.lit (.bool true)], args := [d] }
  | _ => none }
def fnFlatTextRow : OpenClaim := { program := "ytgnpcfafdjebeaa", sum := "9475c414d517e491af15bdbf0debaaf30ac3f6565c5992da3890dcfe331a1a43", func := "loop.example/docalgebra/laws.FnFlatText", spec := "fnFlatText", inPlace := ["internal/bytealg.IndexByteString", "internal/abi.NoEscape"], unfollowed := true, recurses := true, plainKeys := false, apart := false }
def FnFlatTextSaid : Prop := fnFlatTextRow.holds Try.pinned (OpenSpec.ofChange fnFlatTextSpec)

/-- ITS FALSE NEIGHBOUR: 'it returns false'. Refute it at one input. -/
def fnFlatTextWrong : ChangeSpec := { name := "fnFlatText", fn := fun _ => fun
  | [d] => { results := [.lit (.bool false)], args := [d] }
  | _ => none }
def FnFlatTextWrongFalsely : Prop := fnFlatTextRow.holds Try.pinned (OpenSpec.ofChange fnFlatTextWrong)

/-- 'laws.FnLayoutWidth': WHATEVER THE INPUT: true; the input reads as it did. -/
def fnLayoutWidthSpec : ChangeSpec := { name := "fnLayoutWidth", fn := fun _ => fun
  | [d] => { results := [.lit (.bool true)], args := [d] }
  | _ => none }
def fnLayoutWidthRow : OpenClaim := { program := "ytgnpcfafdjebeaa", sum := "9475c414d517e491af15bdbf0debaaf30ac3f6565c5992da3890dcfe331a1a43", func := "loop.example/docalgebra/laws.FnLayoutWidth", spec := "fnLayoutWidth", inPlace := ["internal/bytealg.IndexByteString", "internal/abi.NoEscape", "internal/bytealg.MakeNoZero"], recurses := true, plainKeys := false, apart := false }
def FnLayoutWidthSaid : Prop := fnLayoutWidthRow.holds Try.pinned (OpenSpec.ofChange fnLayoutWidthSpec)

/-- ITS FALSE NEIGHBOUR: 'it returns false'. Refute it at one input. -/
def fnLayoutWidthWrong : ChangeSpec := { name := "fnLayoutWidth", fn := fun _ => fun
  | [d] => { results := [.lit (.bool false)], args := [d] }
  | _ => none }
def FnLayoutWidthWrongFalsely : Prop := fnLayoutWidthRow.holds Try.pinned (OpenSpec.ofChange fnLayoutWidthWrong)

/-- 'laws.FnLayoutSame': WHATEVER THE INPUT: true; the input reads as it did. -/
def fnLayoutSameSpec : ChangeSpec := { name := "fnLayoutSame", fn := fun _ => fun
  | [d] => { results := [.lit (.bool true)], args := [d] }
  | _ => none }
def fnLayoutSameRow : OpenClaim := { program := "ytgnpcfafdjebeaa", sum := "9475c414d517e491af15bdbf0debaaf30ac3f6565c5992da3890dcfe331a1a43", func := "loop.example/docalgebra/laws.FnLayoutSame", spec := "fnLayoutSame", inPlace := ["internal/bytealg.IndexByteString", "internal/abi.NoEscape", "internal/bytealg.MakeNoZero"], recurses := true, plainKeys := false, apart := false }
def FnLayoutSameSaid : Prop := fnLayoutSameRow.holds Try.pinned (OpenSpec.ofChange fnLayoutSameSpec)

/-- ITS FALSE NEIGHBOUR: 'it returns false'. Refute it at one input. -/
def fnLayoutSameWrong : ChangeSpec := { name := "fnLayoutSame", fn := fun _ => fun
  | [d] => { results := [.lit (.bool false)], args := [d] }
  | _ => none }
def FnLayoutSameWrongFalsely : Prop := fnLayoutSameRow.holds Try.pinned (OpenSpec.ofChange fnLayoutSameWrong)

/-- 'laws.FnCatGroups': WHATEVER THE INPUT: true; the input reads as it did. -/
def fnCatGroupsSpec : ChangeSpec := { name := "fnCatGroups", fn := fun _ => fun
  | [d1, d2] => { results := [.lit (.bool true)], args := [d1, d2] }
  | _ => none }
def fnCatGroupsRow : OpenClaim := { program := "ytgnpcfafdjebeaa", sum := "9475c414d517e491af15bdbf0debaaf30ac3f6565c5992da3890dcfe331a1a43", func := "loop.example/docalgebra/laws.FnCatGroups", spec := "fnCatGroups", inPlace := ["internal/bytealg.IndexByteString"], recurses := true, plainKeys := false, apart := false }
def FnCatGroupsSaid : Prop := fnCatGroupsRow.holds Try.pinned (OpenSpec.ofChange fnCatGroupsSpec)

/-- ITS FALSE NEIGHBOUR: 'it returns false'. Refute it at one input. -/
def fnCatGroupsWrong : ChangeSpec := { name := "fnCatGroups", fn := fun _ => fun
  | [d1, d2] => { results := [.lit (.bool false)], args := [d1, d2] }
  | _ => none }
def FnCatGroupsWrongFalsely : Prop := fnCatGroupsRow.holds Try.pinned (OpenSpec.ofChange fnCatGroupsWrong)

/-- 'laws.FnCatEmpty': WHATEVER THE INPUT: true; the input reads as it did. -/
def fnCatEmptySpec : ChangeSpec := { name := "fnCatEmpty", fn := fun _ => fun
  | [d] => { results := [.lit (.bool true)], args := [d] }
  | _ => none }
def fnCatEmptyRow : OpenClaim := { program := "ytgnpcfafdjebeaa", sum := "9475c414d517e491af15bdbf0debaaf30ac3f6565c5992da3890dcfe331a1a43", func := "loop.example/docalgebra/laws.FnCatEmpty", spec := "fnCatEmpty", inPlace := ["internal/bytealg.IndexByteString"], recurses := true, plainKeys := false, apart := false }
def FnCatEmptySaid : Prop := fnCatEmptyRow.holds Try.pinned (OpenSpec.ofChange fnCatEmptySpec)

/-- ITS FALSE NEIGHBOUR: 'it returns false'. Refute it at one input. -/
def fnCatEmptyWrong : ChangeSpec := { name := "fnCatEmpty", fn := fun _ => fun
  | [d] => { results := [.lit (.bool false)], args := [d] }
  | _ => none }
def FnCatEmptyWrongFalsely : Prop := fnCatEmptyRow.holds Try.pinned (OpenSpec.ofChange fnCatEmptyWrong)

/-- 'laws.FnNestZero': WHATEVER THE INPUT: true; the input reads as it did. -/
def fnNestZeroSpec : ChangeSpec := { name := "fnNestZero", fn := fun _ => fun
  | [d] => { results := [.lit (.bool true)], args := [d] }
  | _ => none }
def fnNestZeroRow : OpenClaim := { program := "ytgnpcfafdjebeaa", sum := "9475c414d517e491af15bdbf0debaaf30ac3f6565c5992da3890dcfe331a1a43", func := "loop.example/docalgebra/laws.FnNestZero", spec := "fnNestZero", inPlace := ["internal/bytealg.IndexByteString"], recurses := true, plainKeys := false, apart := false }
def FnNestZeroSaid : Prop := fnNestZeroRow.holds Try.pinned (OpenSpec.ofChange fnNestZeroSpec)

/-- ITS FALSE NEIGHBOUR: 'it returns false'. Refute it at one input. -/
def fnNestZeroWrong : ChangeSpec := { name := "fnNestZero", fn := fun _ => fun
  | [d] => { results := [.lit (.bool false)], args := [d] }
  | _ => none }
def FnNestZeroWrongFalsely : Prop := fnNestZeroRow.holds Try.pinned (OpenSpec.ofChange fnNestZeroWrong)

/-- 'laws.FnOpenNest': WHATEVER THE INPUT: true; the input reads as it did. -/
def fnOpenNestSpec : ChangeSpec := { name := "fnOpenNest", fn := fun _ => fun
  | [d] => { results := [.lit (.bool true)], args := [d] }
  | _ => none }
def fnOpenNestRow : OpenClaim := { program := "ytgnpcfafdjebeaa", sum := "9475c414d517e491af15bdbf0debaaf30ac3f6565c5992da3890dcfe331a1a43", func := "loop.example/docalgebra/laws.FnOpenNest", spec := "fnOpenNest", inPlace := ["internal/bytealg.IndexByteString"], recurses := true, plainKeys := false, apart := false }
def FnOpenNestSaid : Prop := fnOpenNestRow.holds Try.pinned (OpenSpec.ofChange fnOpenNestSpec)

/-- ITS FALSE NEIGHBOUR: 'it returns false'. Refute it at one input. -/
def fnOpenNestWrong : ChangeSpec := { name := "fnOpenNest", fn := fun _ => fun
  | [d] => { results := [.lit (.bool false)], args := [d] }
  | _ => none }
def FnOpenNestWrongFalsely : Prop := fnOpenNestRow.holds Try.pinned (OpenSpec.ofChange fnOpenNestWrong)

/-- 'laws.FnOverflowSum': WHATEVER THE INPUT: true; the input reads as it did. -/
def fnOverflowSumSpec : ChangeSpec := { name := "fnOverflowSum", fn := fun _ => fun
  | [d] => { results := [.lit (.bool true)], args := [d] }
  | _ => none }
def fnOverflowSumRow : OpenClaim := { program := "ytgnpcfafdjebeaa", sum := "9475c414d517e491af15bdbf0debaaf30ac3f6565c5992da3890dcfe331a1a43", func := "loop.example/docalgebra/laws.FnOverflowSum", spec := "fnOverflowSum", inPlace := ["internal/bytealg.IndexByteString", "internal/abi.NoEscape", "internal/bytealg.MakeNoZero"], recurses := true, plainKeys := false, apart := false }
def FnOverflowSumSaid : Prop := fnOverflowSumRow.holds Try.pinned (OpenSpec.ofChange fnOverflowSumSpec)

/-- ITS FALSE NEIGHBOUR: 'it returns false'. Refute it at one input. -/
def fnOverflowSumWrong : ChangeSpec := { name := "fnOverflowSum", fn := fun _ => fun
  | [d] => { results := [.lit (.bool false)], args := [d] }
  | _ => none }
def FnOverflowSumWrongFalsely : Prop := fnOverflowSumRow.holds Try.pinned (OpenSpec.ofChange fnOverflowSumWrong)

/-- 'laws.FnExactLayoutValid': WHATEVER THE INPUT: true; the input reads as it did. -/
def fnExactLayoutValidSpec : ChangeSpec := { name := "fnExactLayoutValid", fn := fun _ => fun
  | [d] => { results := [.lit (.bool true)], args := [d] }
  | _ => none }
def fnExactLayoutValidRow : OpenClaim := { program := "ytgnpcfafdjebeaa", sum := "9475c414d517e491af15bdbf0debaaf30ac3f6565c5992da3890dcfe331a1a43", func := "loop.example/docalgebra/laws.FnExactLayoutValid", spec := "fnExactLayoutValid", inPlace := ["internal/bytealg.IndexByteString"], plainKeys := false, apart := false }
def FnExactLayoutValidSaid : Prop := fnExactLayoutValidRow.holds Try.pinned (OpenSpec.ofChange fnExactLayoutValidSpec)

/-- ITS FALSE NEIGHBOUR: 'it returns false'. Refute it at one input. -/
def fnExactLayoutValidWrong : ChangeSpec := { name := "fnExactLayoutValid", fn := fun _ => fun
  | [d] => { results := [.lit (.bool false)], args := [d] }
  | _ => none }
def FnExactLayoutValidWrongFalsely : Prop := fnExactLayoutValidRow.holds Try.pinned (OpenSpec.ofChange fnExactLayoutValidWrong)

/-- 'laws.FnExactLayoutSame': WHATEVER THE INPUT: true; the input reads as it did. -/
def fnExactLayoutSameSpec : ChangeSpec := { name := "fnExactLayoutSame", fn := fun _ => fun
  | [d1, d2] => { results := [.lit (.bool true)], args := [d1, d2] }
  | _ => none }
def fnExactLayoutSameRow : OpenClaim := { program := "ytgnpcfafdjebeaa", sum := "9475c414d517e491af15bdbf0debaaf30ac3f6565c5992da3890dcfe331a1a43", func := "loop.example/docalgebra/laws.FnExactLayoutSame", spec := "fnExactLayoutSame", plainKeys := false, apart := false }
def FnExactLayoutSameSaid : Prop := fnExactLayoutSameRow.holds Try.pinned (OpenSpec.ofChange fnExactLayoutSameSpec)

/-- ITS FALSE NEIGHBOUR: 'it returns false'. Refute it at one input. -/
def fnExactLayoutSameWrong : ChangeSpec := { name := "fnExactLayoutSame", fn := fun _ => fun
  | [d1, d2] => { results := [.lit (.bool false)], args := [d1, d2] }
  | _ => none }
def FnExactLayoutSameWrongFalsely : Prop := fnExactLayoutSameRow.holds Try.pinned (OpenSpec.ofChange fnExactLayoutSameWrong)

/-- 'laws.FnExactLayoutText': WHATEVER THE INPUT: true; the input reads as it did. -/
def fnExactLayoutTextSpec : ChangeSpec := { name := "fnExactLayoutText", fn := fun _ => fun
  | [d] => { results := [.lit (.bool true)], args := [d] }
  | _ => none }
def fnExactLayoutTextRow : OpenClaim := { program := "ytgnpcfafdjebeaa", sum := "9475c414d517e491af15bdbf0debaaf30ac3f6565c5992da3890dcfe331a1a43", func := "loop.example/docalgebra/laws.FnExactLayoutText", spec := "fnExactLayoutText", inPlace := ["internal/bytealg.IndexByteString", "internal/abi.NoEscape", "internal/bytealg.MakeNoZero"], plainKeys := false, apart := false }
def FnExactLayoutTextSaid : Prop := fnExactLayoutTextRow.holds Try.pinned (OpenSpec.ofChange fnExactLayoutTextSpec)

/-- ITS FALSE NEIGHBOUR: 'it returns false'. Refute it at one input. -/
def fnExactLayoutTextWrong : ChangeSpec := { name := "fnExactLayoutText", fn := fun _ => fun
  | [d] => { results := [.lit (.bool false)], args := [d] }
  | _ => none }
def FnExactLayoutTextWrongFalsely : Prop := fnExactLayoutTextRow.holds Try.pinned (OpenSpec.ofChange fnExactLayoutTextWrong)

/-- 'laws.FnExactLayoutWidth': WHATEVER THE INPUT: true; the input reads as it did. -/
def fnExactLayoutWidthSpec : ChangeSpec := { name := "fnExactLayoutWidth", fn := fun _ => fun
  | [d] => { results := [.lit (.bool true)], args := [d] }
  | _ => none }
def fnExactLayoutWidthRow : OpenClaim := { program := "ytgnpcfafdjebeaa", sum := "9475c414d517e491af15bdbf0debaaf30ac3f6565c5992da3890dcfe331a1a43", func := "loop.example/docalgebra/laws.FnExactLayoutWidth", spec := "fnExactLayoutWidth", inPlace := ["internal/bytealg.IndexByteString"], plainKeys := false, apart := false }
def FnExactLayoutWidthSaid : Prop := fnExactLayoutWidthRow.holds Try.pinned (OpenSpec.ofChange fnExactLayoutWidthSpec)

/-- ITS FALSE NEIGHBOUR: 'it returns false'. Refute it at one input. -/
def fnExactLayoutWidthWrong : ChangeSpec := { name := "fnExactLayoutWidth", fn := fun _ => fun
  | [d] => { results := [.lit (.bool false)], args := [d] }
  | _ => none }
def FnExactLayoutWidthWrongFalsely : Prop := fnExactLayoutWidthRow.holds Try.pinned (OpenSpec.ofChange fnExactLayoutWidthWrong)

/-- 'laws.FnExactOverflow': WHATEVER THE INPUT: true; the input reads as it did. -/
def fnExactOverflowSpec : ChangeSpec := { name := "fnExactOverflow", fn := fun _ => fun
  | [d1, d2] => { results := [.lit (.bool true)], args := [d1, d2] }
  | _ => none }
def fnExactOverflowRow : OpenClaim := { program := "ytgnpcfafdjebeaa", sum := "9475c414d517e491af15bdbf0debaaf30ac3f6565c5992da3890dcfe331a1a43", func := "loop.example/docalgebra/laws.FnExactOverflow", spec := "fnExactOverflow", inPlace := ["internal/bytealg.IndexByteString"], plainKeys := false, apart := false }
def FnExactOverflowSaid : Prop := fnExactOverflowRow.holds Try.pinned (OpenSpec.ofChange fnExactOverflowSpec)

/-- ITS FALSE NEIGHBOUR: 'it returns false'. Refute it at one input. -/
def fnExactOverflowWrong : ChangeSpec := { name := "fnExactOverflow", fn := fun _ => fun
  | [d1, d2] => { results := [.lit (.bool false)], args := [d1, d2] }
  | _ => none }
def FnExactOverflowWrongFalsely : Prop := fnExactOverflowRow.holds Try.pinned (OpenSpec.ofChange fnExactOverflowWrong)

/-- 'laws.FnExactCatLayouts': WHATEVER THE INPUT: true; the input reads as it did. -/
def fnExactCatLayoutsSpec : ChangeSpec := { name := "fnExactCatLayouts", fn := fun _ => fun
  | [d1, d2] => { results := [.lit (.bool true)], args := [d1, d2] }
  | _ => none }
def fnExactCatLayoutsRow : OpenClaim := { program := "ytgnpcfafdjebeaa", sum := "9475c414d517e491af15bdbf0debaaf30ac3f6565c5992da3890dcfe331a1a43", func := "loop.example/docalgebra/laws.FnExactCatLayouts", spec := "fnExactCatLayouts", inPlace := ["internal/bytealg.IndexByteString"], plainKeys := false, apart := false }
def FnExactCatLayoutsSaid : Prop := fnExactCatLayoutsRow.holds Try.pinned (OpenSpec.ofChange fnExactCatLayoutsSpec)

/-- ITS FALSE NEIGHBOUR: 'it returns false'. Refute it at one input. -/
def fnExactCatLayoutsWrong : ChangeSpec := { name := "fnExactCatLayouts", fn := fun _ => fun
  | [d1, d2] => { results := [.lit (.bool false)], args := [d1, d2] }
  | _ => none }
def FnExactCatLayoutsWrongFalsely : Prop := fnExactCatLayoutsRow.holds Try.pinned (OpenSpec.ofChange fnExactCatLayoutsWrong)

/-- 'laws.FnExactNestLayout': WHATEVER THE INPUT: true; the input reads as it did. -/
def fnExactNestLayoutSpec : ChangeSpec := { name := "fnExactNestLayout", fn := fun _ => fun
  | [d1, d2] => { results := [.lit (.bool true)], args := [d1, d2] }
  | _ => none }
def fnExactNestLayoutRow : OpenClaim := { program := "ytgnpcfafdjebeaa", sum := "9475c414d517e491af15bdbf0debaaf30ac3f6565c5992da3890dcfe331a1a43", func := "loop.example/docalgebra/laws.FnExactNestLayout", spec := "fnExactNestLayout", inPlace := ["internal/bytealg.IndexByteString"], plainKeys := false, apart := false }
def FnExactNestLayoutSaid : Prop := fnExactNestLayoutRow.holds Try.pinned (OpenSpec.ofChange fnExactNestLayoutSpec)

/-- ITS FALSE NEIGHBOUR: 'it returns false'. Refute it at one input. -/
def fnExactNestLayoutWrong : ChangeSpec := { name := "fnExactNestLayout", fn := fun _ => fun
  | [d1, d2] => { results := [.lit (.bool false)], args := [d1, d2] }
  | _ => none }
def FnExactNestLayoutWrongFalsely : Prop := fnExactNestLayoutRow.holds Try.pinned (OpenSpec.ofChange fnExactNestLayoutWrong)

/-- 'laws.FnExactFlatText': WHATEVER THE INPUT: true; the input reads as it did. -/
def fnExactFlatTextSpec : ChangeSpec := { name := "fnExactFlatText", fn := fun _ => fun
  | [d] => { results := [.lit (.bool true)], args := [d] }
  | _ => none }
def fnExactFlatTextRow : OpenClaim := { program := "ytgnpcfafdjebeaa", sum := "9475c414d517e491af15bdbf0debaaf30ac3f6565c5992da3890dcfe331a1a43", func := "loop.example/docalgebra/laws.FnExactFlatText", spec := "fnExactFlatText", inPlace := ["internal/bytealg.IndexByteString", "internal/abi.NoEscape"], unfollowed := true, recurses := true, loops := true, plainKeys := false, apart := false }
def FnExactFlatTextSaid : Prop := fnExactFlatTextRow.holds Try.pinned (OpenSpec.ofChange fnExactFlatTextSpec)

/-- ITS FALSE NEIGHBOUR: 'it returns false'. Refute it at one input. -/
def fnExactFlatTextWrong : ChangeSpec := { name := "fnExactFlatText", fn := fun _ => fun
  | [d] => { results := [.lit (.bool false)], args := [d] }
  | _ => none }
def FnExactFlatTextWrongFalsely : Prop := fnExactFlatTextRow.holds Try.pinned (OpenSpec.ofChange fnExactFlatTextWrong)

/-- 'laws.FnExactOpenLayout': WHATEVER THE INPUT: true; the input reads as it did. -/
def fnExactOpenLayoutSpec : ChangeSpec := { name := "fnExactOpenLayout", fn := fun _ => fun
  | [d] => { results := [.lit (.bool true)], args := [d] }
  | _ => none }
def fnExactOpenLayoutRow : OpenClaim := { program := "ytgnpcfafdjebeaa", sum := "9475c414d517e491af15bdbf0debaaf30ac3f6565c5992da3890dcfe331a1a43", func := "loop.example/docalgebra/laws.FnExactOpenLayout", spec := "fnExactOpenLayout", inPlace := ["internal/bytealg.IndexByteString"], recurses := true, loops := true, plainKeys := false, apart := false }
def FnExactOpenLayoutSaid : Prop := fnExactOpenLayoutRow.holds Try.pinned (OpenSpec.ofChange fnExactOpenLayoutSpec)

/-- ITS FALSE NEIGHBOUR: 'it returns false'. Refute it at one input. -/
def fnExactOpenLayoutWrong : ChangeSpec := { name := "fnExactOpenLayout", fn := fun _ => fun
  | [d] => { results := [.lit (.bool false)], args := [d] }
  | _ => none }
def FnExactOpenLayoutWrongFalsely : Prop := fnExactOpenLayoutRow.holds Try.pinned (OpenSpec.ofChange fnExactOpenLayoutWrong)

/- THE SECOND FORM. 'bulk': how many values and letters a reading holds, each counted each time it is reached (what is shared counts as often as it is met; a slice's spare places count too). A statement '..UptoSaid' is the law's where the arguments, and the package variables that the reading takes, are together of bulk at most 1048576: NARROWER than '..Said'. Prove '..Said' where nothing that the law and all that it calls make is longer than what came in: it says more and counts as full. Else prove '..UptoSaid'. A law counts once. -/
mutual
def uptoBulk {H : Type} : DataW H → Nat
  | .lit (.string bytes) => bytes.length + 1
  | .lit _ => 1
  | .nil => 1
  | .ptr d => uptoBulk d + 1
  | .slice elems spare => uptoBulkAll elems + uptoBulkAll spare + 1
  | .agg parts => uptoBulkAll parts + 1
  | .iface _ d => uptoBulk d + 1
  | .map entries => uptoBulkEntries entries + 1
  | .held _ => 1
def uptoBulkAll {H : Type} : List (DataW H) → Nat
  | [] => 0
  | d :: r => uptoBulk d + uptoBulkAll r
def uptoBulkEntries {H : Type} : List (Lit × DataW H) → Nat
  | [] => 0
  | x :: r => uptoBulkEntry x + uptoBulkEntries r
def uptoBulkEntry {H : Type} : Lit × DataW H → Nat
  | (.string bytes, d) => bytes.length + uptoBulk d + 1
  | (_, d) => uptoBulk d + 1
 end
def uptoSmall : (H : Type) → List (DataW H) → Bool := fun _ ds => decide (uptoBulkAll ds ≤ 1048576)
def OpenSpec.upto (s : _root_.Go.ChangeSpec) : _root_.Go.OpenSpec := { _root_.Go.OpenSpec.ofChange s with cond := some uptoSmall }

/-- 'laws.FnCatLayouts', WHERE WHAT IT READS IS OF BULK AT MOST 1048576: true; the input reads as it did. -/
def fnCatLayoutsUptoRow : OpenClaim := { program := "ytgnpcfafdjebeaa", sum := "9475c414d517e491af15bdbf0debaaf30ac3f6565c5992da3890dcfe331a1a43", func := "loop.example/docalgebra/laws.FnCatLayouts", spec := "fnCatLayouts", inPlace := ["internal/bytealg.IndexByteString"], recurses := true, plainKeys := false, apart := false, narrowed := true }
def FnCatLayoutsUptoSaid : Prop := fnCatLayoutsUptoRow.holds Try.pinned (OpenSpec.upto fnCatLayoutsSpec)

/-- 'laws.FnNestLayout', WHERE WHAT IT READS IS OF BULK AT MOST 1048576: true; the input reads as it did. -/
def fnNestLayoutUptoRow : OpenClaim := { program := "ytgnpcfafdjebeaa", sum := "9475c414d517e491af15bdbf0debaaf30ac3f6565c5992da3890dcfe331a1a43", func := "loop.example/docalgebra/laws.FnNestLayout", spec := "fnNestLayout", inPlace := ["internal/bytealg.IndexByteString"], recurses := true, plainKeys := false, apart := false, narrowed := true }
def FnNestLayoutUptoSaid : Prop := fnNestLayoutUptoRow.holds Try.pinned (OpenSpec.upto fnNestLayoutSpec)

/-- 'laws.FnNestCat', WHERE WHAT IT READS IS OF BULK AT MOST 1048576: true; the input reads as it did. -/
def fnNestCatUptoRow : OpenClaim := { program := "ytgnpcfafdjebeaa", sum := "9475c414d517e491af15bdbf0debaaf30ac3f6565c5992da3890dcfe331a1a43", func := "loop.example/docalgebra/laws.FnNestCat", spec := "fnNestCat", inPlace := ["internal/bytealg.IndexByteString"], recurses := true, plainKeys := false, apart := false, narrowed := true }
def FnNestCatUptoSaid : Prop := fnNestCatUptoRow.holds Try.pinned (OpenSpec.upto fnNestCatSpec)

/-- 'laws.FnOpenLayout', WHERE WHAT IT READS IS OF BULK AT MOST 1048576: true; the input reads as it did. -/
def fnOpenLayoutUptoRow : OpenClaim := { program := "ytgnpcfafdjebeaa", sum := "9475c414d517e491af15bdbf0debaaf30ac3f6565c5992da3890dcfe331a1a43", func := "loop.example/docalgebra/laws.FnOpenLayout", spec := "fnOpenLayout", inPlace := ["internal/bytealg.IndexByteString"], unfollowed := true, recurses := true, plainKeys := false, apart := false, narrowed := true }
def FnOpenLayoutUptoSaid : Prop := fnOpenLayoutUptoRow.holds Try.pinned (OpenSpec.upto fnOpenLayoutSpec)

/-- 'laws.FnFlatText', WHERE WHAT IT READS IS OF BULK AT MOST 1048576: true; the input reads as it did. -/
def fnFlatTextUptoRow : OpenClaim := { program := "ytgnpcfafdjebeaa", sum := "9475c414d517e491af15bdbf0debaaf30ac3f6565c5992da3890dcfe331a1a43", func := "loop.example/docalgebra/laws.FnFlatText", spec := "fnFlatText", inPlace := ["internal/bytealg.IndexByteString", "internal/abi.NoEscape"], unfollowed := true, recurses := true, plainKeys := false, apart := false, narrowed := true }
def FnFlatTextUptoSaid : Prop := fnFlatTextUptoRow.holds Try.pinned (OpenSpec.upto fnFlatTextSpec)

/-- 'laws.FnLayoutWidth', WHERE WHAT IT READS IS OF BULK AT MOST 1048576: true; the input reads as it did. -/
def fnLayoutWidthUptoRow : OpenClaim := { program := "ytgnpcfafdjebeaa", sum := "9475c414d517e491af15bdbf0debaaf30ac3f6565c5992da3890dcfe331a1a43", func := "loop.example/docalgebra/laws.FnLayoutWidth", spec := "fnLayoutWidth", inPlace := ["internal/bytealg.IndexByteString", "internal/abi.NoEscape", "internal/bytealg.MakeNoZero"], recurses := true, plainKeys := false, apart := false, narrowed := true }
def FnLayoutWidthUptoSaid : Prop := fnLayoutWidthUptoRow.holds Try.pinned (OpenSpec.upto fnLayoutWidthSpec)

/-- 'laws.FnLayoutSame', WHERE WHAT IT READS IS OF BULK AT MOST 1048576: true; the input reads as it did. -/
def fnLayoutSameUptoRow : OpenClaim := { program := "ytgnpcfafdjebeaa", sum := "9475c414d517e491af15bdbf0debaaf30ac3f6565c5992da3890dcfe331a1a43", func := "loop.example/docalgebra/laws.FnLayoutSame", spec := "fnLayoutSame", inPlace := ["internal/bytealg.IndexByteString", "internal/abi.NoEscape", "internal/bytealg.MakeNoZero"], recurses := true, plainKeys := false, apart := false, narrowed := true }
def FnLayoutSameUptoSaid : Prop := fnLayoutSameUptoRow.holds Try.pinned (OpenSpec.upto fnLayoutSameSpec)

/-- 'laws.FnCatGroups', WHERE WHAT IT READS IS OF BULK AT MOST 1048576: true; the input reads as it did. -/
def fnCatGroupsUptoRow : OpenClaim := { program := "ytgnpcfafdjebeaa", sum := "9475c414d517e491af15bdbf0debaaf30ac3f6565c5992da3890dcfe331a1a43", func := "loop.example/docalgebra/laws.FnCatGroups", spec := "fnCatGroups", inPlace := ["internal/bytealg.IndexByteString"], recurses := true, plainKeys := false, apart := false, narrowed := true }
def FnCatGroupsUptoSaid : Prop := fnCatGroupsUptoRow.holds Try.pinned (OpenSpec.upto fnCatGroupsSpec)

/-- 'laws.FnCatEmpty', WHERE WHAT IT READS IS OF BULK AT MOST 1048576: true; the input reads as it did. -/
def fnCatEmptyUptoRow : OpenClaim := { program := "ytgnpcfafdjebeaa", sum := "9475c414d517e491af15bdbf0debaaf30ac3f6565c5992da3890dcfe331a1a43", func := "loop.example/docalgebra/laws.FnCatEmpty", spec := "fnCatEmpty", inPlace := ["internal/bytealg.IndexByteString"], recurses := true, plainKeys := false, apart := false, narrowed := true }
def FnCatEmptyUptoSaid : Prop := fnCatEmptyUptoRow.holds Try.pinned (OpenSpec.upto fnCatEmptySpec)

/-- 'laws.FnNestZero', WHERE WHAT IT READS IS OF BULK AT MOST 1048576: true; the input reads as it did. -/
def fnNestZeroUptoRow : OpenClaim := { program := "ytgnpcfafdjebeaa", sum := "9475c414d517e491af15bdbf0debaaf30ac3f6565c5992da3890dcfe331a1a43", func := "loop.example/docalgebra/laws.FnNestZero", spec := "fnNestZero", inPlace := ["internal/bytealg.IndexByteString"], recurses := true, plainKeys := false, apart := false, narrowed := true }
def FnNestZeroUptoSaid : Prop := fnNestZeroUptoRow.holds Try.pinned (OpenSpec.upto fnNestZeroSpec)

/-- 'laws.FnOpenNest', WHERE WHAT IT READS IS OF BULK AT MOST 1048576: true; the input reads as it did. -/
def fnOpenNestUptoRow : OpenClaim := { program := "ytgnpcfafdjebeaa", sum := "9475c414d517e491af15bdbf0debaaf30ac3f6565c5992da3890dcfe331a1a43", func := "loop.example/docalgebra/laws.FnOpenNest", spec := "fnOpenNest", inPlace := ["internal/bytealg.IndexByteString"], recurses := true, plainKeys := false, apart := false, narrowed := true }
def FnOpenNestUptoSaid : Prop := fnOpenNestUptoRow.holds Try.pinned (OpenSpec.upto fnOpenNestSpec)

/-- 'laws.FnOverflowSum', WHERE WHAT IT READS IS OF BULK AT MOST 1048576: true; the input reads as it did. -/
def fnOverflowSumUptoRow : OpenClaim := { program := "ytgnpcfafdjebeaa", sum := "9475c414d517e491af15bdbf0debaaf30ac3f6565c5992da3890dcfe331a1a43", func := "loop.example/docalgebra/laws.FnOverflowSum", spec := "fnOverflowSum", inPlace := ["internal/bytealg.IndexByteString", "internal/abi.NoEscape", "internal/bytealg.MakeNoZero"], recurses := true, plainKeys := false, apart := false, narrowed := true }
def FnOverflowSumUptoSaid : Prop := fnOverflowSumUptoRow.holds Try.pinned (OpenSpec.upto fnOverflowSumSpec)

/-- 'laws.FnExactLayoutValid', WHERE WHAT IT READS IS OF BULK AT MOST 1048576: true; the input reads as it did. -/
def fnExactLayoutValidUptoRow : OpenClaim := { program := "ytgnpcfafdjebeaa", sum := "9475c414d517e491af15bdbf0debaaf30ac3f6565c5992da3890dcfe331a1a43", func := "loop.example/docalgebra/laws.FnExactLayoutValid", spec := "fnExactLayoutValid", inPlace := ["internal/bytealg.IndexByteString"], plainKeys := false, apart := false, narrowed := true }
def FnExactLayoutValidUptoSaid : Prop := fnExactLayoutValidUptoRow.holds Try.pinned (OpenSpec.upto fnExactLayoutValidSpec)

/-- 'laws.FnExactLayoutSame', WHERE WHAT IT READS IS OF BULK AT MOST 1048576: true; the input reads as it did. -/
def fnExactLayoutSameUptoRow : OpenClaim := { program := "ytgnpcfafdjebeaa", sum := "9475c414d517e491af15bdbf0debaaf30ac3f6565c5992da3890dcfe331a1a43", func := "loop.example/docalgebra/laws.FnExactLayoutSame", spec := "fnExactLayoutSame", plainKeys := false, apart := false, narrowed := true }
def FnExactLayoutSameUptoSaid : Prop := fnExactLayoutSameUptoRow.holds Try.pinned (OpenSpec.upto fnExactLayoutSameSpec)

/-- 'laws.FnExactLayoutText', WHERE WHAT IT READS IS OF BULK AT MOST 1048576: true; the input reads as it did. -/
def fnExactLayoutTextUptoRow : OpenClaim := { program := "ytgnpcfafdjebeaa", sum := "9475c414d517e491af15bdbf0debaaf30ac3f6565c5992da3890dcfe331a1a43", func := "loop.example/docalgebra/laws.FnExactLayoutText", spec := "fnExactLayoutText", inPlace := ["internal/bytealg.IndexByteString", "internal/abi.NoEscape", "internal/bytealg.MakeNoZero"], plainKeys := false, apart := false, narrowed := true }
def FnExactLayoutTextUptoSaid : Prop := fnExactLayoutTextUptoRow.holds Try.pinned (OpenSpec.upto fnExactLayoutTextSpec)

/-- 'laws.FnExactLayoutWidth', WHERE WHAT IT READS IS OF BULK AT MOST 1048576: true; the input reads as it did. -/
def fnExactLayoutWidthUptoRow : OpenClaim := { program := "ytgnpcfafdjebeaa", sum := "9475c414d517e491af15bdbf0debaaf30ac3f6565c5992da3890dcfe331a1a43", func := "loop.example/docalgebra/laws.FnExactLayoutWidth", spec := "fnExactLayoutWidth", inPlace := ["internal/bytealg.IndexByteString"], plainKeys := false, apart := false, narrowed := true }
def FnExactLayoutWidthUptoSaid : Prop := fnExactLayoutWidthUptoRow.holds Try.pinned (OpenSpec.upto fnExactLayoutWidthSpec)

/-- 'laws.FnExactOverflow', WHERE WHAT IT READS IS OF BULK AT MOST 1048576: true; the input reads as it did. -/
def fnExactOverflowUptoRow : OpenClaim := { program := "ytgnpcfafdjebeaa", sum := "9475c414d517e491af15bdbf0debaaf30ac3f6565c5992da3890dcfe331a1a43", func := "loop.example/docalgebra/laws.FnExactOverflow", spec := "fnExactOverflow", inPlace := ["internal/bytealg.IndexByteString"], plainKeys := false, apart := false, narrowed := true }
def FnExactOverflowUptoSaid : Prop := fnExactOverflowUptoRow.holds Try.pinned (OpenSpec.upto fnExactOverflowSpec)

/-- 'laws.FnExactCatLayouts', WHERE WHAT IT READS IS OF BULK AT MOST 1048576: true; the input reads as it did. -/
def fnExactCatLayoutsUptoRow : OpenClaim := { program := "ytgnpcfafdjebeaa", sum := "9475c414d517e491af15bdbf0debaaf30ac3f6565c5992da3890dcfe331a1a43", func := "loop.example/docalgebra/laws.FnExactCatLayouts", spec := "fnExactCatLayouts", inPlace := ["internal/bytealg.IndexByteString"], plainKeys := false, apart := false, narrowed := true }
def FnExactCatLayoutsUptoSaid : Prop := fnExactCatLayoutsUptoRow.holds Try.pinned (OpenSpec.upto fnExactCatLayoutsSpec)

/-- 'laws.FnExactNestLayout', WHERE WHAT IT READS IS OF BULK AT MOST 1048576: true; the input reads as it did. -/
def fnExactNestLayoutUptoRow : OpenClaim := { program := "ytgnpcfafdjebeaa", sum := "9475c414d517e491af15bdbf0debaaf30ac3f6565c5992da3890dcfe331a1a43", func := "loop.example/docalgebra/laws.FnExactNestLayout", spec := "fnExactNestLayout", inPlace := ["internal/bytealg.IndexByteString"], plainKeys := false, apart := false, narrowed := true }
def FnExactNestLayoutUptoSaid : Prop := fnExactNestLayoutUptoRow.holds Try.pinned (OpenSpec.upto fnExactNestLayoutSpec)

/-- 'laws.FnExactFlatText', WHERE WHAT IT READS IS OF BULK AT MOST 1048576: true; the input reads as it did. -/
def fnExactFlatTextUptoRow : OpenClaim := { program := "ytgnpcfafdjebeaa", sum := "9475c414d517e491af15bdbf0debaaf30ac3f6565c5992da3890dcfe331a1a43", func := "loop.example/docalgebra/laws.FnExactFlatText", spec := "fnExactFlatText", inPlace := ["internal/bytealg.IndexByteString", "internal/abi.NoEscape"], unfollowed := true, recurses := true, loops := true, plainKeys := false, apart := false, narrowed := true }
def FnExactFlatTextUptoSaid : Prop := fnExactFlatTextUptoRow.holds Try.pinned (OpenSpec.upto fnExactFlatTextSpec)

/-- 'laws.FnExactOpenLayout', WHERE WHAT IT READS IS OF BULK AT MOST 1048576: true; the input reads as it did. -/
def fnExactOpenLayoutUptoRow : OpenClaim := { program := "ytgnpcfafdjebeaa", sum := "9475c414d517e491af15bdbf0debaaf30ac3f6565c5992da3890dcfe331a1a43", func := "loop.example/docalgebra/laws.FnExactOpenLayout", spec := "fnExactOpenLayout", inPlace := ["internal/bytealg.IndexByteString"], recurses := true, loops := true, plainKeys := false, apart := false, narrowed := true }
def FnExactOpenLayoutUptoSaid : Prop := fnExactOpenLayoutUptoRow.holds Try.pinned (OpenSpec.upto fnExactOpenLayoutSpec)

end Rows
end Go.Proofs.Ytgnpcfafdjebeaa
