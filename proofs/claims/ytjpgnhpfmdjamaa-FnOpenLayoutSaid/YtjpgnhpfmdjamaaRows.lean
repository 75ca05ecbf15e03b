/-
  NARROWER THAN 'FOR EVERY INPUT', by the rows' own cells (each row's printed sentence says how): FnExactDocSame: loops · FnExactDocSize: loops · FnExactCanFlatten: loops · FnExactCountOps: loops · FnExactFlatText: loops.
  DERIVED. THE GIVEN ROWS OF THIS SEAT. 15 by the template 'for every input the law returns true; each argument reads behind the call as it read before'; 0 by the template 'total and deterministic' (their statements: YtjpgnhpfmdjamaaTotals.lean).
  GIVEN WITH THE SEED: the statements are not yours to turn. If you find one false, say at which input.
  Laid BY PROGRAM, IN A SANDBOX (cutbox-rows.mjs): the forced cells as the released guide's own fill.sh prints them over the translation a2ed22768e1f8486… (all of the seat's roots in one cut). By AI agents, Wed Nov 11 2026. No macro, syntax, notation, axiom, sorry.
-/
import Derived.Test.YtjpgnhpfmdjamaaChecked
import GoSem.Claim
import GoSem.ClaimJoined
import GoSem.ClaimMapViews
import Derived.JoinedTies
import Derived.KernelRfl
namespace Go.Proofs.Ytjpgnhpfmdjamaa
/- THE CELL 'sum', in the pinned program and in every row, IS THE sha256 OF THE DUMP (.gsa) THAT YtjpgnhpfmdjamaaProg.lean LOADS. Nothing in Lean hashes anything: it is a label: what it is worth is what the hold of that sum in a sandbox is worth. -/
noncomputable def Try.pinned : Pinned := { name := "ytjpgnhpfmdjamaa", sum := "a2ed22768e1f8486cd1c5fcefc29ed51103a3d738d79badd63fe5c11cd051af4", checked := Try.checked }
namespace Rows
def none {H : Type} : Left H := { results := [], args := [] }

/-- 'laws.FnCatDocs': WHATEVER THE INPUT: true; the input reads as it did. -/
def fnCatDocsSpec : ChangeSpec := { name := "fnCatDocs", fn := fun _ => fun
  | [d] => { results := [.lit (.bool true)], args := [d] }
  | _ => none }
def fnCatDocsRow : OpenClaim := { program := "ytjpgnhpfmdjamaa", sum := "a2ed22768e1f8486cd1c5fcefc29ed51103a3d738d79badd63fe5c11cd051af4", func := "loop.example/docalgebra/laws.FnCatDocs", spec := "fnCatDocs", inPlace := ["internal/bytealg.IndexByteString"], unfollowed := true, recurses := true, plainKeys := false, apart := false }
def FnCatDocsSaid : Prop := fnCatDocsRow.holds Try.pinned (OpenSpec.ofChange fnCatDocsSpec)

/-- ITS FALSE NEIGHBOUR: 'it returns false'. Refute it at one input. -/
def fnCatDocsWrong : ChangeSpec := { name := "fnCatDocs", fn := fun _ => fun
  | [d] => { results := [.lit (.bool false)], args := [d] }
  | _ => none }
def FnCatDocsWrongFalsely : Prop := fnCatDocsRow.holds Try.pinned (OpenSpec.ofChange fnCatDocsWrong)

/-- 'laws.FnCountOps': WHATEVER THE INPUT: true; the input reads as it did. -/
def fnCountOpsSpec : ChangeSpec := { name := "fnCountOps", fn := fun _ => fun
  | [d] => { results := [.lit (.bool true)], args := [d] }
  | _ => none }
def fnCountOpsRow : OpenClaim := { program := "ytjpgnhpfmdjamaa", sum := "a2ed22768e1f8486cd1c5fcefc29ed51103a3d738d79badd63fe5c11cd051af4", func := "loop.example/docalgebra/laws.FnCountOps", spec := "fnCountOps", inPlace := ["internal/bytealg.IndexByteString"], unfollowed := true, recurses := true, plainKeys := false, apart := false }
def FnCountOpsSaid : Prop := fnCountOpsRow.holds Try.pinned (OpenSpec.ofChange fnCountOpsSpec)

/-- ITS FALSE NEIGHBOUR: 'it returns false'. Refute it at one input. -/
def fnCountOpsWrong : ChangeSpec := { name := "fnCountOps", fn := fun _ => fun
  | [d] => { results := [.lit (.bool false)], args := [d] }
  | _ => none }
def FnCountOpsWrongFalsely : Prop := fnCountOpsRow.holds Try.pinned (OpenSpec.ofChange fnCountOpsWrong)

/-- 'laws.FnDocParts': WHATEVER THE INPUT: true; the input reads as it did. -/
def fnDocPartsSpec : ChangeSpec := { name := "fnDocParts", fn := fun _ => fun
  | [d] => { results := [.lit (.bool true)], args := [d] }
  | _ => none }
def fnDocPartsRow : OpenClaim := { program := "ytjpgnhpfmdjamaa", sum := "a2ed22768e1f8486cd1c5fcefc29ed51103a3d738d79badd63fe5c11cd051af4", func := "loop.example/docalgebra/laws.FnDocParts", spec := "fnDocParts", inPlace := ["internal/bytealg.IndexByteString"], unfollowed := true, recurses := true, plainKeys := false, apart := false }
def FnDocPartsSaid : Prop := fnDocPartsRow.holds Try.pinned (OpenSpec.ofChange fnDocPartsSpec)

/-- ITS FALSE NEIGHBOUR: 'it returns false'. Refute it at one input. -/
def fnDocPartsWrong : ChangeSpec := { name := "fnDocParts", fn := fun _ => fun
  | [d] => { results := [.lit (.bool false)], args := [d] }
  | _ => none }
def FnDocPartsWrongFalsely : Prop := fnDocPartsRow.holds Try.pinned (OpenSpec.ofChange fnDocPartsWrong)

/-- 'laws.FnCatSame': WHATEVER THE INPUT: true; the input reads as it did. -/
def fnCatSameSpec : ChangeSpec := { name := "fnCatSame", fn := fun _ => fun
  | [d1, d2] => { results := [.lit (.bool true)], args := [d1, d2] }
  | _ => none }
def fnCatSameRow : OpenClaim := { program := "ytjpgnhpfmdjamaa", sum := "a2ed22768e1f8486cd1c5fcefc29ed51103a3d738d79badd63fe5c11cd051af4", func := "loop.example/docalgebra/laws.FnCatSame", spec := "fnCatSame", inPlace := ["internal/bytealg.IndexByteString"], recurses := true, plainKeys := false, apart := false }
def FnCatSameSaid : Prop := fnCatSameRow.holds Try.pinned (OpenSpec.ofChange fnCatSameSpec)

/-- ITS FALSE NEIGHBOUR: 'it returns false'. Refute it at one input. -/
def fnCatSameWrong : ChangeSpec := { name := "fnCatSame", fn := fun _ => fun
  | [d1, d2] => { results := [.lit (.bool false)], args := [d1, d2] }
  | _ => none }
def FnCatSameWrongFalsely : Prop := fnCatSameRow.holds Try.pinned (OpenSpec.ofChange fnCatSameWrong)

/-- 'laws.FnFlattenParts': WHATEVER THE INPUT: true; the input reads as it did. -/
def fnFlattenPartsSpec : ChangeSpec := { name := "fnFlattenParts", fn := fun _ => fun
  | [d] => { results := [.lit (.bool true)], args := [d] }
  | _ => none }
def fnFlattenPartsRow : OpenClaim := { program := "ytjpgnhpfmdjamaa", sum := "a2ed22768e1f8486cd1c5fcefc29ed51103a3d738d79badd63fe5c11cd051af4", func := "loop.example/docalgebra/laws.FnFlattenParts", spec := "fnFlattenParts", inPlace := ["internal/bytealg.IndexByteString"], unfollowed := true, recurses := true, plainKeys := false, apart := false }
def FnFlattenPartsSaid : Prop := fnFlattenPartsRow.holds Try.pinned (OpenSpec.ofChange fnFlattenPartsSpec)

/-- ITS FALSE NEIGHBOUR: 'it returns false'. Refute it at one input. -/
def fnFlattenPartsWrong : ChangeSpec := { name := "fnFlattenParts", fn := fun _ => fun
  | [d] => { results := [.lit (.bool false)], args := [d] }
  | _ => none }
def FnFlattenPartsWrongFalsely : Prop := fnFlattenPartsRow.holds Try.pinned (OpenSpec.ofChange fnFlattenPartsWrong)

/-- 'laws.FnCountParts': WHATEVER THE INPUT: true; the input reads as it did. -/
def fnCountPartsSpec : ChangeSpec := { name := "fnCountParts", fn := fun _ => fun
  | [d] => { results := [.lit (.bool true)], args := [d] }
  | _ => none }
def fnCountPartsRow : OpenClaim := { program := "ytjpgnhpfmdjamaa", sum := "a2ed22768e1f8486cd1c5fcefc29ed51103a3d738d79badd63fe5c11cd051af4", func := "loop.example/docalgebra/laws.FnCountParts", spec := "fnCountParts", unfollowed := true, recurses := true, plainKeys := false, apart := false }
def FnCountPartsSaid : Prop := fnCountPartsRow.holds Try.pinned (OpenSpec.ofChange fnCountPartsSpec)

/-- ITS FALSE NEIGHBOUR: 'it returns false'. Refute it at one input. -/
def fnCountPartsWrong : ChangeSpec := { name := "fnCountParts", fn := fun _ => fun
  | [d] => { results := [.lit (.bool false)], args := [d] }
  | _ => none }
def FnCountPartsWrongFalsely : Prop := fnCountPartsRow.holds Try.pinned (OpenSpec.ofChange fnCountPartsWrong)

/-- 'laws.FnParseSize': WHATEVER THE INPUT: true; the input reads as it did. -/
def fnParseSizeSpec : ChangeSpec := { name := "fnParseSize", fn := fun _ => fun
  | [d] => { results := [.lit (.bool true)], args := [d] }
  | _ => none }
def fnParseSizeRow : OpenClaim := { program := "ytjpgnhpfmdjamaa", sum := "a2ed22768e1f8486cd1c5fcefc29ed51103a3d738d79badd63fe5c11cd051af4", func := "loop.example/docalgebra/laws.FnParseSize", spec := "fnParseSize", inPlace := ["internal/bytealg.IndexByteString", "internal/bytealg.IndexString"], recurses := true, named := ["internal/bytealg.MaxLen"], plainKeys := false, apart := false }
def FnParseSizeSaid : Prop := fnParseSizeRow.holds Try.pinned (OpenSpec.ofChange fnParseSizeSpec)

/-- ITS FALSE NEIGHBOUR: 'it returns false'. Refute it at one input. -/
def fnParseSizeWrong : ChangeSpec := { name := "fnParseSize", fn := fun _ => fun
  | [d] => { results := [.lit (.bool false)], args := [d] }
  | _ => none }
def FnParseSizeWrongFalsely : Prop := fnParseSizeRow.holds Try.pinned (OpenSpec.ofChange fnParseSizeWrong)

/-- 'laws.FnOpenLayout': WHATEVER THE INPUT: true; the input reads as it did. -/
def fnOpenLayoutSpec : ChangeSpec := { name := "fnOpenLayout", fn := fun _ => fun
  | [d] => { results := [.lit (.bool true)], args := [d] }
  | _ => none }
def fnOpenLayoutRow : OpenClaim := { program := "ytjpgnhpfmdjamaa", sum := "a2ed22768e1f8486cd1c5fcefc29ed51103a3d738d79badd63fe5c11cd051af4", func := "loop.example/docalgebra/laws.FnOpenLayout", spec := "fnOpenLayout", inPlace := ["internal/bytealg.IndexByteString"], unfollowed := true, recurses := true, plainKeys := false, apart := false }
def FnOpenLayoutSaid : Prop := fnOpenLayoutRow.holds Try.pinned (OpenSpec.ofChange fnOpenLayoutSpec)

/-- ITS FALSE NEIGHBOUR: 'it returns false'. Refute it at one input. -/
def fnOpenLayoutWrong : ChangeSpec := { name := "fnOpenLayout", fn := fun _ => fun
  | [d] => { results := [.lit (.bool false)], args := [d] }
  | _ => none }
def FnOpenLayoutWrongFalsely : Prop := fnOpenLayoutRow.holds Try.pinned (OpenSpec.ofChange fnOpenLayoutWrong)

/-- 'laws.FnFlatText': WHATEVER THE INPUT: true; the input reads as it did. -/
def fnFlatTextSpec : ChangeSpec := { name := "fnFlatText", fn := fun _ => fun
  | [d] => { results := [.lit (.bool true)], args := [d] }
  | _ => none }
def fnFlatTextRow : OpenClaim := { program := "ytjpgnhpfmdjamaa", sum := "a2ed22768e1f8486cd1c5fcefc29ed51103a3d738d79badd63fe5c11cd051af4", func := "loop.example/docalgebra/laws.FnFlatText", spec := "fnFlatText", inPlace := ["internal/bytealg.IndexByteString", "internal/abi.NoEscape"], unfollowed := true, recurses := true, plainKeys := false, apart := false }
def FnFlatTextSaid : Prop := fnFlatTextRow.holds Try.pinned (OpenSpec.ofChange fnFlatTextSpec)

/-- ITS FALSE NEIGHBOUR: 'it returns false'. Refute it at one input. -/
def fnFlatTextWrong : ChangeSpec := { name := "fnFlatText", fn := fun _ => fun
  | [d] => { results := [.lit (.bool false)], args := [d] }
  | _ => none }
def FnFlatTextWrongFalsely : Prop := fnFlatTextRow.holds Try.pinned (OpenSpec.ofChange fnFlatTextWrong)

/-- 'laws.FnOpenNest': WHATEVER THE INPUT: true; the input reads as it did. -/
def fnOpenNestSpec : ChangeSpec := { name := "fnOpenNest", fn := fun _ => fun
  | [d] => { results := [.lit (.bool true)], args := [d] }
  | _ => none }
def fnOpenNestRow : OpenClaim := { program := "ytjpgnhpfmdjamaa", sum := "a2ed22768e1f8486cd1c5fcefc29ed51103a3d738d79badd63fe5c11cd051af4", func := "loop.example/docalgebra/laws.FnOpenNest", spec := "fnOpenNest", inPlace := ["internal/bytealg.IndexByteString"], recurses := true, plainKeys := false, apart := false }
def FnOpenNestSaid : Prop := fnOpenNestRow.holds Try.pinned (OpenSpec.ofChange fnOpenNestSpec)

/-- ITS FALSE NEIGHBOUR: 'it returns false'. Refute it at one input. -/
def fnOpenNestWrong : ChangeSpec := { name := "fnOpenNest", fn := fun _ => fun
  | [d] => { results := [.lit (.bool false)], args := [d] }
  | _ => none }
def FnOpenNestWrongFalsely : Prop := fnOpenNestRow.holds Try.pinned (OpenSpec.ofChange fnOpenNestWrong)

/-- 'laws.FnExactDocSame': WHATEVER THE INPUT: true; the input reads as it did. -/
def fnExactDocSameSpec : ChangeSpec := { name := "fnExactDocSame", fn := fun _ => fun
  | [d1, d2] => { results := [.lit (.bool true)], args := [d1, d2] }
  | _ => none }
def fnExactDocSameRow : OpenClaim := { program := "ytjpgnhpfmdjamaa", sum := "a2ed22768e1f8486cd1c5fcefc29ed51103a3d738d79badd63fe5c11cd051af4", func := "loop.example/docalgebra/laws.FnExactDocSame", spec := "fnExactDocSame", recurses := true, loops := true, plainKeys := false, apart := false }
def FnExactDocSameSaid : Prop := fnExactDocSameRow.holds Try.pinned (OpenSpec.ofChange fnExactDocSameSpec)

/-- ITS FALSE NEIGHBOUR: 'it returns false'. Refute it at one input. -/
def fnExactDocSameWrong : ChangeSpec := { name := "fnExactDocSame", fn := fun _ => fun
  | [d1, d2] => { results := [.lit (.bool false)], args := [d1, d2] }
  | _ => none }
def FnExactDocSameWrongFalsely : Prop := fnExactDocSameRow.holds Try.pinned (OpenSpec.ofChange fnExactDocSameWrong)

/-- 'laws.FnExactDocSize': WHATEVER THE INPUT: true; the input reads as it did. -/
def fnExactDocSizeSpec : ChangeSpec := { name := "fnExactDocSize", fn := fun _ => fun
  | [d] => { results := [.lit (.bool true)], args := [d] }
  | _ => none }
def fnExactDocSizeRow : OpenClaim := { program := "ytjpgnhpfmdjamaa", sum := "a2ed22768e1f8486cd1c5fcefc29ed51103a3d738d79badd63fe5c11cd051af4", func := "loop.example/docalgebra/laws.FnExactDocSize", spec := "fnExactDocSize", unfollowed := true, recurses := true, loops := true, plainKeys := false, apart := false }
def FnExactDocSizeSaid : Prop := fnExactDocSizeRow.holds Try.pinned (OpenSpec.ofChange fnExactDocSizeSpec)

/-- ITS FALSE NEIGHBOUR: 'it returns false'. Refute it at one input. -/
def fnExactDocSizeWrong : ChangeSpec := { name := "fnExactDocSize", fn := fun _ => fun
  | [d] => { results := [.lit (.bool false)], args := [d] }
  | _ => none }
def FnExactDocSizeWrongFalsely : Prop := fnExactDocSizeRow.holds Try.pinned (OpenSpec.ofChange fnExactDocSizeWrong)

/-- 'laws.FnExactCanFlatten': WHATEVER THE INPUT: true; the input reads as it did. -/
def fnExactCanFlattenSpec : ChangeSpec := { name := "fnExactCanFlatten", fn := fun _ => fun
  | [d] => { results := [.lit (.bool true)], args := [d] }
  | _ => none }
def fnExactCanFlattenRow : OpenClaim := { program := "ytjpgnhpfmdjamaa", sum := "a2ed22768e1f8486cd1c5fcefc29ed51103a3d738d79badd63fe5c11cd051af4", func := "loop.example/docalgebra/laws.FnExactCanFlatten", spec := "fnExactCanFlatten", inPlace := ["internal/bytealg.IndexByteString"], unfollowed := true, recurses := true, loops := true, plainKeys := false, apart := false }
def FnExactCanFlattenSaid : Prop := fnExactCanFlattenRow.holds Try.pinned (OpenSpec.ofChange fnExactCanFlattenSpec)

/-- ITS FALSE NEIGHBOUR: 'it returns false'. Refute it at one input. -/
def fnExactCanFlattenWrong : ChangeSpec := { name := "fnExactCanFlatten", fn := fun _ => fun
  | [d] => { results := [.lit (.bool false)], args := [d] }
  | _ => none }
def FnExactCanFlattenWrongFalsely : Prop := fnExactCanFlattenRow.holds Try.pinned (OpenSpec.ofChange fnExactCanFlattenWrong)

/-- 'laws.FnExactCountOps': WHATEVER THE INPUT: true; the input reads as it did. -/
def fnExactCountOpsSpec : ChangeSpec := { name := "fnExactCountOps", fn := fun _ => fun
  | [d1, d2] => { results := [.lit (.bool true)], args := [d1, d2] }
  | _ => none }
def fnExactCountOpsRow : OpenClaim := { program := "ytjpgnhpfmdjamaa", sum := "a2ed22768e1f8486cd1c5fcefc29ed51103a3d738d79badd63fe5c11cd051af4", func := "loop.example/docalgebra/laws.FnExactCountOps", spec := "fnExactCountOps", unfollowed := true, recurses := true, loops := true, plainKeys := false, apart := false }
def FnExactCountOpsSaid : Prop := fnExactCountOpsRow.holds Try.pinned (OpenSpec.ofChange fnExactCountOpsSpec)

/-- ITS FALSE NEIGHBOUR: 'it returns false'. Refute it at one input. -/
def fnExactCountOpsWrong : ChangeSpec := { name := "fnExactCountOps", fn := fun _ => fun
  | [d1, d2] => { results := [.lit (.bool false)], args := [d1, d2] }
  | _ => none }
def FnExactCountOpsWrongFalsely : Prop := fnExactCountOpsRow.holds Try.pinned (OpenSpec.ofChange fnExactCountOpsWrong)

/-- 'laws.FnExactFlatText': WHATEVER THE INPUT: true; the input reads as it did. -/
def fnExactFlatTextSpec : ChangeSpec := { name := "fnExactFlatText", fn := fun _ => fun
  | [d] => { results := [.lit (.bool true)], args := [d] }
  | _ => none }
def fnExactFlatTextRow : OpenClaim := { program := "ytjpgnhpfmdjamaa", sum := "a2ed22768e1f8486cd1c5fcefc29ed51103a3d738d79badd63fe5c11cd051af4", func := "loop.example/docalgebra/laws.FnExactFlatText", spec := "fnExactFlatText", inPlace := ["internal/bytealg.IndexByteString", "internal/abi.NoEscape"], unfollowed := true, recurses := true, loops := true, plainKeys := false, apart := false }
def FnExactFlatTextSaid : Prop := fnExactFlatTextRow.holds Try.pinned (OpenSpec.ofChange fnExactFlatTextSpec)

/-- ITS FALSE NEIGHBOUR: 'it returns false'. Refute it at one input. -/
def fnExactFlatTextWrong : ChangeSpec := { name := "fnExactFlatText", fn := fun _ => fun
  | [d] => { results := [.lit (.bool false)], args := [d] }
  | _ => none }
def FnExactFlatTextWrongFalsely : Prop := fnExactFlatTextRow.holds Try.pinned (OpenSpec.ofChange fnExactFlatTextWrong)

/- THE SECOND FORM. 'bulk': how many values and letters a reading holds, each counted each time it is reached (what is shared counts as often as it is met; a slice's spare places count too). A statement '..UptoSaid' is the law's where the arguments, and the package variables that the reading takes, are together of bulk at most 1048576: NARROWER than '..Said'. Prove '..Said' where nothing that the law and all that it calls make is longer than what came in: it says more and counts as full. Else prove '..UptoSaid'. A law counts once. -/
mutual
def uptoBulk {H : Type} : DataW H → Nat
  | .lit (.string bytes) => bytes.length + 1
  | .lit _ => 1
  | .nil => 1
  | .ptr d => uptoBulk d + 1
  | .slice elems spare => uptoBulkAll elems + uptoBulkAll spare + 1
  | .agg parts => uptoBulkAll parts + 1
  | .iface _ d => uptoBulk d + 1
  | .map entries => uptoBulkEntries entries + 1
  | .held _ => 1
def uptoBulkAll {H : Type} : List (DataW H) → Nat
  | [] => 0
  | d :: r => uptoBulk d + uptoBulkAll r
def uptoBulkEntries {H : Type} : List (Lit × DataW H) → Nat
  | [] => 0
  | x :: r => uptoBulkEntry x + uptoBulkEntries r
def uptoBulkEntry {H : Type} : Lit × DataW H → Nat
  | (.string bytes, d) => bytes.length + uptoBulk d + 1
  | (_, d) => uptoBulk d + 1
 end
def uptoSmall : (H : Type) → List (DataW H) → Bool := fun _ ds => decide (uptoBulkAll ds ≤ 1048576)
def OpenSpec.upto (s : _root_.Go.ChangeSpec) : _root_.Go.OpenSpec := { _root_.Go.OpenSpec.ofChange s with cond := some uptoSmall }

/-- 'laws.FnCatDocs', WHERE WHAT IT READS IS OF BULK AT MOST 1048576: true; the input reads as it did. -/
def fnCatDocsUptoRow : OpenClaim := { program := "ytjpgnhpfmdjamaa", sum := "a2ed22768e1f8486cd1c5fcefc29ed51103a3d738d79badd63fe5c11cd051af4", func := "loop.example/docalgebra/laws.FnCatDocs", spec := "fnCatDocs", inPlace := ["internal/bytealg.IndexByteString"], unfollowed := true, recurses := true, plainKeys := false, apart := false, narrowed := true }
def FnCatDocsUptoSaid : Prop := fnCatDocsUptoRow.holds Try.pinned (OpenSpec.upto fnCatDocsSpec)

/-- 'laws.FnCountOps', WHERE WHAT IT READS IS OF BULK AT MOST 1048576: true; the input reads as it did. -/
def fnCountOpsUptoRow : OpenClaim := { program := "ytjpgnhpfmdjamaa", sum := "a2ed22768e1f8486cd1c5fcefc29ed51103a3d738d79badd63fe5c11cd051af4", func := "loop.example/docalgebra/laws.FnCountOps", spec := "fnCountOps", inPlace := ["internal/bytealg.IndexByteString"], unfollowed := true, recurses := true, plainKeys := false, apart := false, narrowed := true }
def FnCountOpsUptoSaid : Prop := fnCountOpsUptoRow.holds Try.pinned (OpenSpec.upto fnCountOpsSpec)

/-- 'laws.FnDocParts', WHERE WHAT IT READS IS OF BULK AT MOST 1048576: true; the input reads as it did. -/
def fnDocPartsUptoRow : OpenClaim := { program := "ytjpgnhpfmdjamaa", sum := "a2ed22768e1f8486cd1c5fcefc29ed51103a3d738d79badd63fe5c11cd051af4", func := "loop.example/docalgebra/laws.FnDocParts", spec := "fnDocParts", inPlace := ["internal/bytealg.IndexByteString"], unfollowed := true, recurses := true, plainKeys := false, apart := false, narrowed := true }
def FnDocPartsUptoSaid : Prop := fnDocPartsUptoRow.holds Try.pinned (OpenSpec.upto fnDocPartsSpec)

/-- 'laws.FnCatSame', WHERE WHAT IT READS IS OF BULK AT MOST 1048576: true; the input reads as it did. -/
def fnCatSameUptoRow : OpenClaim := { program := "ytjpgnhpfmdjamaa", sum := "a2ed22768e1f8486cd1c5fcefc29ed51103a3d738d79badd63fe5c11cd051af4", func := "loop.example/docalgebra/laws.FnCatSame", spec := "fnCatSame", inPlace := ["internal/bytealg.IndexByteString"], recurses := true, plainKeys := false, apart := false, narrowed := true }
def FnCatSameUptoSaid : Prop := fnCatSameUptoRow.holds Try.pinned (OpenSpec.upto fnCatSameSpec)

/-- 'laws.FnFlattenParts', WHERE WHAT IT READS IS OF BULK AT MOST 1048576: true; the input reads as it did. -/
def fnFlattenPartsUptoRow : OpenClaim := { program := "ytjpgnhpfmdjamaa", sum := "a2ed22768e1f8486cd1c5fcefc29ed51103a3d738d79badd63fe5c11cd051af4", func := "loop.example/docalgebra/laws.FnFlattenParts", spec := "fnFlattenParts", inPlace := ["internal/bytealg.IndexByteString"], unfollowed := true, recurses := true, plainKeys := false, apart := false, narrowed := true }
def FnFlattenPartsUptoSaid : Prop := fnFlattenPartsUptoRow.holds Try.pinned (OpenSpec.upto fnFlattenPartsSpec)

/-- 'laws.FnCountParts', WHERE WHAT IT READS IS OF BULK AT MOST 1048576: true; the input reads as it did. -/
def fnCountPartsUptoRow : OpenClaim := { program := "ytjpgnhpfmdjamaa", sum := "a2ed22768e1f8486cd1c5fcefc29ed51103a3d738d79badd63fe5c11cd051af4", func := "loop.example/docalgebra/laws.FnCountParts", spec := "fnCountParts", unfollowed := true, recurses := true, plainKeys := false, apart := false, narrowed := true }
def FnCountPartsUptoSaid : Prop := fnCountPartsUptoRow.holds Try.pinned (OpenSpec.upto fnCountPartsSpec)

/-- 'laws.FnParseSize', WHERE WHAT IT READS IS OF BULK AT MOST 1048576: true; the input reads as it did. -/
def fnParseSizeUptoRow : OpenClaim := { program := "ytjpgnhpfmdjamaa", sum := "a2ed22768e1f8486cd1c5fcefc29ed51103a3d738d79badd63fe5c11cd051af4", func := "loop.example/docalgebra/laws.FnParseSize", spec := "fnParseSize", inPlace := ["internal/bytealg.IndexByteString", "internal/bytealg.IndexString"], recurses := true, named := ["internal/bytealg.MaxLen"], plainKeys := false, apart := false, narrowed := true }
def FnParseSizeUptoSaid : Prop := fnParseSizeUptoRow.holds Try.pinned (OpenSpec.upto fnParseSizeSpec)

/-- 'laws.FnOpenLayout', WHERE WHAT IT READS IS OF BULK AT MOST 1048576: true; the input reads as it did. -/
def fnOpenLayoutUptoRow : OpenClaim := { program := "ytjpgnhpfmdjamaa", sum := "a2ed22768e1f8486cd1c5fcefc29ed51103a3d738d79badd63fe5c11cd051af4", func := "loop.example/docalgebra/laws.FnOpenLayout", spec := "fnOpenLayout", inPlace := ["internal/bytealg.IndexByteString"], unfollowed := true, recurses := true, plainKeys := false, apart := false, narrowed := true }
def FnOpenLayoutUptoSaid : Prop := fnOpenLayoutUptoRow.holds Try.pinned (OpenSpec.upto fnOpenLayoutSpec)

/-- 'laws.FnFlatText', WHERE WHAT IT READS IS OF BULK AT MOST 1048576: true; the input reads as it did. -/
def fnFlatTextUptoRow : OpenClaim := { program := "ytjpgnhpfmdjamaa", sum := "a2ed22768e1f8486cd1c5fcefc29ed51103a3d738d79badd63fe5c11cd051af4", func := "loop.example/docalgebra/laws.FnFlatText", spec := "fnFlatText", inPlace := ["internal/bytealg.IndexByteString", "internal/abi.NoEscape"], unfollowed := true, recurses := true, plainKeys := false, apart := false, narrowed := true }
def FnFlatTextUptoSaid : Prop := fnFlatTextUptoRow.holds Try.pinned (OpenSpec.upto fnFlatTextSpec)

/-- 'laws.FnOpenNest', WHERE WHAT IT READS IS OF BULK AT MOST 1048576: true; the input reads as it did. -/
def fnOpenNestUptoRow : OpenClaim := { program := "ytjpgnhpfmdjamaa", sum := "a2ed22768e1f8486cd1c5fcefc29ed51103a3d738d79badd63fe5c11cd051af4", func := "loop.example/docalgebra/laws.FnOpenNest", spec := "fnOpenNest", inPlace := ["internal/bytealg.IndexByteString"], recurses := true, plainKeys := false, apart := false, narrowed := true }
def FnOpenNestUptoSaid : Prop := fnOpenNestUptoRow.holds Try.pinned (OpenSpec.upto fnOpenNestSpec)

/-- 'laws.FnExactDocSame', WHERE WHAT IT READS IS OF BULK AT MOST 1048576: true; the input reads as it did. -/
def fnExactDocSameUptoRow : OpenClaim := { program := "ytjpgnhpfmdjamaa", sum := "a2ed22768e1f8486cd1c5fcefc29ed51103a3d738d79badd63fe5c11cd051af4", func := "loop.example/docalgebra/laws.FnExactDocSame", spec := "fnExactDocSame", recurses := true, loops := true, plainKeys := false, apart := false, narrowed := true }
def FnExactDocSameUptoSaid : Prop := fnExactDocSameUptoRow.holds Try.pinned (OpenSpec.upto fnExactDocSameSpec)

/-- 'laws.FnExactDocSize', WHERE WHAT IT READS IS OF BULK AT MOST 1048576: true; the input reads as it did. -/
def fnExactDocSizeUptoRow : OpenClaim := { program := "ytjpgnhpfmdjamaa", sum := "a2ed22768e1f8486cd1c5fcefc29ed51103a3d738d79badd63fe5c11cd051af4", func := "loop.example/docalgebra/laws.FnExactDocSize", spec := "fnExactDocSize", unfollowed := true, recurses := true, loops := true, plainKeys := false, apart := false, narrowed := true }
def FnExactDocSizeUptoSaid : Prop := fnExactDocSizeUptoRow.holds Try.pinned (OpenSpec.upto fnExactDocSizeSpec)

/-- 'laws.FnExactCanFlatten', WHERE WHAT IT READS IS OF BULK AT MOST 1048576: true; the input reads as it did. -/
def fnExactCanFlattenUptoRow : OpenClaim := { program := "ytjpgnhpfmdjamaa", sum := "a2ed22768e1f8486cd1c5fcefc29ed51103a3d738d79badd63fe5c11cd051af4", func := "loop.example/docalgebra/laws.FnExactCanFlatten", spec := "fnExactCanFlatten", inPlace := ["internal/bytealg.IndexByteString"], unfollowed := true, recurses := true, loops := true, plainKeys := false, apart := false, narrowed := true }
def FnExactCanFlattenUptoSaid : Prop := fnExactCanFlattenUptoRow.holds Try.pinned (OpenSpec.upto fnExactCanFlattenSpec)

/-- 'laws.FnExactCountOps', WHERE WHAT IT READS IS OF BULK AT MOST 1048576: true; the input reads as it did. -/
def fnExactCountOpsUptoRow : OpenClaim := { program := "ytjpgnhpfmdjamaa", sum := "a2ed22768e1f8486cd1c5fcefc29ed51103a3d738d79badd63fe5c11cd051af4", func := "loop.example/docalgebra/laws.FnExactCountOps", spec := "fnExactCountOps", unfollowed := true, recurses := true, loops := true, plainKeys := false, apart := false, narrowed := true }
def FnExactCountOpsUptoSaid : Prop := fnExactCountOpsUptoRow.holds Try.pinned (OpenSpec.upto fnExactCountOpsSpec)

/-- 'laws.FnExactFlatText', WHERE WHAT IT READS IS OF BULK AT MOST 1048576: true; the input reads as it did. -/
def fnExactFlatTextUptoRow : OpenClaim := { program := "ytjpgnhpfmdjamaa", sum := "a2ed22768e1f8486cd1c5fcefc29ed51103a3d738d79badd63fe5c11cd051af4", func := "loop.example/docalgebra/laws.FnExactFlatText", spec := "fnExactFlatText", inPlace := ["internal/bytealg.IndexByteString", "internal/abi.NoEscape"], unfollowed := true, recurses := true, loops := true, plainKeys := false, apart := false, narrowed := true }
def FnExactFlatTextUptoSaid : Prop := fnExactFlatTextUptoRow.holds Try.pinned (OpenSpec.upto fnExactFlatTextSpec)

end Rows
end Go.Proofs.Ytjpgnhpfmdjamaa
