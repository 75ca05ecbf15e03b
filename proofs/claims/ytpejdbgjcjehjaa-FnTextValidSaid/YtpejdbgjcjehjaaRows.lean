/-
  NARROWER THAN 'FOR EVERY INPUT', by the rows' own cells (each row's printed sentence says how): FnExactDocValid: loops · FnExactDocSame: loops · FnExactDocSize: loops · FnExactCatDocs: loops · FnExactCanFlatten: loops · FnExactCountOps: loops.
  DERIVED. THE GIVEN ROWS OF THIS SEAT. 16 by the template 'for every input the law returns true; each argument reads behind the call as it read before'; 0 by the template 'total and deterministic' (their statements: YtpejdbgjcjehjaaTotals.lean).
  GIVEN WITH THE SEED: the statements are not yours to turn. If you find one false, say at which input.
  Laid BY PROGRAM, IN A SANDBOX (cutbox-rows.mjs): the forced cells as the released guide's own fill.sh prints them over the translation 0e2f1e75b8fca297… (all of the seat's roots in one cut). By AI agents, Wed Nov 11 2026. No macro, syntax, notation, axiom, sorry.
-/
import Derived.Test.YtpejdbgjcjehjaaChecked
import GoSem.Claim
import GoSem.ClaimJoined
import GoSem.ClaimMapViews
import Derived.JoinedTies
import Derived.KernelRfl
namespace Go.Proofs.Ytpejdbgjcjehjaa
/- THE CELL 'sum', in the pinned program and in every row, IS THE sha256 OF THE DUMP (.gsa) THAT YtpejdbgjcjehjaaProg.lean LOADS. Nothing in Lean hashes anything: it is a label: what it is worth is what the hold of that sum in a sandbox is worth. -/
noncomputable def Try.pinned : Pinned := { name := "ytpejdbgjcjehjaa", sum := "0e2f1e75b8fca297c65bf0d521df838dec76a2c5da6bb8403138987bafb4fc1b", checked := Try.checked }
namespace Rows
def none {H : Type} : Left H := { results := [], args := [] }

/-- 'laws.FnCatDocs': WHATEVER THE INPUT: true; the input reads as it did. -/
def fnCatDocsSpec : ChangeSpec := { name := "fnCatDocs", fn := fun _ => fun
  | [d] => { results := [.lit (.bool true)], args := [d] }
  | _ => none }
def fnCatDocsRow : OpenClaim := { program := "ytpejdbgjcjehjaa", sum := "0e2f1e75b8fca297c65bf0d521df838dec76a2c5da6bb8403138987bafb4fc1b", func := "loop.example/docalgebra/laws.FnCatDocs", spec := "fnCatDocs", inPlace := ["internal/bytealg.IndexByteString"], unfollowed := true, recurses := true, plainKeys := false, apart := false }
def FnCatDocsSaid : Prop := fnCatDocsRow.holds Try.pinned (OpenSpec.ofChange fnCatDocsSpec)

/-- ITS FALSE NEIGHBOUR: 'it returns false'. Refute it at one input. -/
def fnCatDocsWrong : ChangeSpec := { name := "fnCatDocs", fn := fun _ => fun
  | [d] => { results := [.lit (.bool false)], args := [d] }
  | _ => none }
def FnCatDocsWrongFalsely : Prop := fnCatDocsRow.holds Try.pinned (OpenSpec.ofChange fnCatDocsWrong)

/-- 'laws.FnCountOps': WHATEVER THE INPUT: true; the input reads as it did. -/
def fnCountOpsSpec : ChangeSpec := { name := "fnCountOps", fn := fun _ => fun
  | [d] => { results := [.lit (.bool true)], args := [d] }
  | _ => none }
def fnCountOpsRow : OpenClaim := { program := "ytpejdbgjcjehjaa", sum := "0e2f1e75b8fca297c65bf0d521df838dec76a2c5da6bb8403138987bafb4fc1b", func := "loop.example/docalgebra/laws.FnCountOps", spec := "fnCountOps", inPlace := ["internal/bytealg.IndexByteString"], unfollowed := true, recurses := true, plainKeys := false, apart := false }
def FnCountOpsSaid : Prop := fnCountOpsRow.holds Try.pinned (OpenSpec.ofChange fnCountOpsSpec)

/-- ITS FALSE NEIGHBOUR: 'it returns false'. Refute it at one input. -/
def fnCountOpsWrong : ChangeSpec := { name := "fnCountOps", fn := fun _ => fun
  | [d] => { results := [.lit (.bool false)], args := [d] }
  | _ => none }
def FnCountOpsWrongFalsely : Prop := fnCountOpsRow.holds Try.pinned (OpenSpec.ofChange fnCountOpsWrong)

/-- 'laws.FnDocParts': WHATEVER THE INPUT: true; the input reads as it did. -/
def fnDocPartsSpec : ChangeSpec := { name := "fnDocParts", fn := fun _ => fun
  | [d] => { results := [.lit (.bool true)], args := [d] }
  | _ => none }
def fnDocPartsRow : OpenClaim := { program := "ytpejdbgjcjehjaa", sum := "0e2f1e75b8fca297c65bf0d521df838dec76a2c5da6bb8403138987bafb4fc1b", func := "loop.example/docalgebra/laws.FnDocParts", spec := "fnDocParts", inPlace := ["internal/bytealg.IndexByteString"], unfollowed := true, recurses := true, plainKeys := false, apart := false }
def FnDocPartsSaid : Prop := fnDocPartsRow.holds Try.pinned (OpenSpec.ofChange fnDocPartsSpec)

/-- ITS FALSE NEIGHBOUR: 'it returns false'. Refute it at one input. -/
def fnDocPartsWrong : ChangeSpec := { name := "fnDocParts", fn := fun _ => fun
  | [d] => { results := [.lit (.bool false)], args := [d] }
  | _ => none }
def FnDocPartsWrongFalsely : Prop := fnDocPartsRow.holds Try.pinned (OpenSpec.ofChange fnDocPartsWrong)

/-- 'laws.FnTextValid': WHATEVER THE INPUT: true; the input reads as it did. -/
def fnTextValidSpec : ChangeSpec := { name := "fnTextValid", fn := fun _ => fun
  | [d] => { results := [.lit (.bool true)], args := [d] }
  | _ => none }
def fnTextValidRow : OpenClaim := { program := "ytpejdbgjcjehjaa", sum := "0e2f1e75b8fca297c65bf0d521df838dec76a2c5da6bb8403138987bafb4fc1b", func := "loop.example/docalgebra/laws.FnTextValid", spec := "fnTextValid", inPlace := ["internal/bytealg.IndexByteString", "internal/bytealg.IndexString"], recurses := true, named := ["internal/bytealg.MaxLen"], plainKeys := false, apart := false }
def FnTextValidSaid : Prop := fnTextValidRow.holds Try.pinned (OpenSpec.ofChange fnTextValidSpec)

/-- ITS FALSE NEIGHBOUR: 'it returns false'. Refute it at one input. -/
def fnTextValidWrong : ChangeSpec := { name := "fnTextValid", fn := fun _ => fun
  | [d] => { results := [.lit (.bool false)], args := [d] }
  | _ => none }
def FnTextValidWrongFalsely : Prop := fnTextValidRow.holds Try.pinned (OpenSpec.ofChange fnTextValidWrong)

/-- 'laws.FnCatSame': WHATEVER THE INPUT: true; the input reads as it did. -/
def fnCatSameSpec : ChangeSpec := { name := "fnCatSame", fn := fun _ => fun
  | [d1, d2] => { results := [.lit (.bool true)], args := [d1, d2] }
  | _ => none }
def fnCatSameRow : OpenClaim := { program := "ytpejdbgjcjehjaa", sum := "0e2f1e75b8fca297c65bf0d521df838dec76a2c5da6bb8403138987bafb4fc1b", func := "loop.example/docalgebra/laws.FnCatSame", spec := "fnCatSame", inPlace := ["internal/bytealg.IndexByteString"], recurses := true, plainKeys := false, apart := false }
def FnCatSameSaid : Prop := fnCatSameRow.holds Try.pinned (OpenSpec.ofChange fnCatSameSpec)

/-- ITS FALSE NEIGHBOUR: 'it returns false'. Refute it at one input. -/
def fnCatSameWrong : ChangeSpec := { name := "fnCatSame", fn := fun _ => fun
  | [d1, d2] => { results := [.lit (.bool false)], args := [d1, d2] }
  | _ => none }
def FnCatSameWrongFalsely : Prop := fnCatSameRow.holds Try.pinned (OpenSpec.ofChange fnCatSameWrong)

/-- 'laws.FnFlattenParts': WHATEVER THE INPUT: true; the input reads as it did. -/
def fnFlattenPartsSpec : ChangeSpec := { name := "fnFlattenParts", fn := fun _ => fun
  | [d] => { results := [.lit (.bool true)], args := [d] }
  | _ => none }
def fnFlattenPartsRow : OpenClaim := { program := "ytpejdbgjcjehjaa", sum := "0e2f1e75b8fca297c65bf0d521df838dec76a2c5da6bb8403138987bafb4fc1b", func := "loop.example/docalgebra/laws.FnFlattenParts", spec := "fnFlattenParts", inPlace := ["internal/bytealg.IndexByteString"], unfollowed := true, recurses := true, plainKeys := false, apart := false }
def FnFlattenPartsSaid : Prop := fnFlattenPartsRow.holds Try.pinned (OpenSpec.ofChange fnFlattenPartsSpec)

/-- ITS FALSE NEIGHBOUR: 'it returns false'. Refute it at one input. -/
def fnFlattenPartsWrong : ChangeSpec := { name := "fnFlattenParts", fn := fun _ => fun
  | [d] => { results := [.lit (.bool false)], args := [d] }
  | _ => none }
def FnFlattenPartsWrongFalsely : Prop := fnFlattenPartsRow.holds Try.pinned (OpenSpec.ofChange fnFlattenPartsWrong)

/-- 'laws.FnCountParts': WHATEVER THE INPUT: true; the input reads as it did. -/
def fnCountPartsSpec : ChangeSpec := { name := "fnCountParts", fn := fun _ => fun
  | [d] => { results := [.lit (.bool true)], args := [d] }
  | _ => none }
def fnCountPartsRow : OpenClaim := { program := "ytpejdbgjcjehjaa", sum := "0e2f1e75b8fca297c65bf0d521df838dec76a2c5da6bb8403138987bafb4fc1b", func := "loop.example/docalgebra/laws.FnCountParts", spec := "fnCountParts", unfollowed := true, recurses := true, plainKeys := false, apart := false }
def FnCountPartsSaid : Prop := fnCountPartsRow.holds Try.pinned (OpenSpec.ofChange fnCountPartsSpec)

/-- ITS FALSE NEIGHBOUR: 'it returns false'. Refute it at one input. -/
def fnCountPartsWrong : ChangeSpec := { name := "fnCountParts", fn := fun _ => fun
  | [d] => { results := [.lit (.bool false)], args := [d] }
  | _ => none }
def FnCountPartsWrongFalsely : Prop := fnCountPartsRow.holds Try.pinned (OpenSpec.ofChange fnCountPartsWrong)

/-- 'laws.FnParseSize': WHATEVER THE INPUT: true; the input reads as it did. -/
def fnParseSizeSpec : ChangeSpec := { name := "fnParseSize", fn := fun _ => fun
  | [d] => { results := [.lit (.bool true)], args := [d] }
  | _ => none }
def fnParseSizeRow : OpenClaim := { program := "ytpejdbgjcjehjaa", sum := "0e2f1e75b8fca297c65bf0d521df838dec76a2c5da6bb8403138987bafb4fc1b", func := "loop.example/docalgebra/laws.FnParseSize", spec := "fnParseSize", inPlace := ["internal/bytealg.IndexByteString", "internal/bytealg.IndexString"], recurses := true, named := ["internal/bytealg.MaxLen"], plainKeys := false, apart := false }
def FnParseSizeSaid : Prop := fnParseSizeRow.holds Try.pinned (OpenSpec.ofChange fnParseSizeSpec)

/-- ITS FALSE NEIGHBOUR: 'it returns false'. Refute it at one input. -/
def fnParseSizeWrong : ChangeSpec := { name := "fnParseSize", fn := fun _ => fun
  | [d] => { results := [.lit (.bool false)], args := [d] }
  | _ => none }
def FnParseSizeWrongFalsely : Prop := fnParseSizeRow.holds Try.pinned (OpenSpec.ofChange fnParseSizeWrong)

/-- 'laws.FnExactTextValid': WHATEVER THE INPUT: true; the input reads as it did. -/
def fnExactTextValidSpec : ChangeSpec := { name := "fnExactTextValid", fn := fun _ => fun
  | [d] => { results := [.lit (.bool true)], args := [d] }
  | _ => none }
def fnExactTextValidRow : OpenClaim := { program := "ytpejdbgjcjehjaa", sum := "0e2f1e75b8fca297c65bf0d521df838dec76a2c5da6bb8403138987bafb4fc1b", func := "loop.example/docalgebra/laws.FnExactTextValid", spec := "fnExactTextValid", inPlace := ["internal/bytealg.IndexByteString"], plainKeys := false, apart := false }
def FnExactTextValidSaid : Prop := fnExactTextValidRow.holds Try.pinned (OpenSpec.ofChange fnExactTextValidSpec)

/-- ITS FALSE NEIGHBOUR: 'it returns false'. Refute it at one input. -/
def fnExactTextValidWrong : ChangeSpec := { name := "fnExactTextValid", fn := fun _ => fun
  | [d] => { results := [.lit (.bool false)], args := [d] }
  | _ => none }
def FnExactTextValidWrongFalsely : Prop := fnExactTextValidRow.holds Try.pinned (OpenSpec.ofChange fnExactTextValidWrong)

/-- 'laws.FnExactDocValid': WHATEVER THE INPUT: true; the input reads as it did. -/
def fnExactDocValidSpec : ChangeSpec := { name := "fnExactDocValid", fn := fun _ => fun
  | [d] => { results := [.lit (.bool true)], args := [d] }
  | _ => none }
def fnExactDocValidRow : OpenClaim := { program := "ytpejdbgjcjehjaa", sum := "0e2f1e75b8fca297c65bf0d521df838dec76a2c5da6bb8403138987bafb4fc1b", func := "loop.example/docalgebra/laws.FnExactDocValid", spec := "fnExactDocValid", inPlace := ["internal/bytealg.IndexByteString"], recurses := true, loops := true, plainKeys := false, apart := false }
def FnExactDocValidSaid : Prop := fnExactDocValidRow.holds Try.pinned (OpenSpec.ofChange fnExactDocValidSpec)

/-- ITS FALSE NEIGHBOUR: 'it returns false'. Refute it at one input. -/
def fnExactDocValidWrong : ChangeSpec := { name := "fnExactDocValid", fn := fun _ => fun
  | [d] => { results := [.lit (.bool false)], args := [d] }
  | _ => none }
def FnExactDocValidWrongFalsely : Prop := fnExactDocValidRow.holds Try.pinned (OpenSpec.ofChange fnExactDocValidWrong)

/-- 'laws.FnExactDocSame': WHATEVER THE INPUT: true; the input reads as it did. -/
def fnExactDocSameSpec : ChangeSpec := { name := "fnExactDocSame", fn := fun _ => fun
  | [d1, d2] => { results := [.lit (.bool true)], args := [d1, d2] }
  | _ => none }
def fnExactDocSameRow : OpenClaim := { program := "ytpejdbgjcjehjaa", sum := "0e2f1e75b8fca297c65bf0d521df838dec76a2c5da6bb8403138987bafb4fc1b", func := "loop.example/docalgebra/laws.FnExactDocSame", spec := "fnExactDocSame", recurses := true, loops := true, plainKeys := false, apart := false }
def FnExactDocSameSaid : Prop := fnExactDocSameRow.holds Try.pinned (OpenSpec.ofChange fnExactDocSameSpec)

/-- ITS FALSE NEIGHBOUR: 'it returns false'. Refute it at one input. -/
def fnExactDocSameWrong : ChangeSpec := { name := "fnExactDocSame", fn := fun _ => fun
  | [d1, d2] => { results := [.lit (.bool false)], args := [d1, d2] }
  | _ => none }
def FnExactDocSameWrongFalsely : Prop := fnExactDocSameRow.holds Try.pinned (OpenSpec.ofChange fnExactDocSameWrong)

/-- 'laws.FnExactDocSize': WHATEVER THE INPUT: true; the input reads as it did. -/
def fnExactDocSizeSpec : ChangeSpec := { name := "fnExactDocSize", fn := fun _ => fun
  | [d] => { results := [.lit (.bool true)], args := [d] }
  | _ => none }
def fnExactDocSizeRow : OpenClaim := { program := "ytpejdbgjcjehjaa", sum := "0e2f1e75b8fca297c65bf0d521df838dec76a2c5da6bb8403138987bafb4fc1b", func := "loop.example/docalgebra/laws.FnExactDocSize", spec := "fnExactDocSize", unfollowed := true, recurses := true, loops := true, plainKeys := false, apart := false }
def FnExactDocSizeSaid : Prop := fnExactDocSizeRow.holds Try.pinned (OpenSpec.ofChange fnExactDocSizeSpec)

/-- ITS FALSE NEIGHBOUR: 'it returns false'. Refute it at one input. -/
def fnExactDocSizeWrong : ChangeSpec := { name := "fnExactDocSize", fn := fun _ => fun
  | [d] => { results := [.lit (.bool false)], args := [d] }
  | _ => none }
def FnExactDocSizeWrongFalsely : Prop := fnExactDocSizeRow.holds Try.pinned (OpenSpec.ofChange fnExactDocSizeWrong)

/-- 'laws.FnExactParseDoc': WHATEVER THE INPUT: true; the input reads as it did. -/
def fnExactParseDocSpec : ChangeSpec := { name := "fnExactParseDoc", fn := fun _ => fun
  | [d] => { results := [.lit (.bool true)], args := [d] }
  | _ => none }
def fnExactParseDocRow : OpenClaim := { program := "ytpejdbgjcjehjaa", sum := "0e2f1e75b8fca297c65bf0d521df838dec76a2c5da6bb8403138987bafb4fc1b", func := "loop.example/docalgebra/laws.FnExactParseDoc", spec := "fnExactParseDoc", inPlace := ["internal/bytealg.IndexByteString", "internal/bytealg.IndexString"], recurses := true, named := ["internal/bytealg.MaxLen"], plainKeys := false, apart := false }
def FnExactParseDocSaid : Prop := fnExactParseDocRow.holds Try.pinned (OpenSpec.ofChange fnExactParseDocSpec)

/-- ITS FALSE NEIGHBOUR: 'it returns false'. Refute it at one input. -/
def fnExactParseDocWrong : ChangeSpec := { name := "fnExactParseDoc", fn := fun _ => fun
  | [d] => { results := [.lit (.bool false)], args := [d] }
  | _ => none }
def FnExactParseDocWrongFalsely : Prop := fnExactParseDocRow.holds Try.pinned (OpenSpec.ofChange fnExactParseDocWrong)

/-- 'laws.FnExactCatDocs': WHATEVER THE INPUT: true; the input reads as it did. -/
def fnExactCatDocsSpec : ChangeSpec := { name := "fnExactCatDocs", fn := fun _ => fun
  | [d1, d2] => { results := [.lit (.bool true)], args := [d1, d2] }
  | _ => none }
def fnExactCatDocsRow : OpenClaim := { program := "ytpejdbgjcjehjaa", sum := "0e2f1e75b8fca297c65bf0d521df838dec76a2c5da6bb8403138987bafb4fc1b", func := "loop.example/docalgebra/laws.FnExactCatDocs", spec := "fnExactCatDocs", inPlace := ["internal/bytealg.IndexByteString"], recurses := true, loops := true, plainKeys := false, apart := false }
def FnExactCatDocsSaid : Prop := fnExactCatDocsRow.holds Try.pinned (OpenSpec.ofChange fnExactCatDocsSpec)

/-- ITS FALSE NEIGHBOUR: 'it returns false'. Refute it at one input. -/
def fnExactCatDocsWrong : ChangeSpec := { name := "fnExactCatDocs", fn := fun _ => fun
  | [d1, d2] => { results := [.lit (.bool false)], args := [d1, d2] }
  | _ => none }
def FnExactCatDocsWrongFalsely : Prop := fnExactCatDocsRow.holds Try.pinned (OpenSpec.ofChange fnExactCatDocsWrong)

/-- 'laws.FnExactCanFlatten': WHATEVER THE INPUT: true; the input reads as it did. -/
def fnExactCanFlattenSpec : ChangeSpec := { name := "fnExactCanFlatten", fn := fun _ => fun
  | [d] => { results := [.lit (.bool true)], args := [d] }
  | _ => none }
def fnExactCanFlattenRow : OpenClaim := { program := "ytpejdbgjcjehjaa", sum := "0e2f1e75b8fca297c65bf0d521df838dec76a2c5da6bb8403138987bafb4fc1b", func := "loop.example/docalgebra/laws.FnExactCanFlatten", spec := "fnExactCanFlatten", inPlace := ["internal/bytealg.IndexByteString"], unfollowed := true, recurses := true, loops := true, plainKeys := false, apart := false }
def FnExactCanFlattenSaid : Prop := fnExactCanFlattenRow.holds Try.pinned (OpenSpec.ofChange fnExactCanFlattenSpec)

/-- ITS FALSE NEIGHBOUR: 'it returns false'. Refute it at one input. -/
def fnExactCanFlattenWrong : ChangeSpec := { name := "fnExactCanFlatten", fn := fun _ => fun
  | [d] => { results := [.lit (.bool false)], args := [d] }
  | _ => none }
def FnExactCanFlattenWrongFalsely : Prop := fnExactCanFlattenRow.holds Try.pinned (OpenSpec.ofChange fnExactCanFlattenWrong)

/-- 'laws.FnExactCountOps': WHATEVER THE INPUT: true; the input reads as it did. -/
def fnExactCountOpsSpec : ChangeSpec := { name := "fnExactCountOps", fn := fun _ => fun
  | [d1, d2] => { results := [.lit (.bool true)], args := [d1, d2] }
  | _ => none }
def fnExactCountOpsRow : OpenClaim := { program := "ytpejdbgjcjehjaa", sum := "0e2f1e75b8fca297c65bf0d521df838dec76a2c5da6bb8403138987bafb4fc1b", func := "loop.example/docalgebra/laws.FnExactCountOps", spec := "fnExactCountOps", unfollowed := true, recurses := true, loops := true, plainKeys := false, apart := false }
def FnExactCountOpsSaid : Prop := fnExactCountOpsRow.holds Try.pinned (OpenSpec.ofChange fnExactCountOpsSpec)

/-- ITS FALSE NEIGHBOUR: 'it returns false'. Refute it at one input. -/
def fnExactCountOpsWrong : ChangeSpec := { name := "fnExactCountOps", fn := fun _ => fun
  | [d1, d2] => { results := [.lit (.bool false)], args := [d1, d2] }
  | _ => none }
def FnExactCountOpsWrongFalsely : Prop := fnExactCountOpsRow.holds Try.pinned (OpenSpec.ofChange fnExactCountOpsWrong)

/- THE SECOND FORM. 'bulk': how many values and letters a reading holds, each counted each time it is reached (what is shared counts as often as it is met; a slice's spare places count too). A statement '..UptoSaid' is the law's where the arguments, and the package variables that the reading takes, are together of bulk at most 1048576: NARROWER than '..Said'. Prove '..Said' where nothing that the law and all that it calls make is longer than what came in: it says more and counts as full. Else prove '..UptoSaid'. A law counts once. -/
mutual
def uptoBulk {H : Type} : DataW H → Nat
  | .lit (.string bytes) => bytes.length + 1
  | .lit _ => 1
  | .nil => 1
  | .ptr d => uptoBulk d + 1
  | .slice elems spare => uptoBulkAll elems + uptoBulkAll spare + 1
  | .agg parts => uptoBulkAll parts + 1
  | .iface _ d => uptoBulk d + 1
  | .map entries => uptoBulkEntries entries + 1
  | .held _ => 1
def uptoBulkAll {H : Type} : List (DataW H) → Nat
  | [] => 0
  | d :: r => uptoBulk d + uptoBulkAll r
def uptoBulkEntries {H : Type} : List (Lit × DataW H) → Nat
  | [] => 0
  | x :: r => uptoBulkEntry x + uptoBulkEntries r
def uptoBulkEntry {H : Type} : Lit × DataW H → Nat
  | (.string bytes, d) => bytes.length + uptoBulk d + 1
  | (_, d) => uptoBulk d + 1
 end
def uptoSmall : (H : Type) → List (DataW H) → Bool := fun _ ds => decide (uptoBulkAll ds ≤ 1048576)
def OpenSpec.upto (s : _root_.Go.ChangeSpec) : _root_.Go.OpenSpec := { _root_.Go.OpenSpec.ofChange s with cond := some uptoSmall }

/-- 'laws.FnCatDocs', WHERE WHAT IT READS IS OF BULK AT MOST 1048576: true; the input reads as it did. -/
def fnCatDocsUptoRow : OpenClaim := { program := "ytpejdbgjcjehjaa", sum := "0e2f1e75b8fca297c65bf0d521df838dec76a2c5da6bb8403138987bafb4fc1b", func := "loop.example/docalgebra/laws.FnCatDocs", spec := "fnCatDocs", inPlace := ["internal/bytealg.IndexByteString"], unfollowed := true, recurses := true, plainKeys := false, apart := false, narrowed := true }
def FnCatDocsUptoSaid : Prop := fnCatDocsUptoRow.holds Try.pinned (OpenSpec.upto fnCatDocsSpec)

/-- 'laws.FnCountOps', WHERE WHAT IT READS IS OF BULK AT MOST 1048576: true; the input reads as it did. -/
def fnCountOpsUptoRow : OpenClaim := { program := "ytpejdbgjcjehjaa", sum := "0e2f1e75b8fca297c65bf0d521df838dec76a2c5da6bb8403138987bafb4fc1b", func := "loop.example/docalgebra/laws.FnCountOps", spec := "fnCountOps", inPlace := ["internal/bytealg.IndexByteString"], unfollowed := true, recurses := true, plainKeys := false, apart := false, narrowed := true }
def FnCountOpsUptoSaid : Prop := fnCountOpsUptoRow.holds Try.pinned (OpenSpec.upto fnCountOpsSpec)

/-- 'laws.FnDocParts', WHERE WHAT IT READS IS OF BULK AT MOST 1048576: true; the input reads as it did. -/
def fnDocPartsUptoRow : OpenClaim := { program := "ytpejdbgjcjehjaa", sum := "0e2f1e75b8fca297c65bf0d521df838dec76a2c5da6bb8403138987bafb4fc1b", func := "loop.example/docalgebra/laws.FnDocParts", spec := "fnDocParts", inPlace := ["internal/bytealg.IndexByteString"], unfollowed := true, recurses := true, plainKeys := false, apart := false, narrowed := true }
def FnDocPartsUptoSaid : Prop := fnDocPartsUptoRow.holds Try.pinned (OpenSpec.upto fnDocPartsSpec)

/-- 'laws.FnTextValid', WHERE WHAT IT READS IS OF BULK AT MOST 1048576: true; the input reads as it did. -/
def fnTextValidUptoRow : OpenClaim := { program := "ytpejdbgjcjehjaa", sum := "0e2f1e75b8fca297c65bf0d521df838dec76a2c5da6bb8403138987bafb4fc1b", func := "loop.example/docalgebra/laws.FnTextValid", spec := "fnTextValid", inPlace := ["internal/bytealg.IndexByteString", "internal/bytealg.IndexString"], recurses := true, named := ["internal/bytealg.MaxLen"], plainKeys := false, apart := false, narrowed := true }
def FnTextValidUptoSaid : Prop := fnTextValidUptoRow.holds Try.pinned (OpenSpec.upto fnTextValidSpec)

/-- 'laws.FnCatSame', WHERE WHAT IT READS IS OF BULK AT MOST 1048576: true; the input reads as it did. -/
def fnCatSameUptoRow : OpenClaim := { program := "ytpejdbgjcjehjaa", sum := "0e2f1e75b8fca297c65bf0d521df838dec76a2c5da6bb8403138987bafb4fc1b", func := "loop.example/docalgebra/laws.FnCatSame", spec := "fnCatSame", inPlace := ["internal/bytealg.IndexByteString"], recurses := true, plainKeys := false, apart := false, narrowed := true }
def FnCatSameUptoSaid : Prop := fnCatSameUptoRow.holds Try.pinned (OpenSpec.upto fnCatSameSpec)

/-- 'laws.FnFlattenParts', WHERE WHAT IT READS IS OF BULK AT MOST 1048576: true; the input reads as it did. -/
def fnFlattenPartsUptoRow : OpenClaim := { program := "ytpejdbgjcjehjaa", sum := "0e2f1e75b8fca297c65bf0d521df838dec76a2c5da6bb8403138987bafb4fc1b", func := "loop.example/docalgebra/laws.FnFlattenParts", spec := "fnFlattenParts", inPlace := ["internal/bytealg.IndexByteString"], unfollowed := true, recurses := true, plainKeys := false, apart := false, narrowed := true }
def FnFlattenPartsUptoSaid : Prop := fnFlattenPartsUptoRow.holds Try.pinned (OpenSpec.upto fnFlattenPartsSpec)

/-- 'laws.FnCountParts', WHERE WHAT IT READS IS OF BULK AT MOST 1048576: true; the input reads as it did. -/
def fnCountPartsUptoRow : OpenClaim := { program := "ytpejdbgjcjehjaa", sum := "0e2f1e75b8fca297c65bf0d521df838dec76a2c5da6bb8403138987bafb4fc1b", func := "loop.example/docalgebra/laws.FnCountParts", spec := "fnCountParts", unfollowed := true, recurses := true, plainKeys := false, apart := false, narrowed := true }
def FnCountPartsUptoSaid : Prop := fnCountPartsUptoRow.holds Try.pinned (OpenSpec.upto fnCountPartsSpec)

/-- 'laws.FnParseSize', WHERE WHAT IT READS IS OF BULK AT MOST 1048576: true; the input reads as it did. -/
def fnParseSizeUptoRow : OpenClaim := { program := "ytpejdbgjcjehjaa", sum := "0e2f1e75b8fca297c65bf0d521df838dec76a2c5da6bb8403138987bafb4fc1b", func := "loop.example/docalgebra/laws.FnParseSize", spec := "fnParseSize", inPlace := ["internal/bytealg.IndexByteString", "internal/bytealg.IndexString"], recurses := true, named := ["internal/bytealg.MaxLen"], plainKeys := false, apart := false, narrowed := true }
def FnParseSizeUptoSaid : Prop := fnParseSizeUptoRow.holds Try.pinned (OpenSpec.upto fnParseSizeSpec)

/-- 'laws.FnExactTextValid', WHERE WHAT IT READS IS OF BULK AT MOST 1048576: true; the input reads as it did. -/
def fnExactTextValidUptoRow : OpenClaim := { program := "ytpejdbgjcjehjaa", sum := "0e2f1e75b8fca297c65bf0d521df838dec76a2c5da6bb8403138987bafb4fc1b", func := "loop.example/docalgebra/laws.FnExactTextValid", spec := "fnExactTextValid", inPlace := ["internal/bytealg.IndexByteString"], plainKeys := false, apart := false, narrowed := true }
def FnExactTextValidUptoSaid : Prop := fnExactTextValidUptoRow.holds Try.pinned (OpenSpec.upto fnExactTextValidSpec)

/-- 'laws.FnExactDocValid', WHERE WHAT IT READS IS OF BULK AT MOST 1048576: true; the input reads as it did. -/
def fnExactDocValidUptoRow : OpenClaim := { program := "ytpejdbgjcjehjaa", sum := "0e2f1e75b8fca297c65bf0d521df838dec76a2c5da6bb8403138987bafb4fc1b", func := "loop.example/docalgebra/laws.FnExactDocValid", spec := "fnExactDocValid", inPlace := ["internal/bytealg.IndexByteString"], recurses := true, loops := true, plainKeys := false, apart := false, narrowed := true }
def FnExactDocValidUptoSaid : Prop := fnExactDocValidUptoRow.holds Try.pinned (OpenSpec.upto fnExactDocValidSpec)

/-- 'laws.FnExactDocSame', WHERE WHAT IT READS IS OF BULK AT MOST 1048576: true; the input reads as it did. -/
def fnExactDocSameUptoRow : OpenClaim := { program := "ytpejdbgjcjehjaa", sum := "0e2f1e75b8fca297c65bf0d521df838dec76a2c5da6bb8403138987bafb4fc1b", func := "loop.example/docalgebra/laws.FnExactDocSame", spec := "fnExactDocSame", recurses := true, loops := true, plainKeys := false, apart := false, narrowed := true }
def FnExactDocSameUptoSaid : Prop := fnExactDocSameUptoRow.holds Try.pinned (OpenSpec.upto fnExactDocSameSpec)

/-- 'laws.FnExactDocSize', WHERE WHAT IT READS IS OF BULK AT MOST 1048576: true; the input reads as it did. -/
def fnExactDocSizeUptoRow : OpenClaim := { program := "ytpejdbgjcjehjaa", sum := "0e2f1e75b8fca297c65bf0d521df838dec76a2c5da6bb8403138987bafb4fc1b", func := "loop.example/docalgebra/laws.FnExactDocSize", spec := "fnExactDocSize", unfollowed := true, recurses := true, loops := true, plainKeys := false, apart := false, narrowed := true }
def FnExactDocSizeUptoSaid : Prop := fnExactDocSizeUptoRow.holds Try.pinned (OpenSpec.upto fnExactDocSizeSpec)

/-- 'laws.FnExactParseDoc', WHERE WHAT IT READS IS OF BULK AT MOST 1048576: true; the input reads as it did. -/
def fnExactParseDocUptoRow : OpenClaim := { program := "ytpejdbgjcjehjaa", sum := "0e2f1e75b8fca297c65bf0d521df838dec76a2c5da6bb8403138987bafb4fc1b", func := "loop.example/docalgebra/laws.FnExactParseDoc", spec := "fnExactParseDoc", inPlace := ["internal/bytealg.IndexByteString", "internal/bytealg.IndexString"], recurses := true, named := ["internal/bytealg.MaxLen"], plainKeys := false, apart := false, narrowed := true }
def FnExactParseDocUptoSaid : Prop := fnExactParseDocUptoRow.holds Try.pinned (OpenSpec.upto fnExactParseDocSpec)

/-- 'laws.FnExactCatDocs', WHERE WHAT IT READS IS OF BULK AT MOST 1048576: true; the input reads as it did. -/
def fnExactCatDocsUptoRow : OpenClaim := { program := "ytpejdbgjcjehjaa", sum := "0e2f1e75b8fca297c65bf0d521df838dec76a2c5da6bb8403138987bafb4fc1b", func := "loop.example/docalgebra/laws.FnExactCatDocs", spec := "fnExactCatDocs", inPlace := ["internal/bytealg.IndexByteString"], recurses := true, loops := true, plainKeys := false, apart := false, narrowed := true }
def FnExactCatDocsUptoSaid : Prop := fnExactCatDocsUptoRow.holds Try.pinned (OpenSpec.upto fnExactCatDocsSpec)

/-- 'laws.FnExactCanFlatten', WHERE WHAT IT READS IS OF BULK AT MOST 1048576: true; the input reads as it did. -/
def fnExactCanFlattenUptoRow : OpenClaim := { program := "ytpejdbgjcjehjaa", sum := "0e2f1e75b8fca297c65bf0d521df838dec76a2c5da6bb8403138987bafb4fc1b", func := "loop.example/docalgebra/laws.FnExactCanFlatten", spec := "fnExactCanFlatten", inPlace := ["internal/bytealg.IndexByteString"], unfollowed := true, recurses := true, loops := true, plainKeys := false, apart := false, narrowed := true }
def FnExactCanFlattenUptoSaid : Prop := fnExactCanFlattenUptoRow.holds Try.pinned (OpenSpec.upto fnExactCanFlattenSpec)

/-- 'laws.FnExactCountOps', WHERE WHAT IT READS IS OF BULK AT MOST 1048576: true; the input reads as it did. -/
def fnExactCountOpsUptoRow : OpenClaim := { program := "ytpejdbgjcjehjaa", sum := "0e2f1e75b8fca297c65bf0d521df838dec76a2c5da6bb8403138987bafb4fc1b", func := "loop.example/docalgebra/laws.FnExactCountOps", spec := "fnExactCountOps", unfollowed := true, recurses := true, loops := true, plainKeys := false, apart := false, narrowed := true }
def FnExactCountOpsUptoSaid : Prop := fnExactCountOpsUptoRow.holds Try.pinned (OpenSpec.upto fnExactCountOpsSpec)

end Rows
end Go.Proofs.Ytpejdbgjcjehjaa
