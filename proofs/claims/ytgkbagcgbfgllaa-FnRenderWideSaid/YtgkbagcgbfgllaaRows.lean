/-
  NARROWER THAN 'FOR EVERY INPUT', by the rows' own cells (each row's printed sentence says how): FnExactRenderDoc: loops · FnExactRenderText: loops · FnExactGroupFlags: loops · FnExactWidthsOf: loops.
  DERIVED. THE GIVEN ROWS OF THIS SEAT. 11 by the template 'for every input the law returns true; each argument reads behind the call as it read before'; 0 by the template 'total and deterministic' (their statements: YtgkbagcgbfgllaaTotals.lean).
  GIVEN WITH THE SEED: the statements are not yours to turn. If you find one false, say at which input.
  Laid BY PROGRAM, IN A SANDBOX (cutbox-rows.mjs): the forced cells as the released guide's own fill.sh prints them over the translation c64a9459d610c75a… (all of the seat's roots in one cut). By AI agents, Wed Nov 11 2026. No macro, syntax, notation, axiom, sorry.
-/
import Derived.Test.YtgkbagcgbfgllaaChecked
import GoSem.Claim
import GoSem.ClaimJoined
import GoSem.ClaimMapViews
import Derived.JoinedTies
import Derived.KernelRfl
namespace Go.Proofs.Ytgkbagcgbfgllaa
/- THE CELL 'sum', in the pinned program and in every row, IS THE sha256 OF THE DUMP (.gsa) THAT YtgkbagcgbfgllaaProg.lean LOADS. Nothing in Lean hashes anything: it is a label: what it is worth is what the hold of that sum in a sandbox is worth. -/
noncomputable def Try.pinned : Pinned := { name := "ytgkbagcgbfgllaa", sum := "c64a9459d610c75af6c7a98b318d4f4db107f3d44b4111a4c0b0827dfe42380c", checked := Try.checked }
namespace Rows
def none {H : Type} : Left H := { results := [], args := [] }

/-- 'laws.FnRenderFlat': WHATEVER THE INPUT: true; the input reads as it did. -/
def fnRenderFlatSpec : ChangeSpec := { name := "fnRenderFlat", fn := fun _ => fun
  | [d] => { results := [.lit (.bool true)], args := [d] }
  | _ => none }
def fnRenderFlatRow : OpenClaim := { program := "ytgkbagcgbfgllaa", sum := "c64a9459d610c75af6c7a98b318d4f4db107f3d44b4111a4c0b0827dfe42380c", func := "loop.example/docalgebra/laws.FnRenderFlat", spec := "fnRenderFlat", inPlace := ["internal/bytealg.IndexByteString", "internal/abi.NoEscape"], unfollowed := true, recurses := true, plainKeys := false, apart := false }
def FnRenderFlatSaid : Prop := fnRenderFlatRow.holds Try.pinned (OpenSpec.ofChange fnRenderFlatSpec)

/-- ITS FALSE NEIGHBOUR: 'it returns false'. Refute it at one input. -/
def fnRenderFlatWrong : ChangeSpec := { name := "fnRenderFlat", fn := fun _ => fun
  | [d] => { results := [.lit (.bool false)], args := [d] }
  | _ => none }
def FnRenderFlatWrongFalsely : Prop := fnRenderFlatRow.holds Try.pinned (OpenSpec.ofChange fnRenderFlatWrong)

/-- 'laws.FnRenderOpen': WHATEVER THE INPUT: true; the input reads as it did. -/
def fnRenderOpenSpec : ChangeSpec := { name := "fnRenderOpen", fn := fun _ => fun
  | [d] => { results := [.lit (.bool true)], args := [d] }
  | _ => none }
def fnRenderOpenRow : OpenClaim := { program := "ytgkbagcgbfgllaa", sum := "c64a9459d610c75af6c7a98b318d4f4db107f3d44b4111a4c0b0827dfe42380c", func := "loop.example/docalgebra/laws.FnRenderOpen", spec := "fnRenderOpen", inPlace := ["internal/bytealg.IndexByteString", "internal/abi.NoEscape"], unfollowed := true, recurses := true, plainKeys := false, apart := false }
def FnRenderOpenSaid : Prop := fnRenderOpenRow.holds Try.pinned (OpenSpec.ofChange fnRenderOpenSpec)

/-- ITS FALSE NEIGHBOUR: 'it returns false'. Refute it at one input. -/
def fnRenderOpenWrong : ChangeSpec := { name := "fnRenderOpen", fn := fun _ => fun
  | [d] => { results := [.lit (.bool false)], args := [d] }
  | _ => none }
def FnRenderOpenWrongFalsely : Prop := fnRenderOpenRow.holds Try.pinned (OpenSpec.ofChange fnRenderOpenWrong)

/-- 'laws.FnWidthsOf': WHATEVER THE INPUT: true; the input reads as it did. -/
def fnWidthsOfSpec : ChangeSpec := { name := "fnWidthsOf", fn := fun _ => fun
  | [d] => { results := [.lit (.bool true)], args := [d] }
  | _ => none }
def fnWidthsOfRow : OpenClaim := { program := "ytgkbagcgbfgllaa", sum := "c64a9459d610c75af6c7a98b318d4f4db107f3d44b4111a4c0b0827dfe42380c", func := "loop.example/docalgebra/laws.FnWidthsOf", spec := "fnWidthsOf", inPlace := ["internal/bytealg.IndexByteString", "internal/abi.NoEscape"], unfollowed := true, recurses := true, plainKeys := false, apart := false }
def FnWidthsOfSaid : Prop := fnWidthsOfRow.holds Try.pinned (OpenSpec.ofChange fnWidthsOfSpec)

/-- ITS FALSE NEIGHBOUR: 'it returns false'. Refute it at one input. -/
def fnWidthsOfWrong : ChangeSpec := { name := "fnWidthsOf", fn := fun _ => fun
  | [d] => { results := [.lit (.bool false)], args := [d] }
  | _ => none }
def FnWidthsOfWrongFalsely : Prop := fnWidthsOfRow.holds Try.pinned (OpenSpec.ofChange fnWidthsOfWrong)

/-- 'laws.FnRenderNest': WHATEVER THE INPUT: true; the input reads as it did. -/
def fnRenderNestSpec : ChangeSpec := { name := "fnRenderNest", fn := fun _ => fun
  | [d] => { results := [.lit (.bool true)], args := [d] }
  | _ => none }
def fnRenderNestRow : OpenClaim := { program := "ytgkbagcgbfgllaa", sum := "c64a9459d610c75af6c7a98b318d4f4db107f3d44b4111a4c0b0827dfe42380c", func := "loop.example/docalgebra/laws.FnRenderNest", spec := "fnRenderNest", inPlace := ["internal/bytealg.IndexByteString", "internal/abi.NoEscape"], unfollowed := true, recurses := true, plainKeys := false, apart := false }
def FnRenderNestSaid : Prop := fnRenderNestRow.holds Try.pinned (OpenSpec.ofChange fnRenderNestSpec)

/-- ITS FALSE NEIGHBOUR: 'it returns false'. Refute it at one input. -/
def fnRenderNestWrong : ChangeSpec := { name := "fnRenderNest", fn := fun _ => fun
  | [d] => { results := [.lit (.bool false)], args := [d] }
  | _ => none }
def FnRenderNestWrongFalsely : Prop := fnRenderNestRow.holds Try.pinned (OpenSpec.ofChange fnRenderNestWrong)

/-- 'laws.FnRenderCat': WHATEVER THE INPUT: true; the input reads as it did. -/
def fnRenderCatSpec : ChangeSpec := { name := "fnRenderCat", fn := fun _ => fun
  | [d1, d2] => { results := [.lit (.bool true)], args := [d1, d2] }
  | _ => none }
def fnRenderCatRow : OpenClaim := { program := "ytgkbagcgbfgllaa", sum := "c64a9459d610c75af6c7a98b318d4f4db107f3d44b4111a4c0b0827dfe42380c", func := "loop.example/docalgebra/laws.FnRenderCat", spec := "fnRenderCat", inPlace := ["internal/bytealg.IndexByteString", "internal/abi.NoEscape"], unfollowed := true, recurses := true, plainKeys := false, apart := false }
def FnRenderCatSaid : Prop := fnRenderCatRow.holds Try.pinned (OpenSpec.ofChange fnRenderCatSpec)

/-- ITS FALSE NEIGHBOUR: 'it returns false'. Refute it at one input. -/
def fnRenderCatWrong : ChangeSpec := { name := "fnRenderCat", fn := fun _ => fun
  | [d1, d2] => { results := [.lit (.bool false)], args := [d1, d2] }
  | _ => none }
def FnRenderCatWrongFalsely : Prop := fnRenderCatRow.holds Try.pinned (OpenSpec.ofChange fnRenderCatWrong)

/-- 'laws.FnRenderWide': WHATEVER THE INPUT: true; the input reads as it did. -/
def fnRenderWideSpec : ChangeSpec := { name := "fnRenderWide", fn := fun _ => fun
  | [d] => { results := [.lit (.bool true)], args := [d] }
  | _ => none }
def fnRenderWideRow : OpenClaim := { program := "ytgkbagcgbfgllaa", sum := "c64a9459d610c75af6c7a98b318d4f4db107f3d44b4111a4c0b0827dfe42380c", func := "loop.example/docalgebra/laws.FnRenderWide", spec := "fnRenderWide", inPlace := ["internal/bytealg.IndexByteString", "internal/abi.NoEscape"], unfollowed := true, recurses := true, plainKeys := false, apart := false }
def FnRenderWideSaid : Prop := fnRenderWideRow.holds Try.pinned (OpenSpec.ofChange fnRenderWideSpec)

/-- ITS FALSE NEIGHBOUR: 'it returns false'. Refute it at one input. -/
def fnRenderWideWrong : ChangeSpec := { name := "fnRenderWide", fn := fun _ => fun
  | [d] => { results := [.lit (.bool false)], args := [d] }
  | _ => none }
def FnRenderWideWrongFalsely : Prop := fnRenderWideRow.holds Try.pinned (OpenSpec.ofChange fnRenderWideWrong)

/-- 'laws.FnGroupFlags': WHATEVER THE INPUT: true; the input reads as it did. -/
def fnGroupFlagsSpec : ChangeSpec := { name := "fnGroupFlags", fn := fun _ => fun
  | [d] => { results := [.lit (.bool true)], args := [d] }
  | _ => none }
def fnGroupFlagsRow : OpenClaim := { program := "ytgkbagcgbfgllaa", sum := "c64a9459d610c75af6c7a98b318d4f4db107f3d44b4111a4c0b0827dfe42380c", func := "loop.example/docalgebra/laws.FnGroupFlags", spec := "fnGroupFlags", inPlace := ["internal/bytealg.IndexByteString", "internal/abi.NoEscape"], unfollowed := true, recurses := true, plainKeys := false, apart := false }
def FnGroupFlagsSaid : Prop := fnGroupFlagsRow.holds Try.pinned (OpenSpec.ofChange fnGroupFlagsSpec)

/-- ITS FALSE NEIGHBOUR: 'it returns false'. Refute it at one input. -/
def fnGroupFlagsWrong : ChangeSpec := { name := "fnGroupFlags", fn := fun _ => fun
  | [d] => { results := [.lit (.bool false)], args := [d] }
  | _ => none }
def FnGroupFlagsWrongFalsely : Prop := fnGroupFlagsRow.holds Try.pinned (OpenSpec.ofChange fnGroupFlagsWrong)

/-- 'laws.FnExactRenderDoc': WHATEVER THE INPUT: true; the input reads as it did. -/
def fnExactRenderDocSpec : ChangeSpec := { name := "fnExactRenderDoc", fn := fun _ => fun
  | [d1, d2] => { results := [.lit (.bool true)], args := [d1, d2] }
  | _ => none }
def fnExactRenderDocRow : OpenClaim := { program := "ytgkbagcgbfgllaa", sum := "c64a9459d610c75af6c7a98b318d4f4db107f3d44b4111a4c0b0827dfe42380c", func := "loop.example/docalgebra/laws.FnExactRenderDoc", spec := "fnExactRenderDoc", inPlace := ["internal/bytealg.IndexByteString", "internal/abi.NoEscape"], unfollowed := true, recurses := true, loops := true, plainKeys := false, apart := false }
def FnExactRenderDocSaid : Prop := fnExactRenderDocRow.holds Try.pinned (OpenSpec.ofChange fnExactRenderDocSpec)

/-- ITS FALSE NEIGHBOUR: 'it returns false'. Refute it at one input. -/
def fnExactRenderDocWrong : ChangeSpec := { name := "fnExactRenderDoc", fn := fun _ => fun
  | [d1, d2] => { results := [.lit (.bool false)], args := [d1, d2] }
  | _ => none }
def FnExactRenderDocWrongFalsely : Prop := fnExactRenderDocRow.holds Try.pinned (OpenSpec.ofChange fnExactRenderDocWrong)

/-- 'laws.FnExactRenderText': WHATEVER THE INPUT: true; the input reads as it did. -/
def fnExactRenderTextSpec : ChangeSpec := { name := "fnExactRenderText", fn := fun _ => fun
  | [d1, d2] => { results := [.lit (.bool true)], args := [d1, d2] }
  | _ => none }
def fnExactRenderTextRow : OpenClaim := { program := "ytgkbagcgbfgllaa", sum := "c64a9459d610c75af6c7a98b318d4f4db107f3d44b4111a4c0b0827dfe42380c", func := "loop.example/docalgebra/laws.FnExactRenderText", spec := "fnExactRenderText", inPlace := ["internal/bytealg.IndexByteString", "internal/abi.NoEscape", "internal/bytealg.MakeNoZero"], unfollowed := true, recurses := true, loops := true, plainKeys := false, apart := false }
def FnExactRenderTextSaid : Prop := fnExactRenderTextRow.holds Try.pinned (OpenSpec.ofChange fnExactRenderTextSpec)

/-- ITS FALSE NEIGHBOUR: 'it returns false'. Refute it at one input. -/
def fnExactRenderTextWrong : ChangeSpec := { name := "fnExactRenderText", fn := fun _ => fun
  | [d1, d2] => { results := [.lit (.bool false)], args := [d1, d2] }
  | _ => none }
def FnExactRenderTextWrongFalsely : Prop := fnExactRenderTextRow.holds Try.pinned (OpenSpec.ofChange fnExactRenderTextWrong)

/-- 'laws.FnExactGroupFlags': WHATEVER THE INPUT: true; the input reads as it did. -/
def fnExactGroupFlagsSpec : ChangeSpec := { name := "fnExactGroupFlags", fn := fun _ => fun
  | [d1, d2] => { results := [.lit (.bool true)], args := [d1, d2] }
  | _ => none }
def fnExactGroupFlagsRow : OpenClaim := { program := "ytgkbagcgbfgllaa", sum := "c64a9459d610c75af6c7a98b318d4f4db107f3d44b4111a4c0b0827dfe42380c", func := "loop.example/docalgebra/laws.FnExactGroupFlags", spec := "fnExactGroupFlags", inPlace := ["internal/bytealg.IndexByteString", "internal/abi.NoEscape"], unfollowed := true, recurses := true, loops := true, plainKeys := false, apart := false }
def FnExactGroupFlagsSaid : Prop := fnExactGroupFlagsRow.holds Try.pinned (OpenSpec.ofChange fnExactGroupFlagsSpec)

/-- ITS FALSE NEIGHBOUR: 'it returns false'. Refute it at one input. -/
def fnExactGroupFlagsWrong : ChangeSpec := { name := "fnExactGroupFlags", fn := fun _ => fun
  | [d1, d2] => { results := [.lit (.bool false)], args := [d1, d2] }
  | _ => none }
def FnExactGroupFlagsWrongFalsely : Prop := fnExactGroupFlagsRow.holds Try.pinned (OpenSpec.ofChange fnExactGroupFlagsWrong)

/-- 'laws.FnExactWidthsOf': WHATEVER THE INPUT: true; the input reads as it did. -/
def fnExactWidthsOfSpec : ChangeSpec := { name := "fnExactWidthsOf", fn := fun _ => fun
  | [d] => { results := [.lit (.bool true)], args := [d] }
  | _ => none }
def fnExactWidthsOfRow : OpenClaim := { program := "ytgkbagcgbfgllaa", sum := "c64a9459d610c75af6c7a98b318d4f4db107f3d44b4111a4c0b0827dfe42380c", func := "loop.example/docalgebra/laws.FnExactWidthsOf", spec := "fnExactWidthsOf", inPlace := ["internal/bytealg.IndexByteString", "internal/abi.NoEscape"], unfollowed := true, recurses := true, loops := true, plainKeys := false, apart := false }
def FnExactWidthsOfSaid : Prop := fnExactWidthsOfRow.holds Try.pinned (OpenSpec.ofChange fnExactWidthsOfSpec)

/-- ITS FALSE NEIGHBOUR: 'it returns false'. Refute it at one input. -/
def fnExactWidthsOfWrong : ChangeSpec := { name := "fnExactWidthsOf", fn := fun _ => fun
  | [d] => { results := [.lit (.bool false)], args := [d] }
  | _ => none }
def FnExactWidthsOfWrongFalsely : Prop := fnExactWidthsOfRow.holds Try.pinned (OpenSpec.ofChange fnExactWidthsOfWrong)

/- THE SECOND FORM. 'bulk': how many values and letters a reading holds, each counted each time it is reached (what is shared counts as often as it is met; a slice's spare places count too). A statement '..UptoSaid' is the law's where the arguments, and the package variables that the reading takes, are together of bulk at most 1048576: NARROWER than '..Said'. Prove '..Said' where nothing that the law and all that it calls make is longer than what came in: it says more and counts as full. Else prove '..UptoSaid'. A law counts once. -/
mutual
def uptoBulk {H : Type} : DataW H → Nat
  | .lit (.string bytes) => bytes.length + 1
  | .lit _ => 1
  | .nil => 1
  | .ptr d => uptoBulk d + 1
  | .slice elems spare => uptoBulkAll elems + uptoBulkAll spare + 1
  | .agg parts => uptoBulkAll parts + 1
  | .iface _ d => uptoBulk d + 1
  | .map entries => uptoBulkEntries entries + 1
  | .held _ => 1
def uptoBulkAll {H : Type} : List (DataW H) → Nat
  | [] => 0
  | d :: r => uptoBulk d + uptoBulkAll r
def uptoBulkEntries {H : Type} : List (Lit × DataW H) → Nat
  | [] => 0
  | x :: r => uptoBulkEntry x + uptoBulkEntries r
def uptoBulkEntry {H : Type} : Lit × DataW H → Nat
  | (.string bytes, d) => bytes.length + uptoBulk d + 1
  | (_, d) => uptoBulk d + 1
 end
def uptoSmall : (H : Type) → List (DataW H) → Bool := fun _ ds => decide (uptoBulkAll ds ≤ 1048576)
def OpenSpec.upto (s : _root_.Go.ChangeSpec) : _root_.Go.OpenSpec := { _root_.Go.OpenSpec.ofChange s with cond := some uptoSmall }

/-- 'laws.FnRenderFlat', WHERE WHAT IT READS IS OF BULK AT MOST 1048576: true; the input reads as it did. -/
def fnRenderFlatUptoRow : OpenClaim := { program := "ytgkbagcgbfgllaa", sum := "c64a9459d610c75af6c7a98b318d4f4db107f3d44b4111a4c0b0827dfe42380c", func := "loop.example/docalgebra/laws.FnRenderFlat", spec := "fnRenderFlat", inPlace := ["internal/bytealg.IndexByteString", "internal/abi.NoEscape"], unfollowed := true, recurses := true, plainKeys := false, apart := false, narrowed := true }
def FnRenderFlatUptoSaid : Prop := fnRenderFlatUptoRow.holds Try.pinned (OpenSpec.upto fnRenderFlatSpec)

/-- 'laws.FnRenderOpen', WHERE WHAT IT READS IS OF BULK AT MOST 1048576: true; the input reads as it did. -/
def fnRenderOpenUptoRow : OpenClaim := { program := "ytgkbagcgbfgllaa", sum := "c64a9459d610c75af6c7a98b318d4f4db107f3d44b4111a4c0b0827dfe42380c", func := "loop.example/docalgebra/laws.FnRenderOpen", spec := "fnRenderOpen", inPlace := ["internal/bytealg.IndexByteString", "internal/abi.NoEscape"], unfollowed := true, recurses := true, plainKeys := false, apart := false, narrowed := true }
def FnRenderOpenUptoSaid : Prop := fnRenderOpenUptoRow.holds Try.pinned (OpenSpec.upto fnRenderOpenSpec)

/-- 'laws.FnWidthsOf', WHERE WHAT IT READS IS OF BULK AT MOST 1048576: true; the input reads as it did. -/
def fnWidthsOfUptoRow : OpenClaim := { program := "ytgkbagcgbfgllaa", sum := "c64a9459d610c75af6c7a98b318d4f4db107f3d44b4111a4c0b0827dfe42380c", func := "loop.example/docalgebra/laws.FnWidthsOf", spec := "fnWidthsOf", inPlace := ["internal/bytealg.IndexByteString", "internal/abi.NoEscape"], unfollowed := true, recurses := true, plainKeys := false, apart := false, narrowed := true }
def FnWidthsOfUptoSaid : Prop := fnWidthsOfUptoRow.holds Try.pinned (OpenSpec.upto fnWidthsOfSpec)

/-- 'laws.FnRenderNest', WHERE WHAT IT READS IS OF BULK AT MOST 1048576: true; the input reads as it did. -/
def fnRenderNestUptoRow : OpenClaim := { program := "ytgkbagcgbfgllaa", sum := "c64a9459d610c75af6c7a98b318d4f4db107f3d44b4111a4c0b0827dfe42380c", func := "loop.example/docalgebra/laws.FnRenderNest", spec := "fnRenderNest", inPlace := ["internal/bytealg.IndexByteString", "internal/abi.NoEscape"], unfollowed := true, recurses := true, plainKeys := false, apart := false, narrowed := true }
def FnRenderNestUptoSaid : Prop := fnRenderNestUptoRow.holds Try.pinned (OpenSpec.upto fnRenderNestSpec)

/-- 'laws.FnRenderCat', WHERE WHAT IT READS IS OF BULK AT MOST 1048576: true; the input reads as it did. -/
def fnRenderCatUptoRow : OpenClaim := { program := "ytgkbagcgbfgllaa", sum := "c64a9459d610c75af6c7a98b318d4f4db107f3d44b4111a4c0b0827dfe42380c", func := "loop.example/docalgebra/laws.FnRenderCat", spec := "fnRenderCat", inPlace := ["internal/bytealg.IndexByteString", "internal/abi.NoEscape"], unfollowed := true, recurses := true, plainKeys := false, apart := false, narrowed := true }
def FnRenderCatUptoSaid : Prop := fnRenderCatUptoRow.holds Try.pinned (OpenSpec.upto fnRenderCatSpec)

/-- 'laws.FnRenderWide', WHERE WHAT IT READS IS OF BULK AT MOST 1048576: true; the input reads as it did. -/
def fnRenderWideUptoRow : OpenClaim := { program := "ytgkbagcgbfgllaa", sum := "c64a9459d610c75af6c7a98b318d4f4db107f3d44b4111a4c0b0827dfe42380c", func := "loop.example/docalgebra/laws.FnRenderWide", spec := "fnRenderWide", inPlace := ["internal/bytealg.IndexByteString", "internal/abi.NoEscape"], unfollowed := true, recurses := true, plainKeys := false, apart := false, narrowed := true }
def FnRenderWideUptoSaid : Prop := fnRenderWideUptoRow.holds Try.pinned (OpenSpec.upto fnRenderWideSpec)

/-- 'laws.FnGroupFlags', WHERE WHAT IT READS IS OF BULK AT MOST 1048576: true; the input reads as it did. -/
def fnGroupFlagsUptoRow : OpenClaim := { program := "ytgkbagcgbfgllaa", sum := "c64a9459d610c75af6c7a98b318d4f4db107f3d44b4111a4c0b0827dfe42380c", func := "loop.example/docalgebra/laws.FnGroupFlags", spec := "fnGroupFlags", inPlace := ["internal/bytealg.IndexByteString", "internal/abi.NoEscape"], unfollowed := true, recurses := true, plainKeys := false, apart := false, narrowed := true }
def FnGroupFlagsUptoSaid : Prop := fnGroupFlagsUptoRow.holds Try.pinned (OpenSpec.upto fnGroupFlagsSpec)

/-- 'laws.FnExactRenderDoc', WHERE WHAT IT READS IS OF BULK AT MOST 1048576: true; the input reads as it did. -/
def fnExactRenderDocUptoRow : OpenClaim := { program := "ytgkbagcgbfgllaa", sum := "c64a9459d610c75af6c7a98b318d4f4db107f3d44b4111a4c0b0827dfe42380c", func := "loop.example/docalgebra/laws.FnExactRenderDoc", spec := "fnExactRenderDoc", inPlace := ["internal/bytealg.IndexByteString", "internal/abi.NoEscape"], unfollowed := true, recurses := true, loops := true, plainKeys := false, apart := false, narrowed := true }
def FnExactRenderDocUptoSaid : Prop := fnExactRenderDocUptoRow.holds Try.pinned (OpenSpec.upto fnExactRenderDocSpec)

/-- 'laws.FnExactRenderText', WHERE WHAT IT READS IS OF BULK AT MOST 1048576: true; the input reads as it did. -/
def fnExactRenderTextUptoRow : OpenClaim := { program := "ytgkbagcgbfgllaa", sum := "c64a9459d610c75af6c7a98b318d4f4db107f3d44b4111a4c0b0827dfe42380c", func := "loop.example/docalgebra/laws.FnExactRenderText", spec := "fnExactRenderText", inPlace := ["internal/bytealg.IndexByteString", "internal/abi.NoEscape", "internal/bytealg.MakeNoZero"], unfollowed := true, recurses := true, loops := true, plainKeys := false, apart := false, narrowed := true }
def FnExactRenderTextUptoSaid : Prop := fnExactRenderTextUptoRow.holds Try.pinned (OpenSpec.upto fnExactRenderTextSpec)

/-- 'laws.FnExactGroupFlags', WHERE WHAT IT READS IS OF BULK AT MOST 1048576: true; the input reads as it did. -/
def fnExactGroupFlagsUptoRow : OpenClaim := { program := "ytgkbagcgbfgllaa", sum := "c64a9459d610c75af6c7a98b318d4f4db107f3d44b4111a4c0b0827dfe42380c", func := "loop.example/docalgebra/laws.FnExactGroupFlags", spec := "fnExactGroupFlags", inPlace := ["internal/bytealg.IndexByteString", "internal/abi.NoEscape"], unfollowed := true, recurses := true, loops := true, plainKeys := false, apart := false, narrowed := true }
def FnExactGroupFlagsUptoSaid : Prop := fnExactGroupFlagsUptoRow.holds Try.pinned (OpenSpec.upto fnExactGroupFlagsSpec)

/-- 'laws.FnExactWidthsOf', WHERE WHAT IT READS IS OF BULK AT MOST 1048576: true; the input reads as it did. -/
def fnExactWidthsOfUptoRow : OpenClaim := { program := "ytgkbagcgbfgllaa", sum := "c64a9459d610c75af6c7a98b318d4f4db107f3d44b4111a4c0b0827dfe42380c", func := "loop.example/docalgebra/laws.FnExactWidthsOf", spec := "fnExactWidthsOf", inPlace := ["internal/bytealg.IndexByteString", "internal/abi.NoEscape"], unfollowed := true, recurses := true, loops := true, plainKeys := false, apart := false, narrowed := true }
def FnExactWidthsOfUptoSaid : Prop := fnExactWidthsOfUptoRow.holds Try.pinned (OpenSpec.upto fnExactWidthsOfSpec)

end Rows
end Go.Proofs.Ytgkbagcgbfgllaa
