/-
  No cell of these rows narrows 'for every input' (looked for: loops, veiled, ifaces, maps, wideKeys, modest, calm, conditions, laid).
  DERIVED. THE GIVEN ROWS OF THIS SEAT. 8 by the template 'for every input the law returns true; each argument reads behind the call as it read before'; 0 by the template 'total and deterministic' (their statements: YtjcaiecapapceaaGreatTotals.lean).
  GIVEN WITH THE SEED: the statements are not yours to turn. If you find one false, say at which input.
  Laid BY PROGRAM, IN A SANDBOX (cutbox-rows.mjs): the forced cells as the released guide's own fill.sh prints them over the translation cbc7ed821069d5d0… (all of the seat's roots in one cut). By AI agents, Wed Nov 11 2026. No macro, syntax, notation, axiom, sorry.
-/
import Derived.Test.YtjcaiecapapceaaGreatChecked
import GoSem.Claim
import GoSem.ClaimJoined
import GoSem.ClaimMapViews
import Derived.JoinedTies
import Derived.KernelRfl
namespace Go.Proofs.YtjcaiecapapceaaGreat
/- THE CELL 'sum', in the pinned program and in every row, IS THE sha256 OF THE DUMP (.gsa) THAT YtjcaiecapapceaaGreatProg.lean LOADS. Nothing in Lean hashes anything: it is a label: what it is worth is what the hold of that sum in a sandbox is worth. -/
noncomputable def Tryz.pinned : Pinned := { name := "ytjcaiecapapceaagreat", sum := "cbc7ed821069d5d0b6e822aad71b31f7cb158e05250f7b06330c6763184acce3", checked := Tryz.checked }
namespace Rows
def none {H : Type} : Left H := { results := [], args := [] }

/-- 'laws.FnRenderDoc': WHATEVER THE INPUT: true; the input reads as it did. -/
def fnRenderDocSpec : ChangeSpec := { name := "fnRenderDoc", fn := fun _ => fun
  | [d] => { results := [.lit (.bool true)], args := [d] }
  | _ => none }
def fnRenderDocRow : OpenClaim := { program := "ytjcaiecapapceaagreat", sum := "cbc7ed821069d5d0b6e822aad71b31f7cb158e05250f7b06330c6763184acce3", func := "loop.example/docalgebra/laws.FnRenderDoc", spec := "fnRenderDoc", inPlace := ["internal/bytealg.IndexByteString", "internal/abi.NoEscape", "internal/bytealg.MakeNoZero"], unfollowed := true, recurses := true, plainKeys := false, apart := false }
def FnRenderDocSaid : Prop := fnRenderDocRow.holds Tryz.pinned (OpenSpec.ofChange fnRenderDocSpec)

/-- ITS FALSE NEIGHBOUR: 'it returns false'. Refute it at one input. -/
def fnRenderDocWrong : ChangeSpec := { name := "fnRenderDoc", fn := fun _ => fun
  | [d] => { results := [.lit (.bool false)], args := [d] }
  | _ => none }
def FnRenderDocWrongFalsely : Prop := fnRenderDocRow.holds Tryz.pinned (OpenSpec.ofChange fnRenderDocWrong)

/-- 'laws.FnNormalDoc': WHATEVER THE INPUT: true; the input reads as it did. -/
def fnNormalDocSpec : ChangeSpec := { name := "fnNormalDoc", fn := fun _ => fun
  | [d] => { results := [.lit (.bool true)], args := [d] }
  | _ => none }
def fnNormalDocRow : OpenClaim := { program := "ytjcaiecapapceaagreat", sum := "cbc7ed821069d5d0b6e822aad71b31f7cb158e05250f7b06330c6763184acce3", func := "loop.example/docalgebra/laws.FnNormalDoc", spec := "fnNormalDoc", inPlace := ["internal/bytealg.IndexByteString", "internal/abi.NoEscape"], unfollowed := true, recurses := true, plainKeys := false, apart := false }
def FnNormalDocSaid : Prop := fnNormalDocRow.holds Tryz.pinned (OpenSpec.ofChange fnNormalDocSpec)

/-- ITS FALSE NEIGHBOUR: 'it returns false'. Refute it at one input. -/
def fnNormalDocWrong : ChangeSpec := { name := "fnNormalDoc", fn := fun _ => fun
  | [d] => { results := [.lit (.bool false)], args := [d] }
  | _ => none }
def FnNormalDocWrongFalsely : Prop := fnNormalDocRow.holds Tryz.pinned (OpenSpec.ofChange fnNormalDocWrong)

/-- 'laws.FnSameLayouts': WHATEVER THE INPUT: true; the input reads as it did. -/
def fnSameLayoutsSpec : ChangeSpec := { name := "fnSameLayouts", fn := fun _ => fun
  | [d] => { results := [.lit (.bool true)], args := [d] }
  | _ => none }
def fnSameLayoutsRow : OpenClaim := { program := "ytjcaiecapapceaagreat", sum := "cbc7ed821069d5d0b6e822aad71b31f7cb158e05250f7b06330c6763184acce3", func := "loop.example/docalgebra/laws.FnSameLayouts", spec := "fnSameLayouts", inPlace := ["internal/bytealg.IndexByteString", "internal/abi.NoEscape"], unfollowed := true, recurses := true, plainKeys := false, apart := false }
def FnSameLayoutsSaid : Prop := fnSameLayoutsRow.holds Tryz.pinned (OpenSpec.ofChange fnSameLayoutsSpec)

/-- ITS FALSE NEIGHBOUR: 'it returns false'. Refute it at one input. -/
def fnSameLayoutsWrong : ChangeSpec := { name := "fnSameLayouts", fn := fun _ => fun
  | [d] => { results := [.lit (.bool false)], args := [d] }
  | _ => none }
def FnSameLayoutsWrongFalsely : Prop := fnSameLayoutsRow.holds Tryz.pinned (OpenSpec.ofChange fnSameLayoutsWrong)

/-- 'laws.FnOnlyLayout': WHATEVER THE INPUT: true; the input reads as it did. -/
def fnOnlyLayoutSpec : ChangeSpec := { name := "fnOnlyLayout", fn := fun _ => fun
  | [d] => { results := [.lit (.bool true)], args := [d] }
  | _ => none }
def fnOnlyLayoutRow : OpenClaim := { program := "ytjcaiecapapceaagreat", sum := "cbc7ed821069d5d0b6e822aad71b31f7cb158e05250f7b06330c6763184acce3", func := "loop.example/docalgebra/laws.FnOnlyLayout", spec := "fnOnlyLayout", inPlace := ["internal/bytealg.IndexByteString", "internal/abi.NoEscape"], unfollowed := true, recurses := true, plainKeys := false, apart := false }
def FnOnlyLayoutSaid : Prop := fnOnlyLayoutRow.holds Tryz.pinned (OpenSpec.ofChange fnOnlyLayoutSpec)

/-- ITS FALSE NEIGHBOUR: 'it returns false'. Refute it at one input. -/
def fnOnlyLayoutWrong : ChangeSpec := { name := "fnOnlyLayout", fn := fun _ => fun
  | [d] => { results := [.lit (.bool false)], args := [d] }
  | _ => none }
def FnOnlyLayoutWrongFalsely : Prop := fnOnlyLayoutRow.holds Tryz.pinned (OpenSpec.ofChange fnOnlyLayoutWrong)

/-- 'laws.FnSameRenders': WHATEVER THE INPUT: true; the input reads as it did. -/
def fnSameRendersSpec : ChangeSpec := { name := "fnSameRenders", fn := fun _ => fun
  | [d] => { results := [.lit (.bool true)], args := [d] }
  | _ => none }
def fnSameRendersRow : OpenClaim := { program := "ytjcaiecapapceaagreat", sum := "cbc7ed821069d5d0b6e822aad71b31f7cb158e05250f7b06330c6763184acce3", func := "loop.example/docalgebra/laws.FnSameRenders", spec := "fnSameRenders", inPlace := ["internal/bytealg.IndexByteString", "internal/abi.NoEscape"], unfollowed := true, recurses := true, plainKeys := false, apart := false }
def FnSameRendersSaid : Prop := fnSameRendersRow.holds Tryz.pinned (OpenSpec.ofChange fnSameRendersSpec)

/-- ITS FALSE NEIGHBOUR: 'it returns false'. Refute it at one input. -/
def fnSameRendersWrong : ChangeSpec := { name := "fnSameRenders", fn := fun _ => fun
  | [d] => { results := [.lit (.bool false)], args := [d] }
  | _ => none }
def FnSameRendersWrongFalsely : Prop := fnSameRendersRow.holds Tryz.pinned (OpenSpec.ofChange fnSameRendersWrong)

/-- 'laws.FnSameOpen': WHATEVER THE INPUT: true; the input reads as it did. -/
def fnSameOpenSpec : ChangeSpec := { name := "fnSameOpen", fn := fun _ => fun
  | [d] => { results := [.lit (.bool true)], args := [d] }
  | _ => none }
def fnSameOpenRow : OpenClaim := { program := "ytjcaiecapapceaagreat", sum := "cbc7ed821069d5d0b6e822aad71b31f7cb158e05250f7b06330c6763184acce3", func := "loop.example/docalgebra/laws.FnSameOpen", spec := "fnSameOpen", inPlace := ["internal/bytealg.IndexByteString", "internal/abi.NoEscape"], unfollowed := true, recurses := true, plainKeys := false, apart := false }
def FnSameOpenSaid : Prop := fnSameOpenRow.holds Tryz.pinned (OpenSpec.ofChange fnSameOpenSpec)

/-- ITS FALSE NEIGHBOUR: 'it returns false'. Refute it at one input. -/
def fnSameOpenWrong : ChangeSpec := { name := "fnSameOpen", fn := fun _ => fun
  | [d] => { results := [.lit (.bool false)], args := [d] }
  | _ => none }
def FnSameOpenWrongFalsely : Prop := fnSameOpenRow.holds Tryz.pinned (OpenSpec.ofChange fnSameOpenWrong)

/-- 'laws.FnSameChain': WHATEVER THE INPUT: true; the input reads as it did. -/
def fnSameChainSpec : ChangeSpec := { name := "fnSameChain", fn := fun _ => fun
  | [d] => { results := [.lit (.bool true)], args := [d] }
  | _ => none }
def fnSameChainRow : OpenClaim := { program := "ytjcaiecapapceaagreat", sum := "cbc7ed821069d5d0b6e822aad71b31f7cb158e05250f7b06330c6763184acce3", func := "loop.example/docalgebra/laws.FnSameChain", spec := "fnSameChain", inPlace := ["internal/bytealg.IndexByteString", "internal/abi.NoEscape"], unfollowed := true, recurses := true, plainKeys := false, apart := false }
def FnSameChainSaid : Prop := fnSameChainRow.holds Tryz.pinned (OpenSpec.ofChange fnSameChainSpec)

/-- ITS FALSE NEIGHBOUR: 'it returns false'. Refute it at one input. -/
def fnSameChainWrong : ChangeSpec := { name := "fnSameChain", fn := fun _ => fun
  | [d] => { results := [.lit (.bool false)], args := [d] }
  | _ => none }
def FnSameChainWrongFalsely : Prop := fnSameChainRow.holds Tryz.pinned (OpenSpec.ofChange fnSameChainWrong)

/-- 'laws.FnOnlyNone': WHATEVER THE INPUT: true; the input reads as it did. -/
def fnOnlyNoneSpec : ChangeSpec := { name := "fnOnlyNone", fn := fun _ => fun
  | [d] => { results := [.lit (.bool true)], args := [d] }
  | _ => none }
def fnOnlyNoneRow : OpenClaim := { program := "ytjcaiecapapceaagreat", sum := "cbc7ed821069d5d0b6e822aad71b31f7cb158e05250f7b06330c6763184acce3", func := "loop.example/docalgebra/laws.FnOnlyNone", spec := "fnOnlyNone", inPlace := ["internal/bytealg.IndexByteString", "internal/abi.NoEscape"], unfollowed := true, recurses := true, plainKeys := false, apart := false }
def FnOnlyNoneSaid : Prop := fnOnlyNoneRow.holds Tryz.pinned (OpenSpec.ofChange fnOnlyNoneSpec)

/-- ITS FALSE NEIGHBOUR: 'it returns false'. Refute it at one input. -/
def fnOnlyNoneWrong : ChangeSpec := { name := "fnOnlyNone", fn := fun _ => fun
  | [d] => { results := [.lit (.bool false)], args := [d] }
  | _ => none }
def FnOnlyNoneWrongFalsely : Prop := fnOnlyNoneRow.holds Tryz.pinned (OpenSpec.ofChange fnOnlyNoneWrong)

/- THE SECOND FORM. 'bulk': how many values and letters a reading holds, each counted each time it is reached (what is shared counts as often as it is met; a slice's spare places count too). A statement '..UptoSaid' is the law's where the arguments, and the package variables that the reading takes, are together of bulk at most 1048576: NARROWER than '..Said'. Prove '..Said' where nothing that the law and all that it calls make is longer than what came in: it says more and counts as full. Else prove '..UptoSaid'. A law counts once. -/
mutual
def uptoBulk {H : Type} : DataW H → Nat
  | .lit (.string bytes) => bytes.length + 1
  | .lit _ => 1
  | .nil => 1
  | .ptr d => uptoBulk d + 1
  | .slice elems spare => uptoBulkAll elems + uptoBulkAll spare + 1
  | .agg parts => uptoBulkAll parts + 1
  | .iface _ d => uptoBulk d + 1
  | .map entries => uptoBulkEntries entries + 1
  | .held _ => 1
def uptoBulkAll {H : Type} : List (DataW H) → Nat
  | [] => 0
  | d :: r => uptoBulk d + uptoBulkAll r
def uptoBulkEntries {H : Type} : List (Lit × DataW H) → Nat
  | [] => 0
  | x :: r => uptoBulkEntry x + uptoBulkEntries r
def uptoBulkEntry {H : Type} : Lit × DataW H → Nat
  | (.string bytes, d) => bytes.length + uptoBulk d + 1
  | (_, d) => uptoBulk d + 1
 end
def uptoSmall : (H : Type) → List (DataW H) → Bool := fun _ ds => decide (uptoBulkAll ds ≤ 1048576)
def OpenSpec.upto (s : _root_.Go.ChangeSpec) : _root_.Go.OpenSpec := { _root_.Go.OpenSpec.ofChange s with cond := some uptoSmall }

/-- 'laws.FnRenderDoc', WHERE WHAT IT READS IS OF BULK AT MOST 1048576: true; the input reads as it did. -/
def fnRenderDocUptoRow : OpenClaim := { program := "ytjcaiecapapceaagreat", sum := "cbc7ed821069d5d0b6e822aad71b31f7cb158e05250f7b06330c6763184acce3", func := "loop.example/docalgebra/laws.FnRenderDoc", spec := "fnRenderDoc", inPlace := ["internal/bytealg.IndexByteString", "internal/abi.NoEscape", "internal/bytealg.MakeNoZero"], unfollowed := true, recurses := true, plainKeys := false, apart := false, narrowed := true }
def FnRenderDocUptoSaid : Prop := fnRenderDocUptoRow.holds Tryz.pinned (OpenSpec.upto fnRenderDocSpec)

/-- 'laws.FnNormalDoc', WHERE WHAT IT READS IS OF BULK AT MOST 1048576: true; the input reads as it did. -/
def fnNormalDocUptoRow : OpenClaim := { program := "ytjcaiecapapceaagreat", sum := "cbc7ed821069d5d0b6e822aad71b31f7cb158e05250f7b06330c6763184acce3", func := "loop.example/docalgebra/laws.FnNormalDoc", spec := "fnNormalDoc", inPlace := ["internal/bytealg.IndexByteString", "internal/abi.NoEscape"], unfollowed := true, recurses := true, plainKeys := false, apart := false, narrowed := true }
def FnNormalDocUptoSaid : Prop := fnNormalDocUptoRow.holds Tryz.pinned (OpenSpec.upto fnNormalDocSpec)

/-- 'laws.FnSameLayouts', WHERE WHAT IT READS IS OF BULK AT MOST 1048576: true; the input reads as it did. -/
def fnSameLayoutsUptoRow : OpenClaim := { program := "ytjcaiecapapceaagreat", sum := "cbc7ed821069d5d0b6e822aad71b31f7cb158e05250f7b06330c6763184acce3", func := "loop.example/docalgebra/laws.FnSameLayouts", spec := "fnSameLayouts", inPlace := ["internal/bytealg.IndexByteString", "internal/abi.NoEscape"], unfollowed := true, recurses := true, plainKeys := false, apart := false, narrowed := true }
def FnSameLayoutsUptoSaid : Prop := fnSameLayoutsUptoRow.holds Tryz.pinned (OpenSpec.upto fnSameLayoutsSpec)

/-- 'laws.FnOnlyLayout', WHERE WHAT IT READS IS OF BULK AT MOST 1048576: true; the input reads as it did. -/
def fnOnlyLayoutUptoRow : OpenClaim := { program := "ytjcaiecapapceaagreat", sum := "cbc7ed821069d5d0b6e822aad71b31f7cb158e05250f7b06330c6763184acce3", func := "loop.example/docalgebra/laws.FnOnlyLayout", spec := "fnOnlyLayout", inPlace := ["internal/bytealg.IndexByteString", "internal/abi.NoEscape"], unfollowed := true, recurses := true, plainKeys := false, apart := false, narrowed := true }
def FnOnlyLayoutUptoSaid : Prop := fnOnlyLayoutUptoRow.holds Tryz.pinned (OpenSpec.upto fnOnlyLayoutSpec)

/-- 'laws.FnSameRenders', WHERE WHAT IT READS IS OF BULK AT MOST 1048576: true; the input reads as it did. -/
def fnSameRendersUptoRow : OpenClaim := { program := "ytjcaiecapapceaagreat", sum := "cbc7ed821069d5d0b6e822aad71b31f7cb158e05250f7b06330c6763184acce3", func := "loop.example/docalgebra/laws.FnSameRenders", spec := "fnSameRenders", inPlace := ["internal/bytealg.IndexByteString", "internal/abi.NoEscape"], unfollowed := true, recurses := true, plainKeys := false, apart := false, narrowed := true }
def FnSameRendersUptoSaid : Prop := fnSameRendersUptoRow.holds Tryz.pinned (OpenSpec.upto fnSameRendersSpec)

/-- 'laws.FnSameOpen', WHERE WHAT IT READS IS OF BULK AT MOST 1048576: true; the input reads as it did. -/
def fnSameOpenUptoRow : OpenClaim := { program := "ytjcaiecapapceaagreat", sum := "cbc7ed821069d5d0b6e822aad71b31f7cb158e05250f7b06330c6763184acce3", func := "loop.example/docalgebra/laws.FnSameOpen", spec := "fnSameOpen", inPlace := ["internal/bytealg.IndexByteString", "internal/abi.NoEscape"], unfollowed := true, recurses := true, plainKeys := false, apart := false, narrowed := true }
def FnSameOpenUptoSaid : Prop := fnSameOpenUptoRow.holds Tryz.pinned (OpenSpec.upto fnSameOpenSpec)

/-- 'laws.FnSameChain', WHERE WHAT IT READS IS OF BULK AT MOST 1048576: true; the input reads as it did. -/
def fnSameChainUptoRow : OpenClaim := { program := "ytjcaiecapapceaagreat", sum := "cbc7ed821069d5d0b6e822aad71b31f7cb158e05250f7b06330c6763184acce3", func := "loop.example/docalgebra/laws.FnSameChain", spec := "fnSameChain", inPlace := ["internal/bytealg.IndexByteString", "internal/abi.NoEscape"], unfollowed := true, recurses := true, plainKeys := false, apart := false, narrowed := true }
def FnSameChainUptoSaid : Prop := fnSameChainUptoRow.holds Tryz.pinned (OpenSpec.upto fnSameChainSpec)

/-- 'laws.FnOnlyNone', WHERE WHAT IT READS IS OF BULK AT MOST 1048576: true; the input reads as it did. -/
def fnOnlyNoneUptoRow : OpenClaim := { program := "ytjcaiecapapceaagreat", sum := "cbc7ed821069d5d0b6e822aad71b31f7cb158e05250f7b06330c6763184acce3", func := "loop.example/docalgebra/laws.FnOnlyNone", spec := "fnOnlyNone", inPlace := ["internal/bytealg.IndexByteString", "internal/abi.NoEscape"], unfollowed := true, recurses := true, plainKeys := false, apart := false, narrowed := true }
def FnOnlyNoneUptoSaid : Prop := fnOnlyNoneUptoRow.holds Tryz.pinned (OpenSpec.upto fnOnlyNoneSpec)

end Rows
end Go.Proofs.YtjcaiecapapceaaGreat
