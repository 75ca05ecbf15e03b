/-
  NARROWER THAN 'FOR EVERY INPUT', by the rows' own cells (each row's printed sentence says how): FnExactGreedyGap: loops · FnExactFirstGap: loops.
  DERIVED. THE GIVEN ROWS OF THIS SEAT. 8 by the template 'for every input the law returns true; each argument reads behind the call as it read before'; 0 by the template 'total and deterministic' (their statements: YtclifbjnooilmaaGreatTotals.lean).
  GIVEN WITH THE SEED: the statements are not yours to turn. If you find one false, say at which input.
  Laid BY PROGRAM, IN A SANDBOX (cutbox-rows.mjs): the forced cells as the released guide's own fill.sh prints them over the translation a975de6214fe1c14… (all of the seat's roots in one cut). By AI agents, Wed Nov 11 2026. No macro, syntax, notation, axiom, sorry.
-/
import Derived.Test.YtclifbjnooilmaaGreatChecked
import GoSem.Claim
import GoSem.ClaimJoined
import GoSem.ClaimMapViews
import Derived.JoinedTies
import Derived.KernelRfl
namespace Go.Proofs.YtclifbjnooilmaaGreat
/- THE CELL 'sum', in the pinned program and in every row, IS THE sha256 OF THE DUMP (.gsa) THAT YtclifbjnooilmaaGreatProg.lean LOADS. Nothing in Lean hashes anything: it is a label: what it is worth is what the hold of that sum in a sandbox is worth. -/
noncomputable def Tryz.pinned : Pinned := { name := "ytclifbjnooilmaagreat", sum := "a975de6214fe1c14eba30594bef69b2e4ee8efed1b7d4340dd8db425c089c1c3", checked := Tryz.checked }
namespace Rows
def none {H : Type} : Left H := { results := [], args := [] }

/-- 'laws.FnBestLayout': WHATEVER THE INPUT: true; the input reads as it did. -/
def fnBestLayoutSpec : ChangeSpec := { name := "fnBestLayout", fn := fun _ => fun
  | [d] => { results := [.lit (.bool true)], args := [d] }
  | _ => none }
def fnBestLayoutRow : OpenClaim := { program := "ytclifbjnooilmaagreat", sum := "a975de6214fe1c14eba30594bef69b2e4ee8efed1b7d4340dd8db425c089c1c3", func := "loop.example/docalgebra/laws.FnBestLayout", spec := "fnBestLayout", inPlace := ["internal/bytealg.IndexByteString", "internal/abi.NoEscape"], unfollowed := true, recurses := true, plainKeys := false, apart := false }
def FnBestLayoutSaid : Prop := fnBestLayoutRow.holds Tryz.pinned (OpenSpec.ofChange fnBestLayoutSpec)

/-- ITS FALSE NEIGHBOUR: 'it returns false'. Refute it at one input. -/
def fnBestLayoutWrong : ChangeSpec := { name := "fnBestLayout", fn := fun _ => fun
  | [d] => { results := [.lit (.bool false)], args := [d] }
  | _ => none }
def FnBestLayoutWrongFalsely : Prop := fnBestLayoutRow.holds Tryz.pinned (OpenSpec.ofChange fnBestLayoutWrong)

/-- 'laws.FnGreedyGap': WHATEVER THE INPUT: true; the input reads as it did. -/
def fnGreedyGapSpec : ChangeSpec := { name := "fnGreedyGap", fn := fun _ => fun
  | [d] => { results := [.lit (.bool true)], args := [d] }
  | _ => none }
def fnGreedyGapRow : OpenClaim := { program := "ytclifbjnooilmaagreat", sum := "a975de6214fe1c14eba30594bef69b2e4ee8efed1b7d4340dd8db425c089c1c3", func := "loop.example/docalgebra/laws.FnGreedyGap", spec := "fnGreedyGap", inPlace := ["internal/bytealg.IndexByteString", "internal/abi.NoEscape"], unfollowed := true, recurses := true, plainKeys := false, apart := false }
def FnGreedyGapSaid : Prop := fnGreedyGapRow.holds Tryz.pinned (OpenSpec.ofChange fnGreedyGapSpec)

/-- ITS FALSE NEIGHBOUR: 'it returns false'. Refute it at one input. -/
def fnGreedyGapWrong : ChangeSpec := { name := "fnGreedyGap", fn := fun _ => fun
  | [d] => { results := [.lit (.bool false)], args := [d] }
  | _ => none }
def FnGreedyGapWrongFalsely : Prop := fnGreedyGapRow.holds Tryz.pinned (OpenSpec.ofChange fnGreedyGapWrong)

/-- 'laws.FnFirstGap': WHATEVER THE INPUT: true; the input reads as it did. -/
def fnFirstGapSpec : ChangeSpec := { name := "fnFirstGap", fn := fun _ => fun
  | [d] => { results := [.lit (.bool true)], args := [d] }
  | _ => none }
def fnFirstGapRow : OpenClaim := { program := "ytclifbjnooilmaagreat", sum := "a975de6214fe1c14eba30594bef69b2e4ee8efed1b7d4340dd8db425c089c1c3", func := "loop.example/docalgebra/laws.FnFirstGap", spec := "fnFirstGap", inPlace := ["internal/bytealg.IndexByteString", "internal/abi.NoEscape"], unfollowed := true, recurses := true, plainKeys := false, apart := false }
def FnFirstGapSaid : Prop := fnFirstGapRow.holds Tryz.pinned (OpenSpec.ofChange fnFirstGapSpec)

/-- ITS FALSE NEIGHBOUR: 'it returns false'. Refute it at one input. -/
def fnFirstGapWrong : ChangeSpec := { name := "fnFirstGap", fn := fun _ => fun
  | [d] => { results := [.lit (.bool false)], args := [d] }
  | _ => none }
def FnFirstGapWrongFalsely : Prop := fnFirstGapRow.holds Tryz.pinned (OpenSpec.ofChange fnFirstGapWrong)

/-- 'laws.FnBestPareto': WHATEVER THE INPUT: true; the input reads as it did. -/
def fnBestParetoSpec : ChangeSpec := { name := "fnBestPareto", fn := fun _ => fun
  | [d] => { results := [.lit (.bool true)], args := [d] }
  | _ => none }
def fnBestParetoRow : OpenClaim := { program := "ytclifbjnooilmaagreat", sum := "a975de6214fe1c14eba30594bef69b2e4ee8efed1b7d4340dd8db425c089c1c3", func := "loop.example/docalgebra/laws.FnBestPareto", spec := "fnBestPareto", inPlace := ["internal/bytealg.IndexByteString", "internal/abi.NoEscape"], unfollowed := true, recurses := true, plainKeys := false, apart := false }
def FnBestParetoSaid : Prop := fnBestParetoRow.holds Tryz.pinned (OpenSpec.ofChange fnBestParetoSpec)

/-- ITS FALSE NEIGHBOUR: 'it returns false'. Refute it at one input. -/
def fnBestParetoWrong : ChangeSpec := { name := "fnBestPareto", fn := fun _ => fun
  | [d] => { results := [.lit (.bool false)], args := [d] }
  | _ => none }
def FnBestParetoWrongFalsely : Prop := fnBestParetoRow.holds Tryz.pinned (OpenSpec.ofChange fnBestParetoWrong)

/-- 'laws.FnBestOne': WHATEVER THE INPUT: true; the input reads as it did. -/
def fnBestOneSpec : ChangeSpec := { name := "fnBestOne", fn := fun _ => fun
  | [d] => { results := [.lit (.bool true)], args := [d] }
  | _ => none }
def fnBestOneRow : OpenClaim := { program := "ytclifbjnooilmaagreat", sum := "a975de6214fe1c14eba30594bef69b2e4ee8efed1b7d4340dd8db425c089c1c3", func := "loop.example/docalgebra/laws.FnBestOne", spec := "fnBestOne", inPlace := ["internal/bytealg.IndexByteString", "internal/abi.NoEscape"], unfollowed := true, recurses := true, plainKeys := false, apart := false }
def FnBestOneSaid : Prop := fnBestOneRow.holds Tryz.pinned (OpenSpec.ofChange fnBestOneSpec)

/-- ITS FALSE NEIGHBOUR: 'it returns false'. Refute it at one input. -/
def fnBestOneWrong : ChangeSpec := { name := "fnBestOne", fn := fun _ => fun
  | [d] => { results := [.lit (.bool false)], args := [d] }
  | _ => none }
def FnBestOneWrongFalsely : Prop := fnBestOneRow.holds Tryz.pinned (OpenSpec.ofChange fnBestOneWrong)

/-- 'laws.FnGapBound': WHATEVER THE INPUT: true; the input reads as it did. -/
def fnGapBoundSpec : ChangeSpec := { name := "fnGapBound", fn := fun _ => fun
  | [d] => { results := [.lit (.bool true)], args := [d] }
  | _ => none }
def fnGapBoundRow : OpenClaim := { program := "ytclifbjnooilmaagreat", sum := "a975de6214fe1c14eba30594bef69b2e4ee8efed1b7d4340dd8db425c089c1c3", func := "loop.example/docalgebra/laws.FnGapBound", spec := "fnGapBound", inPlace := ["internal/bytealg.IndexByteString", "internal/abi.NoEscape"], unfollowed := true, recurses := true, plainKeys := false, apart := false }
def FnGapBoundSaid : Prop := fnGapBoundRow.holds Tryz.pinned (OpenSpec.ofChange fnGapBoundSpec)

/-- ITS FALSE NEIGHBOUR: 'it returns false'. Refute it at one input. -/
def fnGapBoundWrong : ChangeSpec := { name := "fnGapBound", fn := fun _ => fun
  | [d] => { results := [.lit (.bool false)], args := [d] }
  | _ => none }
def FnGapBoundWrongFalsely : Prop := fnGapBoundRow.holds Tryz.pinned (OpenSpec.ofChange fnGapBoundWrong)

/-- 'laws.FnExactGreedyGap': WHATEVER THE INPUT: true; the input reads as it did. -/
def fnExactGreedyGapSpec : ChangeSpec := { name := "fnExactGreedyGap", fn := fun _ => fun
  | [d1, d2] => { results := [.lit (.bool true)], args := [d1, d2] }
  | _ => none }
def fnExactGreedyGapRow : OpenClaim := { program := "ytclifbjnooilmaagreat", sum := "a975de6214fe1c14eba30594bef69b2e4ee8efed1b7d4340dd8db425c089c1c3", func := "loop.example/docalgebra/laws.FnExactGreedyGap", spec := "fnExactGreedyGap", inPlace := ["internal/bytealg.IndexByteString", "internal/abi.NoEscape"], unfollowed := true, recurses := true, loops := true, plainKeys := false, apart := false }
def FnExactGreedyGapSaid : Prop := fnExactGreedyGapRow.holds Tryz.pinned (OpenSpec.ofChange fnExactGreedyGapSpec)

/-- ITS FALSE NEIGHBOUR: 'it returns false'. Refute it at one input. -/
def fnExactGreedyGapWrong : ChangeSpec := { name := "fnExactGreedyGap", fn := fun _ => fun
  | [d1, d2] => { results := [.lit (.bool false)], args := [d1, d2] }
  | _ => none }
def FnExactGreedyGapWrongFalsely : Prop := fnExactGreedyGapRow.holds Tryz.pinned (OpenSpec.ofChange fnExactGreedyGapWrong)

/-- 'laws.FnExactFirstGap': WHATEVER THE INPUT: true; the input reads as it did. -/
def fnExactFirstGapSpec : ChangeSpec := { name := "fnExactFirstGap", fn := fun _ => fun
  | [d] => { results := [.lit (.bool true)], args := [d] }
  | _ => none }
def fnExactFirstGapRow : OpenClaim := { program := "ytclifbjnooilmaagreat", sum := "a975de6214fe1c14eba30594bef69b2e4ee8efed1b7d4340dd8db425c089c1c3", func := "loop.example/docalgebra/laws.FnExactFirstGap", spec := "fnExactFirstGap", inPlace := ["internal/bytealg.IndexByteString", "internal/abi.NoEscape"], unfollowed := true, recurses := true, loops := true, plainKeys := false, apart := false }
def FnExactFirstGapSaid : Prop := fnExactFirstGapRow.holds Tryz.pinned (OpenSpec.ofChange fnExactFirstGapSpec)

/-- ITS FALSE NEIGHBOUR: 'it returns false'. Refute it at one input. -/
def fnExactFirstGapWrong : ChangeSpec := { name := "fnExactFirstGap", fn := fun _ => fun
  | [d] => { results := [.lit (.bool false)], args := [d] }
  | _ => none }
def FnExactFirstGapWrongFalsely : Prop := fnExactFirstGapRow.holds Tryz.pinned (OpenSpec.ofChange fnExactFirstGapWrong)

/- THE SECOND FORM. 'bulk': how many values and letters a reading holds, each counted each time it is reached (what is shared counts as often as it is met; a slice's spare places count too). A statement '..UptoSaid' is the law's where the arguments, and the package variables that the reading takes, are together of bulk at most 1048576: NARROWER than '..Said'. Prove '..Said' where nothing that the law and all that it calls make is longer than what came in: it says more and counts as full. Else prove '..UptoSaid'. A law counts once. -/
mutual
def uptoBulk {H : Type} : DataW H → Nat
  | .lit (.string bytes) => bytes.length + 1
  | .lit _ => 1
  | .nil => 1
  | .ptr d => uptoBulk d + 1
  | .slice elems spare => uptoBulkAll elems + uptoBulkAll spare + 1
  | .agg parts => uptoBulkAll parts + 1
  | .iface _ d => uptoBulk d + 1
  | .map entries => uptoBulkEntries entries + 1
  | .held _ => 1
def uptoBulkAll {H : Type} : List (DataW H) → Nat
  | [] => 0
  | d :: r => uptoBulk d + uptoBulkAll r
def uptoBulkEntries {H : Type} : List (Lit × DataW H) → Nat
  | [] => 0
  | x :: r => uptoBulkEntry x + uptoBulkEntries r
def uptoBulkEntry {H : Type} : Lit × DataW H → Nat
  | (.string bytes, d) => bytes.length + uptoBulk d + 1
  | (_, d) => uptoBulk d + 1
 end
def uptoSmall : (H : Type) → List (DataW H) → Bool := fun _ ds => decide (uptoBulkAll ds ≤ 1048576)
def OpenSpec.upto (s : _root_.Go.ChangeSpec) : _root_.Go.OpenSpec := { _root_.Go.OpenSpec.ofChange s with cond := some uptoSmall }

/-- 'laws.FnBestLayout', WHERE WHAT IT READS IS OF BULK AT MOST 1048576: true; the input reads as it did. -/
def fnBestLayoutUptoRow : OpenClaim := { program := "ytclifbjnooilmaagreat", sum := "a975de6214fe1c14eba30594bef69b2e4ee8efed1b7d4340dd8db425c089c1c3", func := "loop.example/docalgebra/laws.FnBestLayout", spec := "fnBestLayout", inPlace := ["internal/bytealg.IndexByteString", "internal/abi.NoEscape"], unfollowed := true, recurses := true, plainKeys := false, apart := false, narrowed := true }
def FnBestLayoutUptoSaid : Prop := fnBestLayoutUptoRow.holds Tryz.pinned (OpenSpec.upto fnBestLayoutSpec)

/-- 'laws.FnGreedyGap', WHERE WHAT IT READS IS OF BULK AT MOST 1048576: true; the input reads as it did. -/
def fnGreedyGapUptoRow : OpenClaim := { program := "ytclifbjnooilmaagreat", sum := "a975de6214fe1c14eba30594bef69b2e4ee8efed1b7d4340dd8db425c089c1c3", func := "loop.example/docalgebra/laws.FnGreedyGap", spec := "fnGreedyGap", inPlace := ["internal/bytealg.IndexByteString", "internal/abi.NoEscape"], unfollowed := true, recurses := true, plainKeys := false, apart := false, narrowed := true }
def FnGreedyGapUptoSaid : Prop := fnGreedyGapUptoRow.holds Tryz.pinned (OpenSpec.upto fnGreedyGapSpec)

/-- 'laws.FnFirstGap', WHERE WHAT IT READS IS OF BULK AT MOST 1048576: true; the input reads as it did. -/
def fnFirstGapUptoRow : OpenClaim := { program := "ytclifbjnooilmaagreat", sum := "a975de6214fe1c14eba30594bef69b2e4ee8efed1b7d4340dd8db425c089c1c3", func := "loop.example/docalgebra/laws.FnFirstGap", spec := "fnFirstGap", inPlace := ["internal/bytealg.IndexByteString", "internal/abi.NoEscape"], unfollowed := true, recurses := true, plainKeys := false, apart := false, narrowed := true }
def FnFirstGapUptoSaid : Prop := fnFirstGapUptoRow.holds Tryz.pinned (OpenSpec.upto fnFirstGapSpec)

/-- 'laws.FnBestPareto', WHERE WHAT IT READS IS OF BULK AT MOST 1048576: true; the input reads as it did. -/
def fnBestParetoUptoRow : OpenClaim := { program := "ytclifbjnooilmaagreat", sum := "a975de6214fe1c14eba30594bef69b2e4ee8efed1b7d4340dd8db425c089c1c3", func := "loop.example/docalgebra/laws.FnBestPareto", spec := "fnBestPareto", inPlace := ["internal/bytealg.IndexByteString", "internal/abi.NoEscape"], unfollowed := true, recurses := true, plainKeys := false, apart := false, narrowed := true }
def FnBestParetoUptoSaid : Prop := fnBestParetoUptoRow.holds Tryz.pinned (OpenSpec.upto fnBestParetoSpec)

/-- 'laws.FnBestOne', WHERE WHAT IT READS IS OF BULK AT MOST 1048576: true; the input reads as it did. -/
def fnBestOneUptoRow : OpenClaim := { program := "ytclifbjnooilmaagreat", sum := "a975de6214fe1c14eba30594bef69b2e4ee8efed1b7d4340dd8db425c089c1c3", func := "loop.example/docalgebra/laws.FnBestOne", spec := "fnBestOne", inPlace := ["internal/bytealg.IndexByteString", "internal/abi.NoEscape"], unfollowed := true, recurses := true, plainKeys := false, apart := false, narrowed := true }
def FnBestOneUptoSaid : Prop := fnBestOneUptoRow.holds Tryz.pinned (OpenSpec.upto fnBestOneSpec)

/-- 'laws.FnGapBound', WHERE WHAT IT READS IS OF BULK AT MOST 1048576: true; the input reads as it did. -/
def fnGapBoundUptoRow : OpenClaim := { program := "ytclifbjnooilmaagreat", sum := "a975de6214fe1c14eba30594bef69b2e4ee8efed1b7d4340dd8db425c089c1c3", func := "loop.example/docalgebra/laws.FnGapBound", spec := "fnGapBound", inPlace := ["internal/bytealg.IndexByteString", "internal/abi.NoEscape"], unfollowed := true, recurses := true, plainKeys := false, apart := false, narrowed := true }
def FnGapBoundUptoSaid : Prop := fnGapBoundUptoRow.holds Tryz.pinned (OpenSpec.upto fnGapBoundSpec)

/-- 'laws.FnExactGreedyGap', WHERE WHAT IT READS IS OF BULK AT MOST 1048576: true; the input reads as it did. -/
def fnExactGreedyGapUptoRow : OpenClaim := { program := "ytclifbjnooilmaagreat", sum := "a975de6214fe1c14eba30594bef69b2e4ee8efed1b7d4340dd8db425c089c1c3", func := "loop.example/docalgebra/laws.FnExactGreedyGap", spec := "fnExactGreedyGap", inPlace := ["internal/bytealg.IndexByteString", "internal/abi.NoEscape"], unfollowed := true, recurses := true, loops := true, plainKeys := false, apart := false, narrowed := true }
def FnExactGreedyGapUptoSaid : Prop := fnExactGreedyGapUptoRow.holds Tryz.pinned (OpenSpec.upto fnExactGreedyGapSpec)

/-- 'laws.FnExactFirstGap', WHERE WHAT IT READS IS OF BULK AT MOST 1048576: true; the input reads as it did. -/
def fnExactFirstGapUptoRow : OpenClaim := { program := "ytclifbjnooilmaagreat", sum := "a975de6214fe1c14eba30594bef69b2e4ee8efed1b7d4340dd8db425c089c1c3", func := "loop.example/docalgebra/laws.FnExactFirstGap", spec := "fnExactFirstGap", inPlace := ["internal/bytealg.IndexByteString", "internal/abi.NoEscape"], unfollowed := true, recurses := true, loops := true, plainKeys := false, apart := false, narrowed := true }
def FnExactFirstGapUptoSaid : Prop := fnExactFirstGapUptoRow.holds Tryz.pinned (OpenSpec.upto fnExactFirstGapSpec)

end Rows
end Go.Proofs.YtclifbjnooilmaaGreat
