/-
  No cell of these rows narrows 'for every input' (looked for: loops, veiled, ifaces, maps, wideKeys, modest, calm, conditions, laid).
  DERIVED. THE GIVEN ROWS OF THIS SEAT. 12 by the template 'for every input the law returns true; each argument reads behind the call as it read before'; 0 by the template 'total and deterministic' (their statements: YtkbkjkjjoogieaaTotals.lean).
  GIVEN WITH THE SEED: the statements are not yours to turn. If you find one false, say at which input.
  Laid BY PROGRAM, IN A SANDBOX (cutbox-rows.mjs): the forced cells as the released guide's own fill.sh prints them over the translation c7389f3760f7d168… (all of the seat's roots in one cut). By AI agents, Wed Nov 11 2026. No macro, syntax, notation, axiom, sorry.
-/
import Derived.Test.YtkbkjkjjoogieaaChecked
import GoSem.Claim
import GoSem.ClaimJoined
import GoSem.ClaimMapViews
import Derived.JoinedTies
import Derived.KernelRfl
namespace Go.Proofs.Ytkbkjkjjoogieaa
/- THE CELL 'sum', in the pinned program and in every row, IS THE sha256 OF THE DUMP (.gsa) THAT YtkbkjkjjoogieaaProg.lean LOADS. Nothing in Lean hashes anything: it is a label: what it is worth is what the hold of that sum in a sandbox is worth. -/
noncomputable def Try.pinned : Pinned := { name := "ytkbkjkjjoogieaa", sum := "c7389f3760f7d1688632bc6ca1be23f8b7456f58d7793192fccdda11a0d2210e", checked := Try.checked }
namespace Rows
def none {H : Type} : Left H := { results := [], args := [] }

/-- 'laws.FnExactValidFrame': WHATEVER THE INPUT: true; the input reads as it did. -/
def fnExactValidFrameSpec : ChangeSpec := { name := "fnExactValidFrame", fn := fun _ => fun
  | [d] => { results := [.lit (.bool true)], args := [d] }
  | _ => none }
def fnExactValidFrameRow : OpenClaim := { program := "ytkbkjkjjoogieaa", sum := "c7389f3760f7d1688632bc6ca1be23f8b7456f58d7793192fccdda11a0d2210e", func := "loop.example/g01231/laws.FnExactValidFrame", spec := "fnExactValidFrame", apart := false }
def FnExactValidFrameSaid : Prop := fnExactValidFrameRow.holds Try.pinned (OpenSpec.ofChange fnExactValidFrameSpec)

/-- ITS FALSE NEIGHBOUR: 'it returns false'. Refute it at one input. -/
def fnExactValidFrameWrong : ChangeSpec := { name := "fnExactValidFrame", fn := fun _ => fun
  | [d] => { results := [.lit (.bool false)], args := [d] }
  | _ => none }
def FnExactValidFrameWrongFalsely : Prop := fnExactValidFrameRow.holds Try.pinned (OpenSpec.ofChange fnExactValidFrameWrong)

/-- 'laws.FnExactSameFrame': WHATEVER THE INPUT: true; the input reads as it did. -/
def fnExactSameFrameSpec : ChangeSpec := { name := "fnExactSameFrame", fn := fun _ => fun
  | [d1, d2] => { results := [.lit (.bool true)], args := [d1, d2] }
  | _ => none }
def fnExactSameFrameRow : OpenClaim := { program := "ytkbkjkjjoogieaa", sum := "c7389f3760f7d1688632bc6ca1be23f8b7456f58d7793192fccdda11a0d2210e", func := "loop.example/g01231/laws.FnExactSameFrame", spec := "fnExactSameFrame", inPlace := ["math.Float32bits"], unfollowed := true, recurses := true, apart := false }
def FnExactSameFrameSaid : Prop := fnExactSameFrameRow.holds Try.pinned (OpenSpec.ofChange fnExactSameFrameSpec)

/-- ITS FALSE NEIGHBOUR: 'it returns false'. Refute it at one input. -/
def fnExactSameFrameWrong : ChangeSpec := { name := "fnExactSameFrame", fn := fun _ => fun
  | [d1, d2] => { results := [.lit (.bool false)], args := [d1, d2] }
  | _ => none }
def FnExactSameFrameWrongFalsely : Prop := fnExactSameFrameRow.holds Try.pinned (OpenSpec.ofChange fnExactSameFrameWrong)

/-- 'laws.FnExactAreFrames': WHATEVER THE INPUT: true; the input reads as it did. -/
def fnExactAreFramesSpec : ChangeSpec := { name := "fnExactAreFrames", fn := fun _ => fun
  | [d] => { results := [.lit (.bool true)], args := [d] }
  | _ => none }
def fnExactAreFramesRow : OpenClaim := { program := "ytkbkjkjjoogieaa", sum := "c7389f3760f7d1688632bc6ca1be23f8b7456f58d7793192fccdda11a0d2210e", func := "loop.example/g01231/laws.FnExactAreFrames", spec := "fnExactAreFrames", apart := false }
def FnExactAreFramesSaid : Prop := fnExactAreFramesRow.holds Try.pinned (OpenSpec.ofChange fnExactAreFramesSpec)

/-- ITS FALSE NEIGHBOUR: 'it returns false'. Refute it at one input. -/
def fnExactAreFramesWrong : ChangeSpec := { name := "fnExactAreFrames", fn := fun _ => fun
  | [d] => { results := [.lit (.bool false)], args := [d] }
  | _ => none }
def FnExactAreFramesWrongFalsely : Prop := fnExactAreFramesRow.holds Try.pinned (OpenSpec.ofChange fnExactAreFramesWrong)

/-- 'laws.FnExactExponentOf': WHATEVER THE INPUT: true; the input reads as it did. -/
def fnExactExponentOfSpec : ChangeSpec := { name := "fnExactExponentOf", fn := fun _ => fun
  | [d] => { results := [.lit (.bool true)], args := [d] }
  | _ => none }
def fnExactExponentOfRow : OpenClaim := { program := "ytkbkjkjjoogieaa", sum := "c7389f3760f7d1688632bc6ca1be23f8b7456f58d7793192fccdda11a0d2210e", func := "loop.example/g01231/laws.FnExactExponentOf", spec := "fnExactExponentOf", inPlace := ["math.Float64bits", "math.Float64frombits", "math.archMax"], apart := false }
def FnExactExponentOfSaid : Prop := fnExactExponentOfRow.holds Try.pinned (OpenSpec.ofChange fnExactExponentOfSpec)

/-- ITS FALSE NEIGHBOUR: 'it returns false'. Refute it at one input. -/
def fnExactExponentOfWrong : ChangeSpec := { name := "fnExactExponentOf", fn := fun _ => fun
  | [d] => { results := [.lit (.bool false)], args := [d] }
  | _ => none }
def FnExactExponentOfWrongFalsely : Prop := fnExactExponentOfRow.holds Try.pinned (OpenSpec.ofChange fnExactExponentOfWrong)

/-- 'laws.FnExactPackBlock': WHATEVER THE INPUT: true; the input reads as it did. -/
def fnExactPackBlockSpec : ChangeSpec := { name := "fnExactPackBlock", fn := fun _ => fun
  | [d] => { results := [.lit (.bool true)], args := [d] }
  | _ => none }
def fnExactPackBlockRow : OpenClaim := { program := "ytkbkjkjjoogieaa", sum := "c7389f3760f7d1688632bc6ca1be23f8b7456f58d7793192fccdda11a0d2210e", func := "loop.example/g01231/laws.FnExactPackBlock", spec := "fnExactPackBlock", inPlace := ["math.Float64bits", "math.Float64frombits", "math.archMax", "math.RoundToEven"], apart := false }
def FnExactPackBlockSaid : Prop := fnExactPackBlockRow.holds Try.pinned (OpenSpec.ofChange fnExactPackBlockSpec)

/-- ITS FALSE NEIGHBOUR: 'it returns false'. Refute it at one input. -/
def fnExactPackBlockWrong : ChangeSpec := { name := "fnExactPackBlock", fn := fun _ => fun
  | [d] => { results := [.lit (.bool false)], args := [d] }
  | _ => none }
def FnExactPackBlockWrongFalsely : Prop := fnExactPackBlockRow.holds Try.pinned (OpenSpec.ofChange fnExactPackBlockWrong)

/-- 'laws.FnExactUnpackBlock': WHATEVER THE INPUT: true; the input reads as it did. -/
def fnExactUnpackBlockSpec : ChangeSpec := { name := "fnExactUnpackBlock", fn := fun _ => fun
  | [d] => { results := [.lit (.bool true)], args := [d] }
  | _ => none }
def fnExactUnpackBlockRow : OpenClaim := { program := "ytkbkjkjjoogieaa", sum := "c7389f3760f7d1688632bc6ca1be23f8b7456f58d7793192fccdda11a0d2210e", func := "loop.example/g01231/laws.FnExactUnpackBlock", spec := "fnExactUnpackBlock", inPlace := ["math.Float64bits", "math.Float64frombits", "math.archMax", "math.RoundToEven"], apart := false }
def FnExactUnpackBlockSaid : Prop := fnExactUnpackBlockRow.holds Try.pinned (OpenSpec.ofChange fnExactUnpackBlockSpec)

/-- ITS FALSE NEIGHBOUR: 'it returns false'. Refute it at one input. -/
def fnExactUnpackBlockWrong : ChangeSpec := { name := "fnExactUnpackBlock", fn := fun _ => fun
  | [d] => { results := [.lit (.bool false)], args := [d] }
  | _ => none }
def FnExactUnpackBlockWrongFalsely : Prop := fnExactUnpackBlockRow.holds Try.pinned (OpenSpec.ofChange fnExactUnpackBlockWrong)

/-- 'laws.FnExactSplitFrame': WHATEVER THE INPUT: true; the input reads as it did. -/
def fnExactSplitFrameSpec : ChangeSpec := { name := "fnExactSplitFrame", fn := fun _ => fun
  | [d1, d2] => { results := [.lit (.bool true)], args := [d1, d2] }
  | _ => none }
def fnExactSplitFrameRow : OpenClaim := { program := "ytkbkjkjjoogieaa", sum := "c7389f3760f7d1688632bc6ca1be23f8b7456f58d7793192fccdda11a0d2210e", func := "loop.example/g01231/laws.FnExactSplitFrame", spec := "fnExactSplitFrame", apart := false }
def FnExactSplitFrameSaid : Prop := fnExactSplitFrameRow.holds Try.pinned (OpenSpec.ofChange fnExactSplitFrameSpec)

/-- ITS FALSE NEIGHBOUR: 'it returns false'. Refute it at one input. -/
def fnExactSplitFrameWrong : ChangeSpec := { name := "fnExactSplitFrame", fn := fun _ => fun
  | [d1, d2] => { results := [.lit (.bool false)], args := [d1, d2] }
  | _ => none }
def FnExactSplitFrameWrongFalsely : Prop := fnExactSplitFrameRow.holds Try.pinned (OpenSpec.ofChange fnExactSplitFrameWrong)

/-- 'laws.FnExactJoinFrames': WHATEVER THE INPUT: true; the input reads as it did. -/
def fnExactJoinFramesSpec : ChangeSpec := { name := "fnExactJoinFrames", fn := fun _ => fun
  | [d1, d2] => { results := [.lit (.bool true)], args := [d1, d2] }
  | _ => none }
def fnExactJoinFramesRow : OpenClaim := { program := "ytkbkjkjjoogieaa", sum := "c7389f3760f7d1688632bc6ca1be23f8b7456f58d7793192fccdda11a0d2210e", func := "loop.example/g01231/laws.FnExactJoinFrames", spec := "fnExactJoinFrames", apart := false }
def FnExactJoinFramesSaid : Prop := fnExactJoinFramesRow.holds Try.pinned (OpenSpec.ofChange fnExactJoinFramesSpec)

/-- ITS FALSE NEIGHBOUR: 'it returns false'. Refute it at one input. -/
def fnExactJoinFramesWrong : ChangeSpec := { name := "fnExactJoinFrames", fn := fun _ => fun
  | [d1, d2] => { results := [.lit (.bool false)], args := [d1, d2] }
  | _ => none }
def FnExactJoinFramesWrongFalsely : Prop := fnExactJoinFramesRow.holds Try.pinned (OpenSpec.ofChange fnExactJoinFramesWrong)

/-- 'laws.FnExactLateFrames': WHATEVER THE INPUT: true; the input reads as it did. -/
def fnExactLateFramesSpec : ChangeSpec := { name := "fnExactLateFrames", fn := fun _ => fun
  | [d] => { results := [.lit (.bool true)], args := [d] }
  | _ => none }
def fnExactLateFramesRow : OpenClaim := { program := "ytkbkjkjjoogieaa", sum := "c7389f3760f7d1688632bc6ca1be23f8b7456f58d7793192fccdda11a0d2210e", func := "loop.example/g01231/laws.FnExactLateFrames", spec := "fnExactLateFrames", apart := false }
def FnExactLateFramesSaid : Prop := fnExactLateFramesRow.holds Try.pinned (OpenSpec.ofChange fnExactLateFramesSpec)

/-- ITS FALSE NEIGHBOUR: 'it returns false'. Refute it at one input. -/
def fnExactLateFramesWrong : ChangeSpec := { name := "fnExactLateFrames", fn := fun _ => fun
  | [d] => { results := [.lit (.bool false)], args := [d] }
  | _ => none }
def FnExactLateFramesWrongFalsely : Prop := fnExactLateFramesRow.holds Try.pinned (OpenSpec.ofChange fnExactLateFramesWrong)

/-- 'laws.FnExactSortFrames': WHATEVER THE INPUT: true; the input reads as it did. -/
def fnExactSortFramesSpec : ChangeSpec := { name := "fnExactSortFrames", fn := fun _ => fun
  | [d] => { results := [.lit (.bool true)], args := [d] }
  | _ => none }
def fnExactSortFramesRow : OpenClaim := { program := "ytkbkjkjjoogieaa", sum := "c7389f3760f7d1688632bc6ca1be23f8b7456f58d7793192fccdda11a0d2210e", func := "loop.example/g01231/laws.FnExactSortFrames", spec := "fnExactSortFrames", unfollowed := true, recurses := true, apart := false }
def FnExactSortFramesSaid : Prop := fnExactSortFramesRow.holds Try.pinned (OpenSpec.ofChange fnExactSortFramesSpec)

/-- ITS FALSE NEIGHBOUR: 'it returns false'. Refute it at one input. -/
def fnExactSortFramesWrong : ChangeSpec := { name := "fnExactSortFrames", fn := fun _ => fun
  | [d] => { results := [.lit (.bool false)], args := [d] }
  | _ => none }
def FnExactSortFramesWrongFalsely : Prop := fnExactSortFramesRow.holds Try.pinned (OpenSpec.ofChange fnExactSortFramesWrong)

/-- 'laws.FnExactStationsOf': WHATEVER THE INPUT: true; the input reads as it did. -/
def fnExactStationsOfSpec : ChangeSpec := { name := "fnExactStationsOf", fn := fun _ => fun
  | [d] => { results := [.lit (.bool true)], args := [d] }
  | _ => none }
def fnExactStationsOfRow : OpenClaim := { program := "ytkbkjkjjoogieaa", sum := "c7389f3760f7d1688632bc6ca1be23f8b7456f58d7793192fccdda11a0d2210e", func := "loop.example/g01231/laws.FnExactStationsOf", spec := "fnExactStationsOf", apart := false }
def FnExactStationsOfSaid : Prop := fnExactStationsOfRow.holds Try.pinned (OpenSpec.ofChange fnExactStationsOfSpec)

/-- ITS FALSE NEIGHBOUR: 'it returns false'. Refute it at one input. -/
def fnExactStationsOfWrong : ChangeSpec := { name := "fnExactStationsOf", fn := fun _ => fun
  | [d] => { results := [.lit (.bool false)], args := [d] }
  | _ => none }
def FnExactStationsOfWrongFalsely : Prop := fnExactStationsOfRow.holds Try.pinned (OpenSpec.ofChange fnExactStationsOfWrong)

/-- 'laws.FnExactNormGather': WHATEVER THE INPUT: true; the input reads as it did. -/
def fnExactNormGatherSpec : ChangeSpec := { name := "fnExactNormGather", fn := fun _ => fun
  | [d] => { results := [.lit (.bool true)], args := [d] }
  | _ => none }
def fnExactNormGatherRow : OpenClaim := { program := "ytkbkjkjjoogieaa", sum := "c7389f3760f7d1688632bc6ca1be23f8b7456f58d7793192fccdda11a0d2210e", func := "loop.example/g01231/laws.FnExactNormGather", spec := "fnExactNormGather", inPlace := ["math.Float64bits", "math.Float64frombits"], apart := false }
def FnExactNormGatherSaid : Prop := fnExactNormGatherRow.holds Try.pinned (OpenSpec.ofChange fnExactNormGatherSpec)

/-- ITS FALSE NEIGHBOUR: 'it returns false'. Refute it at one input. -/
def fnExactNormGatherWrong : ChangeSpec := { name := "fnExactNormGather", fn := fun _ => fun
  | [d] => { results := [.lit (.bool false)], args := [d] }
  | _ => none }
def FnExactNormGatherWrongFalsely : Prop := fnExactNormGatherRow.holds Try.pinned (OpenSpec.ofChange fnExactNormGatherWrong)

/- THE SECOND FORM. 'bulk': how many values and letters a reading holds, each counted each time it is reached (what is shared counts as often as it is met; a slice's spare places count too). A statement '..UptoSaid' is the law's where the arguments, and the package variables that the reading takes, are together of bulk at most 1048576: NARROWER than '..Said'. Prove '..Said' where nothing that the law and all that it calls make is longer than what came in: it says more and counts as full. Else prove '..UptoSaid'. A law counts once. -/
mutual
def uptoBulk {H : Type} : DataW H → Nat
  | .lit (.string bytes) => bytes.length + 1
  | .lit _ => 1
  | .nil => 1
  | .ptr d => uptoBulk d + 1
  | .slice elems spare => uptoBulkAll elems + uptoBulkAll spare + 1
  | .agg parts => uptoBulkAll parts + 1
  | .iface _ d => uptoBulk d + 1
  | .map entries => uptoBulkEntries entries + 1
  | .held _ => 1
def uptoBulkAll {H : Type} : List (DataW H) → Nat
  | [] => 0
  | d :: r => uptoBulk d + uptoBulkAll r
def uptoBulkEntries {H : Type} : List (Lit × DataW H) → Nat
  | [] => 0
  | x :: r => uptoBulkEntry x + uptoBulkEntries r
def uptoBulkEntry {H : Type} : Lit × DataW H → Nat
  | (.string bytes, d) => bytes.length + uptoBulk d + 1
  | (_, d) => uptoBulk d + 1
 end
def uptoSmall : (H : Type) → List (DataW H) → Bool := fun _ ds => decide (uptoBulkAll ds ≤ 1048576)
def OpenSpec.upto (s : _root_.Go.ChangeSpec) : _root_.Go.OpenSpec := { _root_.Go.OpenSpec.ofChange s with cond := some uptoSmall }

/-- 'laws.FnExactValidFrame', WHERE WHAT IT READS IS OF BULK AT MOST 1048576: true; the input reads as it did. -/
def fnExactValidFrameUptoRow : OpenClaim := { program := "ytkbkjkjjoogieaa", sum := "c7389f3760f7d1688632bc6ca1be23f8b7456f58d7793192fccdda11a0d2210e", func := "loop.example/g01231/laws.FnExactValidFrame", spec := "fnExactValidFrame", apart := false, narrowed := true }
def FnExactValidFrameUptoSaid : Prop := fnExactValidFrameUptoRow.holds Try.pinned (OpenSpec.upto fnExactValidFrameSpec)

/-- 'laws.FnExactSameFrame', WHERE WHAT IT READS IS OF BULK AT MOST 1048576: true; the input reads as it did. -/
def fnExactSameFrameUptoRow : OpenClaim := { program := "ytkbkjkjjoogieaa", sum := "c7389f3760f7d1688632bc6ca1be23f8b7456f58d7793192fccdda11a0d2210e", func := "loop.example/g01231/laws.FnExactSameFrame", spec := "fnExactSameFrame", inPlace := ["math.Float32bits"], unfollowed := true, recurses := true, apart := false, narrowed := true }
def FnExactSameFrameUptoSaid : Prop := fnExactSameFrameUptoRow.holds Try.pinned (OpenSpec.upto fnExactSameFrameSpec)

/-- 'laws.FnExactAreFrames', WHERE WHAT IT READS IS OF BULK AT MOST 1048576: true; the input reads as it did. -/
def fnExactAreFramesUptoRow : OpenClaim := { program := "ytkbkjkjjoogieaa", sum := "c7389f3760f7d1688632bc6ca1be23f8b7456f58d7793192fccdda11a0d2210e", func := "loop.example/g01231/laws.FnExactAreFrames", spec := "fnExactAreFrames", apart := false, narrowed := true }
def FnExactAreFramesUptoSaid : Prop := fnExactAreFramesUptoRow.holds Try.pinned (OpenSpec.upto fnExactAreFramesSpec)

/-- 'laws.FnExactExponentOf', WHERE WHAT IT READS IS OF BULK AT MOST 1048576: true; the input reads as it did. -/
def fnExactExponentOfUptoRow : OpenClaim := { program := "ytkbkjkjjoogieaa", sum := "c7389f3760f7d1688632bc6ca1be23f8b7456f58d7793192fccdda11a0d2210e", func := "loop.example/g01231/laws.FnExactExponentOf", spec := "fnExactExponentOf", inPlace := ["math.Float64bits", "math.Float64frombits", "math.archMax"], apart := false, narrowed := true }
def FnExactExponentOfUptoSaid : Prop := fnExactExponentOfUptoRow.holds Try.pinned (OpenSpec.upto fnExactExponentOfSpec)

/-- 'laws.FnExactPackBlock', WHERE WHAT IT READS IS OF BULK AT MOST 1048576: true; the input reads as it did. -/
def fnExactPackBlockUptoRow : OpenClaim := { program := "ytkbkjkjjoogieaa", sum := "c7389f3760f7d1688632bc6ca1be23f8b7456f58d7793192fccdda11a0d2210e", func := "loop.example/g01231/laws.FnExactPackBlock", spec := "fnExactPackBlock", inPlace := ["math.Float64bits", "math.Float64frombits", "math.archMax", "math.RoundToEven"], apart := false, narrowed := true }
def FnExactPackBlockUptoSaid : Prop := fnExactPackBlockUptoRow.holds Try.pinned (OpenSpec.upto fnExactPackBlockSpec)

/-- 'laws.FnExactUnpackBlock', WHERE WHAT IT READS IS OF BULK AT MOST 1048576: true; the input reads as it did. -/
def fnExactUnpackBlockUptoRow : OpenClaim := { program := "ytkbkjkjjoogieaa", sum := "c7389f3760f7d1688632bc6ca1be23f8b7456f58d7793192fccdda11a0d2210e", func := "loop.example/g01231/laws.FnExactUnpackBlock", spec := "fnExactUnpackBlock", inPlace := ["math.Float64bits", "math.Float64frombits", "math.archMax", "math.RoundToEven"], apart := false, narrowed := true }
def FnExactUnpackBlockUptoSaid : Prop := fnExactUnpackBlockUptoRow.holds Try.pinned (OpenSpec.upto fnExactUnpackBlockSpec)

/-- 'laws.FnExactSplitFrame', WHERE WHAT IT READS IS OF BULK AT MOST 1048576: true; the input reads as it did. -/
def fnExactSplitFrameUptoRow : OpenClaim := { program := "ytkbkjkjjoogieaa", sum := "c7389f3760f7d1688632bc6ca1be23f8b7456f58d7793192fccdda11a0d2210e", func := "loop.example/g01231/laws.FnExactSplitFrame", spec := "fnExactSplitFrame", apart := false, narrowed := true }
def FnExactSplitFrameUptoSaid : Prop := fnExactSplitFrameUptoRow.holds Try.pinned (OpenSpec.upto fnExactSplitFrameSpec)

/-- 'laws.FnExactJoinFrames', WHERE WHAT IT READS IS OF BULK AT MOST 1048576: true; the input reads as it did. -/
def fnExactJoinFramesUptoRow : OpenClaim := { program := "ytkbkjkjjoogieaa", sum := "c7389f3760f7d1688632bc6ca1be23f8b7456f58d7793192fccdda11a0d2210e", func := "loop.example/g01231/laws.FnExactJoinFrames", spec := "fnExactJoinFrames", apart := false, narrowed := true }
def FnExactJoinFramesUptoSaid : Prop := fnExactJoinFramesUptoRow.holds Try.pinned (OpenSpec.upto fnExactJoinFramesSpec)

/-- 'laws.FnExactLateFrames', WHERE WHAT IT READS IS OF BULK AT MOST 1048576: true; the input reads as it did. -/
def fnExactLateFramesUptoRow : OpenClaim := { program := "ytkbkjkjjoogieaa", sum := "c7389f3760f7d1688632bc6ca1be23f8b7456f58d7793192fccdda11a0d2210e", func := "loop.example/g01231/laws.FnExactLateFrames", spec := "fnExactLateFrames", apart := false, narrowed := true }
def FnExactLateFramesUptoSaid : Prop := fnExactLateFramesUptoRow.holds Try.pinned (OpenSpec.upto fnExactLateFramesSpec)

/-- 'laws.FnExactSortFrames', WHERE WHAT IT READS IS OF BULK AT MOST 1048576: true; the input reads as it did. -/
def fnExactSortFramesUptoRow : OpenClaim := { program := "ytkbkjkjjoogieaa", sum := "c7389f3760f7d1688632bc6ca1be23f8b7456f58d7793192fccdda11a0d2210e", func := "loop.example/g01231/laws.FnExactSortFrames", spec := "fnExactSortFrames", unfollowed := true, recurses := true, apart := false, narrowed := true }
def FnExactSortFramesUptoSaid : Prop := fnExactSortFramesUptoRow.holds Try.pinned (OpenSpec.upto fnExactSortFramesSpec)

/-- 'laws.FnExactStationsOf', WHERE WHAT IT READS IS OF BULK AT MOST 1048576: true; the input reads as it did. -/
def fnExactStationsOfUptoRow : OpenClaim := { program := "ytkbkjkjjoogieaa", sum := "c7389f3760f7d1688632bc6ca1be23f8b7456f58d7793192fccdda11a0d2210e", func := "loop.example/g01231/laws.FnExactStationsOf", spec := "fnExactStationsOf", apart := false, narrowed := true }
def FnExactStationsOfUptoSaid : Prop := fnExactStationsOfUptoRow.holds Try.pinned (OpenSpec.upto fnExactStationsOfSpec)

/-- 'laws.FnExactNormGather', WHERE WHAT IT READS IS OF BULK AT MOST 1048576: true; the input reads as it did. -/
def fnExactNormGatherUptoRow : OpenClaim := { program := "ytkbkjkjjoogieaa", sum := "c7389f3760f7d1688632bc6ca1be23f8b7456f58d7793192fccdda11a0d2210e", func := "loop.example/g01231/laws.FnExactNormGather", spec := "fnExactNormGather", inPlace := ["math.Float64bits", "math.Float64frombits"], apart := false, narrowed := true }
def FnExactNormGatherUptoSaid : Prop := fnExactNormGatherUptoRow.holds Try.pinned (OpenSpec.upto fnExactNormGatherSpec)

end Rows
end Go.Proofs.Ytkbkjkjjoogieaa
