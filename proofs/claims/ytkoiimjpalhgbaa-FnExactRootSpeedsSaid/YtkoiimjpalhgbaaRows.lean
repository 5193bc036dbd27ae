/-
  No cell of these rows narrows 'for every input' (looked for: loops, veiled, ifaces, maps, wideKeys, modest, calm, conditions, laid).
  DERIVED. THE GIVEN ROWS OF THIS SEAT. 12 by the template 'for every input the law returns true; each argument reads behind the call as it read before'; 0 by the template 'total and deterministic' (their statements: YtkoiimjpalhgbaaTotals.lean).
  GIVEN WITH THE SEED: the statements are not yours to turn. If you find one false, say at which input.
  Laid BY PROGRAM, IN A SANDBOX (cutbox-rows.mjs): the forced cells as the released guide's own fill.sh prints them over the translation 6d099f5e09623a30… (all of the seat's roots in one cut). By AI agents, Wed Nov 11 2026. No macro, syntax, notation, axiom, sorry.
-/
import Derived.Test.YtkoiimjpalhgbaaChecked
import GoSem.Claim
import GoSem.ClaimJoined
import GoSem.ClaimMapViews
import Derived.JoinedTies
import Derived.KernelRfl
namespace Go.Proofs.Ytkoiimjpalhgbaa
/- THE CELL 'sum', in the pinned program and in every row, IS THE sha256 OF THE DUMP (.gsa) THAT YtkoiimjpalhgbaaProg.lean LOADS. Nothing in Lean hashes anything: it is a label: what it is worth is what the hold of that sum in a sandbox is worth. -/
noncomputable def Try.pinned : Pinned := { name := "ytkoiimjpalhgbaa", sum := "6d099f5e09623a3026ea12e6356e617bb6677cabfcc7329dea1d3552bff0da37", checked := Try.checked }
namespace Rows
def none {H : Type} : Left H := { results := [], args := [] }

/-- 'laws.FnExactValidGround': WHATEVER THE INPUT: true; the input reads as it did. -/
def fnExactValidGroundSpec : ChangeSpec := { name := "fnExactValidGround", fn := fun _ => fun
  | [d] => { results := [.lit (.bool true)], args := [d] }
  | _ => none }
def fnExactValidGroundRow : OpenClaim := { program := "ytkoiimjpalhgbaa", sum := "6d099f5e09623a3026ea12e6356e617bb6677cabfcc7329dea1d3552bff0da37", func := "loop.example/g01231/laws.FnExactValidGround", spec := "fnExactValidGround", inPlace := ["math.Float64bits", "math.Float64frombits"], apart := false }
def FnExactValidGroundSaid : Prop := fnExactValidGroundRow.holds Try.pinned (OpenSpec.ofChange fnExactValidGroundSpec)

/-- ITS FALSE NEIGHBOUR: 'it returns false'. Refute it at one input. -/
def fnExactValidGroundWrong : ChangeSpec := { name := "fnExactValidGround", fn := fun _ => fun
  | [d] => { results := [.lit (.bool false)], args := [d] }
  | _ => none }
def FnExactValidGroundWrongFalsely : Prop := fnExactValidGroundRow.holds Try.pinned (OpenSpec.ofChange fnExactValidGroundWrong)

/-- 'laws.FnExactSameGround': WHATEVER THE INPUT: true; the input reads as it did. -/
def fnExactSameGroundSpec : ChangeSpec := { name := "fnExactSameGround", fn := fun _ => fun
  | [d1, d2] => { results := [.lit (.bool true)], args := [d1, d2] }
  | _ => none }
def fnExactSameGroundRow : OpenClaim := { program := "ytkoiimjpalhgbaa", sum := "6d099f5e09623a3026ea12e6356e617bb6677cabfcc7329dea1d3552bff0da37", func := "loop.example/g01231/laws.FnExactSameGround", spec := "fnExactSameGround", inPlace := ["math.Float32bits"], apart := false }
def FnExactSameGroundSaid : Prop := fnExactSameGroundRow.holds Try.pinned (OpenSpec.ofChange fnExactSameGroundSpec)

/-- ITS FALSE NEIGHBOUR: 'it returns false'. Refute it at one input. -/
def fnExactSameGroundWrong : ChangeSpec := { name := "fnExactSameGround", fn := fun _ => fun
  | [d1, d2] => { results := [.lit (.bool false)], args := [d1, d2] }
  | _ => none }
def FnExactSameGroundWrongFalsely : Prop := fnExactSameGroundRow.holds Try.pinned (OpenSpec.ofChange fnExactSameGroundWrong)

/-- 'laws.FnExactDepthsOf': WHATEVER THE INPUT: true; the input reads as it did. -/
def fnExactDepthsOfSpec : ChangeSpec := { name := "fnExactDepthsOf", fn := fun _ => fun
  | [d] => { results := [.lit (.bool true)], args := [d] }
  | _ => none }
def fnExactDepthsOfRow : OpenClaim := { program := "ytkoiimjpalhgbaa", sum := "6d099f5e09623a3026ea12e6356e617bb6677cabfcc7329dea1d3552bff0da37", func := "loop.example/g01231/laws.FnExactDepthsOf", spec := "fnExactDepthsOf", inPlace := ["math.Float64bits", "math.Float64frombits"], unfollowed := true, recurses := true, apart := false }
def FnExactDepthsOfSaid : Prop := fnExactDepthsOfRow.holds Try.pinned (OpenSpec.ofChange fnExactDepthsOfSpec)

/-- ITS FALSE NEIGHBOUR: 'it returns false'. Refute it at one input. -/
def fnExactDepthsOfWrong : ChangeSpec := { name := "fnExactDepthsOf", fn := fun _ => fun
  | [d] => { results := [.lit (.bool false)], args := [d] }
  | _ => none }
def FnExactDepthsOfWrongFalsely : Prop := fnExactDepthsOfRow.holds Try.pinned (OpenSpec.ofChange fnExactDepthsOfWrong)

/-- 'laws.FnExactLayerAt': WHATEVER THE INPUT: true; the input reads as it did. -/
def fnExactLayerAtSpec : ChangeSpec := { name := "fnExactLayerAt", fn := fun _ => fun
  | [d1, d2] => { results := [.lit (.bool true)], args := [d1, d2] }
  | _ => none }
def fnExactLayerAtRow : OpenClaim := { program := "ytkoiimjpalhgbaa", sum := "6d099f5e09623a3026ea12e6356e617bb6677cabfcc7329dea1d3552bff0da37", func := "loop.example/g01231/laws.FnExactLayerAt", spec := "fnExactLayerAt", inPlace := ["math.Float64bits", "math.Float64frombits"], unfollowed := true, recurses := true, apart := false }
def FnExactLayerAtSaid : Prop := fnExactLayerAtRow.holds Try.pinned (OpenSpec.ofChange fnExactLayerAtSpec)

/-- ITS FALSE NEIGHBOUR: 'it returns false'. Refute it at one input. -/
def fnExactLayerAtWrong : ChangeSpec := { name := "fnExactLayerAt", fn := fun _ => fun
  | [d1, d2] => { results := [.lit (.bool false)], args := [d1, d2] }
  | _ => none }
def FnExactLayerAtWrongFalsely : Prop := fnExactLayerAtRow.holds Try.pinned (OpenSpec.ofChange fnExactLayerAtWrong)

/-- 'laws.FnExactSpeedAt': WHATEVER THE INPUT: true; the input reads as it did. -/
def fnExactSpeedAtSpec : ChangeSpec := { name := "fnExactSpeedAt", fn := fun _ => fun
  | [d1, d2] => { results := [.lit (.bool true)], args := [d1, d2] }
  | _ => none }
def fnExactSpeedAtRow : OpenClaim := { program := "ytkoiimjpalhgbaa", sum := "6d099f5e09623a3026ea12e6356e617bb6677cabfcc7329dea1d3552bff0da37", func := "loop.example/g01231/laws.FnExactSpeedAt", spec := "fnExactSpeedAt", inPlace := ["math.Float64bits", "math.Float64frombits"], unfollowed := true, recurses := true, apart := false }
def FnExactSpeedAtSaid : Prop := fnExactSpeedAtRow.holds Try.pinned (OpenSpec.ofChange fnExactSpeedAtSpec)

/-- ITS FALSE NEIGHBOUR: 'it returns false'. Refute it at one input. -/
def fnExactSpeedAtWrong : ChangeSpec := { name := "fnExactSpeedAt", fn := fun _ => fun
  | [d1, d2] => { results := [.lit (.bool false)], args := [d1, d2] }
  | _ => none }
def FnExactSpeedAtWrongFalsely : Prop := fnExactSpeedAtRow.holds Try.pinned (OpenSpec.ofChange fnExactSpeedAtWrong)

/-- 'laws.FnExactHardnessAt': WHATEVER THE INPUT: true; the input reads as it did. -/
def fnExactHardnessAtSpec : ChangeSpec := { name := "fnExactHardnessAt", fn := fun _ => fun
  | [d1, d2] => { results := [.lit (.bool true)], args := [d1, d2] }
  | _ => none }
def fnExactHardnessAtRow : OpenClaim := { program := "ytkoiimjpalhgbaa", sum := "6d099f5e09623a3026ea12e6356e617bb6677cabfcc7329dea1d3552bff0da37", func := "loop.example/g01231/laws.FnExactHardnessAt", spec := "fnExactHardnessAt", inPlace := ["math.Float64bits", "math.Float64frombits"], apart := false }
def FnExactHardnessAtSaid : Prop := fnExactHardnessAtRow.holds Try.pinned (OpenSpec.ofChange fnExactHardnessAtSpec)

/-- ITS FALSE NEIGHBOUR: 'it returns false'. Refute it at one input. -/
def fnExactHardnessAtWrong : ChangeSpec := { name := "fnExactHardnessAt", fn := fun _ => fun
  | [d1, d2] => { results := [.lit (.bool false)], args := [d1, d2] }
  | _ => none }
def FnExactHardnessAtWrongFalsely : Prop := fnExactHardnessAtRow.holds Try.pinned (OpenSpec.ofChange fnExactHardnessAtWrong)

/-- 'laws.FnExactTimesDown': WHATEVER THE INPUT: true; the input reads as it did. -/
def fnExactTimesDownSpec : ChangeSpec := { name := "fnExactTimesDown", fn := fun _ => fun
  | [d] => { results := [.lit (.bool true)], args := [d] }
  | _ => none }
def fnExactTimesDownRow : OpenClaim := { program := "ytkoiimjpalhgbaa", sum := "6d099f5e09623a3026ea12e6356e617bb6677cabfcc7329dea1d3552bff0da37", func := "loop.example/g01231/laws.FnExactTimesDown", spec := "fnExactTimesDown", inPlace := ["math.Float64bits", "math.Float64frombits"], unfollowed := true, recurses := true, apart := false }
def FnExactTimesDownSaid : Prop := fnExactTimesDownRow.holds Try.pinned (OpenSpec.ofChange fnExactTimesDownSpec)

/-- ITS FALSE NEIGHBOUR: 'it returns false'. Refute it at one input. -/
def fnExactTimesDownWrong : ChangeSpec := { name := "fnExactTimesDown", fn := fun _ => fun
  | [d] => { results := [.lit (.bool false)], args := [d] }
  | _ => none }
def FnExactTimesDownWrongFalsely : Prop := fnExactTimesDownRow.holds Try.pinned (OpenSpec.ofChange fnExactTimesDownWrong)

/-- 'laws.FnExactMeanSpeeds': WHATEVER THE INPUT: true; the input reads as it did. -/
def fnExactMeanSpeedsSpec : ChangeSpec := { name := "fnExactMeanSpeeds", fn := fun _ => fun
  | [d] => { results := [.lit (.bool true)], args := [d] }
  | _ => none }
def fnExactMeanSpeedsRow : OpenClaim := { program := "ytkoiimjpalhgbaa", sum := "6d099f5e09623a3026ea12e6356e617bb6677cabfcc7329dea1d3552bff0da37", func := "loop.example/g01231/laws.FnExactMeanSpeeds", spec := "fnExactMeanSpeeds", inPlace := ["math.Float64bits", "math.Float64frombits"], unfollowed := true, recurses := true, apart := false }
def FnExactMeanSpeedsSaid : Prop := fnExactMeanSpeedsRow.holds Try.pinned (OpenSpec.ofChange fnExactMeanSpeedsSpec)

/-- ITS FALSE NEIGHBOUR: 'it returns false'. Refute it at one input. -/
def fnExactMeanSpeedsWrong : ChangeSpec := { name := "fnExactMeanSpeeds", fn := fun _ => fun
  | [d] => { results := [.lit (.bool false)], args := [d] }
  | _ => none }
def FnExactMeanSpeedsWrongFalsely : Prop := fnExactMeanSpeedsRow.holds Try.pinned (OpenSpec.ofChange fnExactMeanSpeedsWrong)

/-- 'laws.FnExactRootSpeeds': WHATEVER THE INPUT: true; the input reads as it did. -/
def fnExactRootSpeedsSpec : ChangeSpec := { name := "fnExactRootSpeeds", fn := fun _ => fun
  | [d] => { results := [.lit (.bool true)], args := [d] }
  | _ => none }
def fnExactRootSpeedsRow : OpenClaim := { program := "ytkoiimjpalhgbaa", sum := "6d099f5e09623a3026ea12e6356e617bb6677cabfcc7329dea1d3552bff0da37", func := "loop.example/g01231/laws.FnExactRootSpeeds", spec := "fnExactRootSpeeds", inPlace := ["math.sqrt", "math.Float64bits", "math.Float64frombits"], unfollowed := true, recurses := true, apart := false }
def FnExactRootSpeedsSaid : Prop := fnExactRootSpeedsRow.holds Try.pinned (OpenSpec.ofChange fnExactRootSpeedsSpec)

/-- ITS FALSE NEIGHBOUR: 'it returns false'. Refute it at one input. -/
def fnExactRootSpeedsWrong : ChangeSpec := { name := "fnExactRootSpeeds", fn := fun _ => fun
  | [d] => { results := [.lit (.bool false)], args := [d] }
  | _ => none }
def FnExactRootSpeedsWrongFalsely : Prop := fnExactRootSpeedsRow.holds Try.pinned (OpenSpec.ofChange fnExactRootSpeedsWrong)

/-- 'laws.FnExactCosineIn': WHATEVER THE INPUT: true; the input reads as it did. -/
def fnExactCosineInSpec : ChangeSpec := { name := "fnExactCosineIn", fn := fun _ => fun
  | [d1, d2, d3] => { results := [.lit (.bool true)], args := [d1, d2, d3] }
  | _ => none }
def fnExactCosineInRow : OpenClaim := { program := "ytkoiimjpalhgbaa", sum := "6d099f5e09623a3026ea12e6356e617bb6677cabfcc7329dea1d3552bff0da37", func := "loop.example/g01231/laws.FnExactCosineIn", spec := "fnExactCosineIn", inPlace := ["math.sqrt", "math.Float64bits", "math.Float64frombits"], apart := false }
def FnExactCosineInSaid : Prop := fnExactCosineInRow.holds Try.pinned (OpenSpec.ofChange fnExactCosineInSpec)

/-- ITS FALSE NEIGHBOUR: 'it returns false'. Refute it at one input. -/
def fnExactCosineInWrong : ChangeSpec := { name := "fnExactCosineIn", fn := fun _ => fun
  | [d1, d2, d3] => { results := [.lit (.bool false)], args := [d1, d2, d3] }
  | _ => none }
def FnExactCosineInWrongFalsely : Prop := fnExactCosineInRow.holds Try.pinned (OpenSpec.ofChange fnExactCosineInWrong)

/-- 'laws.FnExactSteepestOf': WHATEVER THE INPUT: true; the input reads as it did. -/
def fnExactSteepestOfSpec : ChangeSpec := { name := "fnExactSteepestOf", fn := fun _ => fun
  | [d1, d2] => { results := [.lit (.bool true)], args := [d1, d2] }
  | _ => none }
def fnExactSteepestOfRow : OpenClaim := { program := "ytkoiimjpalhgbaa", sum := "6d099f5e09623a3026ea12e6356e617bb6677cabfcc7329dea1d3552bff0da37", func := "loop.example/g01231/laws.FnExactSteepestOf", spec := "fnExactSteepestOf", inPlace := ["math.Float64bits", "math.Float64frombits"], apart := false }
def FnExactSteepestOfSaid : Prop := fnExactSteepestOfRow.holds Try.pinned (OpenSpec.ofChange fnExactSteepestOfSpec)

/-- ITS FALSE NEIGHBOUR: 'it returns false'. Refute it at one input. -/
def fnExactSteepestOfWrong : ChangeSpec := { name := "fnExactSteepestOf", fn := fun _ => fun
  | [d1, d2] => { results := [.lit (.bool false)], args := [d1, d2] }
  | _ => none }
def FnExactSteepestOfWrongFalsely : Prop := fnExactSteepestOfRow.holds Try.pinned (OpenSpec.ofChange fnExactSteepestOfWrong)

/-- 'laws.FnExactReflectStraight': WHATEVER THE INPUT: true; the input reads as it did. -/
def fnExactReflectStraightSpec : ChangeSpec := { name := "fnExactReflectStraight", fn := fun _ => fun
  | [d1, d2] => { results := [.lit (.bool true)], args := [d1, d2] }
  | _ => none }
def fnExactReflectStraightRow : OpenClaim := { program := "ytkoiimjpalhgbaa", sum := "6d099f5e09623a3026ea12e6356e617bb6677cabfcc7329dea1d3552bff0da37", func := "loop.example/g01231/laws.FnExactReflectStraight", spec := "fnExactReflectStraight", inPlace := ["math.Float64bits", "math.Float64frombits"], apart := false }
def FnExactReflectStraightSaid : Prop := fnExactReflectStraightRow.holds Try.pinned (OpenSpec.ofChange fnExactReflectStraightSpec)

/-- ITS FALSE NEIGHBOUR: 'it returns false'. Refute it at one input. -/
def fnExactReflectStraightWrong : ChangeSpec := { name := "fnExactReflectStraight", fn := fun _ => fun
  | [d1, d2] => { results := [.lit (.bool false)], args := [d1, d2] }
  | _ => none }
def FnExactReflectStraightWrongFalsely : Prop := fnExactReflectStraightRow.holds Try.pinned (OpenSpec.ofChange fnExactReflectStraightWrong)

/- THE SECOND FORM. 'bulk': how many values and letters a reading holds, each counted each time it is reached (what is shared counts as often as it is met; a slice's spare places count too). A statement '..UptoSaid' is the law's where the arguments, and the package variables that the reading takes, are together of bulk at most 1048576: NARROWER than '..Said'. Prove '..Said' where nothing that the law and all that it calls make is longer than what came in: it says more and counts as full. Else prove '..UptoSaid'. A law counts once. -/
mutual
def uptoBulk {H : Type} : DataW H → Nat
  | .lit (.string bytes) => bytes.length + 1
  | .lit _ => 1
  | .nil => 1
  | .ptr d => uptoBulk d + 1
  | .slice elems spare => uptoBulkAll elems + uptoBulkAll spare + 1
  | .agg parts => uptoBulkAll parts + 1
  | .iface _ d => uptoBulk d + 1
  | .map entries => uptoBulkEntries entries + 1
  | .held _ => 1
def uptoBulkAll {H : Type} : List (DataW H) → Nat
  | [] => 0
  | d :: r => uptoBulk d + uptoBulkAll r
def uptoBulkEntries {H : Type} : List (Lit × DataW H) → Nat
  | [] => 0
  | x :: r => uptoBulkEntry x + uptoBulkEntries r
def uptoBulkEntry {H : Type} : Lit × DataW H → Nat
  | (.string bytes, d) => bytes.length + uptoBulk d + 1
  | (_, d) => uptoBulk d + 1
 end
def uptoSmall : (H : Type) → List (DataW H) → Bool := fun _ ds => decide (uptoBulkAll ds ≤ 1048576)
def OpenSpec.upto (s : _root_.Go.ChangeSpec) : _root_.Go.OpenSpec := { _root_.Go.OpenSpec.ofChange s with cond := some uptoSmall }

/-- 'laws.FnExactValidGround', WHERE WHAT IT READS IS OF BULK AT MOST 1048576: true; the input reads as it did. -/
def fnExactValidGroundUptoRow : OpenClaim := { program := "ytkoiimjpalhgbaa", sum := "6d099f5e09623a3026ea12e6356e617bb6677cabfcc7329dea1d3552bff0da37", func := "loop.example/g01231/laws.FnExactValidGround", spec := "fnExactValidGround", inPlace := ["math.Float64bits", "math.Float64frombits"], apart := false, narrowed := true }
def FnExactValidGroundUptoSaid : Prop := fnExactValidGroundUptoRow.holds Try.pinned (OpenSpec.upto fnExactValidGroundSpec)

/-- 'laws.FnExactSameGround', WHERE WHAT IT READS IS OF BULK AT MOST 1048576: true; the input reads as it did. -/
def fnExactSameGroundUptoRow : OpenClaim := { program := "ytkoiimjpalhgbaa", sum := "6d099f5e09623a3026ea12e6356e617bb6677cabfcc7329dea1d3552bff0da37", func := "loop.example/g01231/laws.FnExactSameGround", spec := "fnExactSameGround", inPlace := ["math.Float32bits"], apart := false, narrowed := true }
def FnExactSameGroundUptoSaid : Prop := fnExactSameGroundUptoRow.holds Try.pinned (OpenSpec.upto fnExactSameGroundSpec)

/-- 'laws.FnExactDepthsOf', WHERE WHAT IT READS IS OF BULK AT MOST 1048576: true; the input reads as it did. -/
def fnExactDepthsOfUptoRow : OpenClaim := { program := "ytkoiimjpalhgbaa", sum := "6d099f5e09623a3026ea12e6356e617bb6677cabfcc7329dea1d3552bff0da37", func := "loop.example/g01231/laws.FnExactDepthsOf", spec := "fnExactDepthsOf", inPlace := ["math.Float64bits", "math.Float64frombits"], unfollowed := true, recurses := true, apart := false, narrowed := true }
def FnExactDepthsOfUptoSaid : Prop := fnExactDepthsOfUptoRow.holds Try.pinned (OpenSpec.upto fnExactDepthsOfSpec)

/-- 'laws.FnExactLayerAt', WHERE WHAT IT READS IS OF BULK AT MOST 1048576: true; the input reads as it did. -/
def fnExactLayerAtUptoRow : OpenClaim := { program := "ytkoiimjpalhgbaa", sum := "6d099f5e09623a3026ea12e6356e617bb6677cabfcc7329dea1d3552bff0da37", func := "loop.example/g01231/laws.FnExactLayerAt", spec := "fnExactLayerAt", inPlace := ["math.Float64bits", "math.Float64frombits"], unfollowed := true, recurses := true, apart := false, narrowed := true }
def FnExactLayerAtUptoSaid : Prop := fnExactLayerAtUptoRow.holds Try.pinned (OpenSpec.upto fnExactLayerAtSpec)

/-- 'laws.FnExactSpeedAt', WHERE WHAT IT READS IS OF BULK AT MOST 1048576: true; the input reads as it did. -/
def fnExactSpeedAtUptoRow : OpenClaim := { program := "ytkoiimjpalhgbaa", sum := "6d099f5e09623a3026ea12e6356e617bb6677cabfcc7329dea1d3552bff0da37", func := "loop.example/g01231/laws.FnExactSpeedAt", spec := "fnExactSpeedAt", inPlace := ["math.Float64bits", "math.Float64frombits"], unfollowed := true, recurses := true, apart := false, narrowed := true }
def FnExactSpeedAtUptoSaid : Prop := fnExactSpeedAtUptoRow.holds Try.pinned (OpenSpec.upto fnExactSpeedAtSpec)

/-- 'laws.FnExactHardnessAt', WHERE WHAT IT READS IS OF BULK AT MOST 1048576: true; the input reads as it did. -/
def fnExactHardnessAtUptoRow : OpenClaim := { program := "ytkoiimjpalhgbaa", sum := "6d099f5e09623a3026ea12e6356e617bb6677cabfcc7329dea1d3552bff0da37", func := "loop.example/g01231/laws.FnExactHardnessAt", spec := "fnExactHardnessAt", inPlace := ["math.Float64bits", "math.Float64frombits"], apart := false, narrowed := true }
def FnExactHardnessAtUptoSaid : Prop := fnExactHardnessAtUptoRow.holds Try.pinned (OpenSpec.upto fnExactHardnessAtSpec)

/-- 'laws.FnExactTimesDown', WHERE WHAT IT READS IS OF BULK AT MOST 1048576: true; the input reads as it did. -/
def fnExactTimesDownUptoRow : OpenClaim := { program := "ytkoiimjpalhgbaa", sum := "6d099f5e09623a3026ea12e6356e617bb6677cabfcc7329dea1d3552bff0da37", func := "loop.example/g01231/laws.FnExactTimesDown", spec := "fnExactTimesDown", inPlace := ["math.Float64bits", "math.Float64frombits"], unfollowed := true, recurses := true, apart := false, narrowed := true }
def FnExactTimesDownUptoSaid : Prop := fnExactTimesDownUptoRow.holds Try.pinned (OpenSpec.upto fnExactTimesDownSpec)

/-- 'laws.FnExactMeanSpeeds', WHERE WHAT IT READS IS OF BULK AT MOST 1048576: true; the input reads as it did. -/
def fnExactMeanSpeedsUptoRow : OpenClaim := { program := "ytkoiimjpalhgbaa", sum := "6d099f5e09623a3026ea12e6356e617bb6677cabfcc7329dea1d3552bff0da37", func := "loop.example/g01231/laws.FnExactMeanSpeeds", spec := "fnExactMeanSpeeds", inPlace := ["math.Float64bits", "math.Float64frombits"], unfollowed := true, recurses := true, apart := false, narrowed := true }
def FnExactMeanSpeedsUptoSaid : Prop := fnExactMeanSpeedsUptoRow.holds Try.pinned (OpenSpec.upto fnExactMeanSpeedsSpec)

/-- 'laws.FnExactRootSpeeds', WHERE WHAT IT READS IS OF BULK AT MOST 1048576: true; the input reads as it did. -/
def fnExactRootSpeedsUptoRow : OpenClaim := { program := "ytkoiimjpalhgbaa", sum := "6d099f5e09623a3026ea12e6356e617bb6677cabfcc7329dea1d3552bff0da37", func := "loop.example/g01231/laws.FnExactRootSpeeds", spec := "fnExactRootSpeeds", inPlace := ["math.sqrt", "math.Float64bits", "math.Float64frombits"], unfollowed := true, recurses := true, apart := false, narrowed := true }
def FnExactRootSpeedsUptoSaid : Prop := fnExactRootSpeedsUptoRow.holds Try.pinned (OpenSpec.upto fnExactRootSpeedsSpec)

/-- 'laws.FnExactCosineIn', WHERE WHAT IT READS IS OF BULK AT MOST 1048576: true; the input reads as it did. -/
def fnExactCosineInUptoRow : OpenClaim := { program := "ytkoiimjpalhgbaa", sum := "6d099f5e09623a3026ea12e6356e617bb6677cabfcc7329dea1d3552bff0da37", func := "loop.example/g01231/laws.FnExactCosineIn", spec := "fnExactCosineIn", inPlace := ["math.sqrt", "math.Float64bits", "math.Float64frombits"], apart := false, narrowed := true }
def FnExactCosineInUptoSaid : Prop := fnExactCosineInUptoRow.holds Try.pinned (OpenSpec.upto fnExactCosineInSpec)

/-- 'laws.FnExactSteepestOf', WHERE WHAT IT READS IS OF BULK AT MOST 1048576: true; the input reads as it did. -/
def fnExactSteepestOfUptoRow : OpenClaim := { program := "ytkoiimjpalhgbaa", sum := "6d099f5e09623a3026ea12e6356e617bb6677cabfcc7329dea1d3552bff0da37", func := "loop.example/g01231/laws.FnExactSteepestOf", spec := "fnExactSteepestOf", inPlace := ["math.Float64bits", "math.Float64frombits"], apart := false, narrowed := true }
def FnExactSteepestOfUptoSaid : Prop := fnExactSteepestOfUptoRow.holds Try.pinned (OpenSpec.upto fnExactSteepestOfSpec)

/-- 'laws.FnExactReflectStraight', WHERE WHAT IT READS IS OF BULK AT MOST 1048576: true; the input reads as it did. -/
def fnExactReflectStraightUptoRow : OpenClaim := { program := "ytkoiimjpalhgbaa", sum := "6d099f5e09623a3026ea12e6356e617bb6677cabfcc7329dea1d3552bff0da37", func := "loop.example/g01231/laws.FnExactReflectStraight", spec := "fnExactReflectStraight", inPlace := ["math.Float64bits", "math.Float64frombits"], apart := false, narrowed := true }
def FnExactReflectStraightUptoSaid : Prop := fnExactReflectStraightUptoRow.holds Try.pinned (OpenSpec.upto fnExactReflectStraightSpec)

end Rows
end Go.Proofs.Ytkoiimjpalhgbaa
