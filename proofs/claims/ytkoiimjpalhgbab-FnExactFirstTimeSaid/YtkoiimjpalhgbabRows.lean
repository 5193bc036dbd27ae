/-
  No cell of these rows narrows 'for every input' (looked for: loops, veiled, ifaces, maps, wideKeys, modest, calm, conditions, laid).
  DERIVED. THE GIVEN ROWS OF THIS SEAT. 12 by the template 'for every input the law returns true; each argument reads behind the call as it read before'; 0 by the template 'total and deterministic' (their statements: YtkoiimjpalhgbabTotals.lean).
  GIVEN WITH THE SEED: the statements are not yours to turn. If you find one false, say at which input.
  Laid BY PROGRAM, IN A SANDBOX (cutbox-rows.mjs): the forced cells as the released guide's own fill.sh prints them over the translation 19cf27bf097914fa… (all of the seat's roots in one cut). By AI agents, Wed Nov 11 2026. No macro, syntax, notation, axiom, sorry.
-/
import Derived.Test.YtkoiimjpalhgbabChecked
import GoSem.Claim
import GoSem.ClaimJoined
import GoSem.ClaimMapViews
import Derived.JoinedTies
import Derived.KernelRfl
namespace Go.Proofs.Ytkoiimjpalhgbab
/- THE CELL 'sum', in the pinned program and in every row, IS THE sha256 OF THE DUMP (.gsa) THAT YtkoiimjpalhgbabProg.lean LOADS. Nothing in Lean hashes anything: it is a label: what it is worth is what the hold of that sum in a sandbox is worth. -/
noncomputable def Try.pinned : Pinned := { name := "ytkoiimjpalhgbab", sum := "19cf27bf097914fa4056bb09876305467af5f177e84edbbddd670babaf8ebaa5", checked := Try.checked }
namespace Rows
def none {H : Type} : Left H := { results := [], args := [] }

/-- 'laws.FnExactRayTo': WHATEVER THE INPUT: true; the input reads as it did. -/
def fnExactRayToSpec : ChangeSpec := { name := "fnExactRayTo", fn := fun _ => fun
  | [d1, d2, d3] => { results := [.lit (.bool true)], args := [d1, d2, d3] }
  | _ => none }
def fnExactRayToRow : OpenClaim := { program := "ytkoiimjpalhgbab", sum := "19cf27bf097914fa4056bb09876305467af5f177e84edbbddd670babaf8ebaa5", func := "loop.example/g01231/laws.FnExactRayTo", spec := "fnExactRayTo", inPlace := ["math.sqrt", "math.Float64bits", "math.Float64frombits"], apart := false }
def FnExactRayToSaid : Prop := fnExactRayToRow.holds Try.pinned (OpenSpec.ofChange fnExactRayToSpec)

/-- ITS FALSE NEIGHBOUR: 'it returns false'. Refute it at one input. -/
def fnExactRayToWrong : ChangeSpec := { name := "fnExactRayTo", fn := fun _ => fun
  | [d1, d2, d3] => { results := [.lit (.bool false)], args := [d1, d2, d3] }
  | _ => none }
def FnExactRayToWrongFalsely : Prop := fnExactRayToRow.holds Try.pinned (OpenSpec.ofChange fnExactRayToWrong)

/-- 'laws.FnExactEchoRay': WHATEVER THE INPUT: true; the input reads as it did. -/
def fnExactEchoRaySpec : ChangeSpec := { name := "fnExactEchoRay", fn := fun _ => fun
  | [d1, d2, d3] => { results := [.lit (.bool true)], args := [d1, d2, d3] }
  | _ => none }
def fnExactEchoRayRow : OpenClaim := { program := "ytkoiimjpalhgbab", sum := "19cf27bf097914fa4056bb09876305467af5f177e84edbbddd670babaf8ebaa5", func := "loop.example/g01231/laws.FnExactEchoRay", spec := "fnExactEchoRay", inPlace := ["math.sqrt", "math.Float64bits", "math.Float64frombits"], apart := false }
def FnExactEchoRaySaid : Prop := fnExactEchoRayRow.holds Try.pinned (OpenSpec.ofChange fnExactEchoRaySpec)

/-- ITS FALSE NEIGHBOUR: 'it returns false'. Refute it at one input. -/
def fnExactEchoRayWrong : ChangeSpec := { name := "fnExactEchoRay", fn := fun _ => fun
  | [d1, d2, d3] => { results := [.lit (.bool false)], args := [d1, d2, d3] }
  | _ => none }
def FnExactEchoRayWrongFalsely : Prop := fnExactEchoRayRow.holds Try.pinned (OpenSpec.ofChange fnExactEchoRayWrong)

/-- 'laws.FnExactShootRay': WHATEVER THE INPUT: true; the input reads as it did. -/
def fnExactShootRaySpec : ChangeSpec := { name := "fnExactShootRay", fn := fun _ => fun
  | [d1, d2, d3] => { results := [.lit (.bool true)], args := [d1, d2, d3] }
  | _ => none }
def fnExactShootRayRow : OpenClaim := { program := "ytkoiimjpalhgbab", sum := "19cf27bf097914fa4056bb09876305467af5f177e84edbbddd670babaf8ebaa5", func := "loop.example/g01231/laws.FnExactShootRay", spec := "fnExactShootRay", inPlace := ["math.sqrt", "math.Float64bits", "math.Float64frombits"], unfollowed := true, recurses := true, apart := false }
def FnExactShootRaySaid : Prop := fnExactShootRayRow.holds Try.pinned (OpenSpec.ofChange fnExactShootRaySpec)

/-- ITS FALSE NEIGHBOUR: 'it returns false'. Refute it at one input. -/
def fnExactShootRayWrong : ChangeSpec := { name := "fnExactShootRay", fn := fun _ => fun
  | [d1, d2, d3] => { results := [.lit (.bool false)], args := [d1, d2, d3] }
  | _ => none }
def FnExactShootRayWrongFalsely : Prop := fnExactShootRayRow.holds Try.pinned (OpenSpec.ofChange fnExactShootRayWrong)

/-- 'laws.FnExactCurveTime': WHATEVER THE INPUT: true; the input reads as it did. -/
def fnExactCurveTimeSpec : ChangeSpec := { name := "fnExactCurveTime", fn := fun _ => fun
  | [d1, d2, d3] => { results := [.lit (.bool true)], args := [d1, d2, d3] }
  | _ => none }
def fnExactCurveTimeRow : OpenClaim := { program := "ytkoiimjpalhgbab", sum := "19cf27bf097914fa4056bb09876305467af5f177e84edbbddd670babaf8ebaa5", func := "loop.example/g01231/laws.FnExactCurveTime", spec := "fnExactCurveTime", inPlace := ["math.sqrt", "math.Float64bits", "math.Float64frombits"], apart := false }
def FnExactCurveTimeSaid : Prop := fnExactCurveTimeRow.holds Try.pinned (OpenSpec.ofChange fnExactCurveTimeSpec)

/-- ITS FALSE NEIGHBOUR: 'it returns false'. Refute it at one input. -/
def fnExactCurveTimeWrong : ChangeSpec := { name := "fnExactCurveTime", fn := fun _ => fun
  | [d1, d2, d3] => { results := [.lit (.bool false)], args := [d1, d2, d3] }
  | _ => none }
def FnExactCurveTimeWrongFalsely : Prop := fnExactCurveTimeRow.holds Try.pinned (OpenSpec.ofChange fnExactCurveTimeWrong)

/-- 'laws.FnExactHeadTime': WHATEVER THE INPUT: true; the input reads as it did. -/
def fnExactHeadTimeSpec : ChangeSpec := { name := "fnExactHeadTime", fn := fun _ => fun
  | [d1, d2, d3] => { results := [.lit (.bool true)], args := [d1, d2, d3] }
  | _ => none }
def fnExactHeadTimeRow : OpenClaim := { program := "ytkoiimjpalhgbab", sum := "19cf27bf097914fa4056bb09876305467af5f177e84edbbddd670babaf8ebaa5", func := "loop.example/g01231/laws.FnExactHeadTime", spec := "fnExactHeadTime", inPlace := ["math.sqrt", "math.Float64bits", "math.Float64frombits"], apart := false }
def FnExactHeadTimeSaid : Prop := fnExactHeadTimeRow.holds Try.pinned (OpenSpec.ofChange fnExactHeadTimeSpec)

/-- ITS FALSE NEIGHBOUR: 'it returns false'. Refute it at one input. -/
def fnExactHeadTimeWrong : ChangeSpec := { name := "fnExactHeadTime", fn := fun _ => fun
  | [d1, d2, d3] => { results := [.lit (.bool false)], args := [d1, d2, d3] }
  | _ => none }
def FnExactHeadTimeWrongFalsely : Prop := fnExactHeadTimeRow.holds Try.pinned (OpenSpec.ofChange fnExactHeadTimeWrong)

/-- 'laws.FnExactFirstTime': WHATEVER THE INPUT: true; the input reads as it did. -/
def fnExactFirstTimeSpec : ChangeSpec := { name := "fnExactFirstTime", fn := fun _ => fun
  | [d1, d2] => { results := [.lit (.bool true)], args := [d1, d2] }
  | _ => none }
def fnExactFirstTimeRow : OpenClaim := { program := "ytkoiimjpalhgbab", sum := "19cf27bf097914fa4056bb09876305467af5f177e84edbbddd670babaf8ebaa5", func := "loop.example/g01231/laws.FnExactFirstTime", spec := "fnExactFirstTime", inPlace := ["math.sqrt", "math.Float64bits", "math.Float64frombits"], unfollowed := true, recurses := true, apart := false }
def FnExactFirstTimeSaid : Prop := fnExactFirstTimeRow.holds Try.pinned (OpenSpec.ofChange fnExactFirstTimeSpec)

/-- ITS FALSE NEIGHBOUR: 'it returns false'. Refute it at one input. -/
def fnExactFirstTimeWrong : ChangeSpec := { name := "fnExactFirstTime", fn := fun _ => fun
  | [d1, d2] => { results := [.lit (.bool false)], args := [d1, d2] }
  | _ => none }
def FnExactFirstTimeWrongFalsely : Prop := fnExactFirstTimeRow.holds Try.pinned (OpenSpec.ofChange fnExactFirstTimeWrong)

/-- 'laws.FnExactStraightEchoes': WHATEVER THE INPUT: true; the input reads as it did. -/
def fnExactStraightEchoesSpec : ChangeSpec := { name := "fnExactStraightEchoes", fn := fun _ => fun
  | [d] => { results := [.lit (.bool true)], args := [d] }
  | _ => none }
def fnExactStraightEchoesRow : OpenClaim := { program := "ytkoiimjpalhgbab", sum := "19cf27bf097914fa4056bb09876305467af5f177e84edbbddd670babaf8ebaa5", func := "loop.example/g01231/laws.FnExactStraightEchoes", spec := "fnExactStraightEchoes", inPlace := ["math.Float64bits", "math.Float64frombits"], apart := false }
def FnExactStraightEchoesSaid : Prop := fnExactStraightEchoesRow.holds Try.pinned (OpenSpec.ofChange fnExactStraightEchoesSpec)

/-- ITS FALSE NEIGHBOUR: 'it returns false'. Refute it at one input. -/
def fnExactStraightEchoesWrong : ChangeSpec := { name := "fnExactStraightEchoes", fn := fun _ => fun
  | [d] => { results := [.lit (.bool false)], args := [d] }
  | _ => none }
def FnExactStraightEchoesWrongFalsely : Prop := fnExactStraightEchoesRow.holds Try.pinned (OpenSpec.ofChange fnExactStraightEchoesWrong)

/-- 'laws.FnExactSpeedsOfRoots': WHATEVER THE INPUT: true; the input reads as it did. -/
def fnExactSpeedsOfRootsSpec : ChangeSpec := { name := "fnExactSpeedsOfRoots", fn := fun _ => fun
  | [d1, d2] => { results := [.lit (.bool true)], args := [d1, d2] }
  | _ => none }
def fnExactSpeedsOfRootsRow : OpenClaim := { program := "ytkoiimjpalhgbab", sum := "19cf27bf097914fa4056bb09876305467af5f177e84edbbddd670babaf8ebaa5", func := "loop.example/g01231/laws.FnExactSpeedsOfRoots", spec := "fnExactSpeedsOfRoots", inPlace := ["math.sqrt", "math.Float64bits", "math.Float64frombits"], apart := false }
def FnExactSpeedsOfRootsSaid : Prop := fnExactSpeedsOfRootsRow.holds Try.pinned (OpenSpec.ofChange fnExactSpeedsOfRootsSpec)

/-- ITS FALSE NEIGHBOUR: 'it returns false'. Refute it at one input. -/
def fnExactSpeedsOfRootsWrong : ChangeSpec := { name := "fnExactSpeedsOfRoots", fn := fun _ => fun
  | [d1, d2] => { results := [.lit (.bool false)], args := [d1, d2] }
  | _ => none }
def FnExactSpeedsOfRootsWrongFalsely : Prop := fnExactSpeedsOfRootsRow.holds Try.pinned (OpenSpec.ofChange fnExactSpeedsOfRootsWrong)

/-- 'laws.FnExactGradientDepth': WHATEVER THE INPUT: true; the input reads as it did. -/
def fnExactGradientDepthSpec : ChangeSpec := { name := "fnExactGradientDepth", fn := fun _ => fun
  | [d1, d2, d3] => { results := [.lit (.bool true)], args := [d1, d2, d3] }
  | _ => none }
def fnExactGradientDepthRow : OpenClaim := { program := "ytkoiimjpalhgbab", sum := "19cf27bf097914fa4056bb09876305467af5f177e84edbbddd670babaf8ebaa5", func := "loop.example/g01231/laws.FnExactGradientDepth", spec := "fnExactGradientDepth", inPlace := ["math.sqrt", "math.Float64bits", "math.Float64frombits"], apart := false }
def FnExactGradientDepthSaid : Prop := fnExactGradientDepthRow.holds Try.pinned (OpenSpec.ofChange fnExactGradientDepthSpec)

/-- ITS FALSE NEIGHBOUR: 'it returns false'. Refute it at one input. -/
def fnExactGradientDepthWrong : ChangeSpec := { name := "fnExactGradientDepth", fn := fun _ => fun
  | [d1, d2, d3] => { results := [.lit (.bool false)], args := [d1, d2, d3] }
  | _ => none }
def FnExactGradientDepthWrongFalsely : Prop := fnExactGradientDepthRow.holds Try.pinned (OpenSpec.ofChange fnExactGradientDepthWrong)

/-- 'laws.FnExactGradientSlowness': WHATEVER THE INPUT: true; the input reads as it did. -/
def fnExactGradientSlownessSpec : ChangeSpec := { name := "fnExactGradientSlowness", fn := fun _ => fun
  | [d1, d2, d3] => { results := [.lit (.bool true)], args := [d1, d2, d3] }
  | _ => none }
def fnExactGradientSlownessRow : OpenClaim := { program := "ytkoiimjpalhgbab", sum := "19cf27bf097914fa4056bb09876305467af5f177e84edbbddd670babaf8ebaa5", func := "loop.example/g01231/laws.FnExactGradientSlowness", spec := "fnExactGradientSlowness", inPlace := ["math.sqrt", "math.Float64bits", "math.Float64frombits"], apart := false }
def FnExactGradientSlownessSaid : Prop := fnExactGradientSlownessRow.holds Try.pinned (OpenSpec.ofChange fnExactGradientSlownessSpec)

/-- ITS FALSE NEIGHBOUR: 'it returns false'. Refute it at one input. -/
def fnExactGradientSlownessWrong : ChangeSpec := { name := "fnExactGradientSlowness", fn := fun _ => fun
  | [d1, d2, d3] => { results := [.lit (.bool false)], args := [d1, d2, d3] }
  | _ => none }
def FnExactGradientSlownessWrongFalsely : Prop := fnExactGradientSlownessRow.holds Try.pinned (OpenSpec.ofChange fnExactGradientSlownessWrong)

/-- 'laws.FnExactTurnGround': WHATEVER THE INPUT: true; the input reads as it did. -/
def fnExactTurnGroundSpec : ChangeSpec := { name := "fnExactTurnGround", fn := fun _ => fun
  | [d1, d2] => { results := [.lit (.bool true)], args := [d1, d2] }
  | _ => none }
def fnExactTurnGroundRow : OpenClaim := { program := "ytkoiimjpalhgbab", sum := "19cf27bf097914fa4056bb09876305467af5f177e84edbbddd670babaf8ebaa5", func := "loop.example/g01231/laws.FnExactTurnGround", spec := "fnExactTurnGround", inPlace := ["math.Float64bits", "math.Float64frombits"], apart := false }
def FnExactTurnGroundSaid : Prop := fnExactTurnGroundRow.holds Try.pinned (OpenSpec.ofChange fnExactTurnGroundSpec)

/-- ITS FALSE NEIGHBOUR: 'it returns false'. Refute it at one input. -/
def fnExactTurnGroundWrong : ChangeSpec := { name := "fnExactTurnGround", fn := fun _ => fun
  | [d1, d2] => { results := [.lit (.bool false)], args := [d1, d2] }
  | _ => none }
def FnExactTurnGroundWrongFalsely : Prop := fnExactTurnGroundRow.holds Try.pinned (OpenSpec.ofChange fnExactTurnGroundWrong)

/-- 'laws.FnExactPhasorOf': WHATEVER THE INPUT: true; the input reads as it did. -/
def fnExactPhasorOfSpec : ChangeSpec := { name := "fnExactPhasorOf", fn := fun _ => fun
  | [d] => { results := [.lit (.bool true)], args := [d] }
  | _ => none }
def fnExactPhasorOfRow : OpenClaim := { program := "ytkoiimjpalhgbab", sum := "19cf27bf097914fa4056bb09876305467af5f177e84edbbddd670babaf8ebaa5", func := "loop.example/g01231/laws.FnExactPhasorOf", spec := "fnExactPhasorOf", inPlace := ["math.Float32frombits", "math.Float64frombits", "math.Float64bits"], apart := false }
def FnExactPhasorOfSaid : Prop := fnExactPhasorOfRow.holds Try.pinned (OpenSpec.ofChange fnExactPhasorOfSpec)

/-- ITS FALSE NEIGHBOUR: 'it returns false'. Refute it at one input. -/
def fnExactPhasorOfWrong : ChangeSpec := { name := "fnExactPhasorOf", fn := fun _ => fun
  | [d] => { results := [.lit (.bool false)], args := [d] }
  | _ => none }
def FnExactPhasorOfWrongFalsely : Prop := fnExactPhasorOfRow.holds Try.pinned (OpenSpec.ofChange fnExactPhasorOfWrong)

/- THE SECOND FORM. 'bulk': how many values and letters a reading holds, each counted each time it is reached (what is shared counts as often as it is met; a slice's spare places count too). A statement '..UptoSaid' is the law's where the arguments, and the package variables that the reading takes, are together of bulk at most 1048576: NARROWER than '..Said'. Prove '..Said' where nothing that the law and all that it calls make is longer than what came in: it says more and counts as full. Else prove '..UptoSaid'. A law counts once. -/
mutual
def uptoBulk {H : Type} : DataW H → Nat
  | .lit (.string bytes) => bytes.length + 1
  | .lit _ => 1
  | .nil => 1
  | .ptr d => uptoBulk d + 1
  | .slice elems spare => uptoBulkAll elems + uptoBulkAll spare + 1
  | .agg parts => uptoBulkAll parts + 1
  | .iface _ d => uptoBulk d + 1
  | .map entries => uptoBulkEntries entries + 1
  | .held _ => 1
def uptoBulkAll {H : Type} : List (DataW H) → Nat
  | [] => 0
  | d :: r => uptoBulk d + uptoBulkAll r
def uptoBulkEntries {H : Type} : List (Lit × DataW H) → Nat
  | [] => 0
  | x :: r => uptoBulkEntry x + uptoBulkEntries r
def uptoBulkEntry {H : Type} : Lit × DataW H → Nat
  | (.string bytes, d) => bytes.length + uptoBulk d + 1
  | (_, d) => uptoBulk d + 1
 end
def uptoSmall : (H : Type) → List (DataW H) → Bool := fun _ ds => decide (uptoBulkAll ds ≤ 1048576)
def OpenSpec.upto (s : _root_.Go.ChangeSpec) : _root_.Go.OpenSpec := { _root_.Go.OpenSpec.ofChange s with cond := some uptoSmall }

/-- 'laws.FnExactRayTo', WHERE WHAT IT READS IS OF BULK AT MOST 1048576: true; the input reads as it did. -/
def fnExactRayToUptoRow : OpenClaim := { program := "ytkoiimjpalhgbab", sum := "19cf27bf097914fa4056bb09876305467af5f177e84edbbddd670babaf8ebaa5", func := "loop.example/g01231/laws.FnExactRayTo", spec := "fnExactRayTo", inPlace := ["math.sqrt", "math.Float64bits", "math.Float64frombits"], apart := false, narrowed := true }
def FnExactRayToUptoSaid : Prop := fnExactRayToUptoRow.holds Try.pinned (OpenSpec.upto fnExactRayToSpec)

/-- 'laws.FnExactEchoRay', WHERE WHAT IT READS IS OF BULK AT MOST 1048576: true; the input reads as it did. -/
def fnExactEchoRayUptoRow : OpenClaim := { program := "ytkoiimjpalhgbab", sum := "19cf27bf097914fa4056bb09876305467af5f177e84edbbddd670babaf8ebaa5", func := "loop.example/g01231/laws.FnExactEchoRay", spec := "fnExactEchoRay", inPlace := ["math.sqrt", "math.Float64bits", "math.Float64frombits"], apart := false, narrowed := true }
def FnExactEchoRayUptoSaid : Prop := fnExactEchoRayUptoRow.holds Try.pinned (OpenSpec.upto fnExactEchoRaySpec)

/-- 'laws.FnExactShootRay', WHERE WHAT IT READS IS OF BULK AT MOST 1048576: true; the input reads as it did. -/
def fnExactShootRayUptoRow : OpenClaim := { program := "ytkoiimjpalhgbab", sum := "19cf27bf097914fa4056bb09876305467af5f177e84edbbddd670babaf8ebaa5", func := "loop.example/g01231/laws.FnExactShootRay", spec := "fnExactShootRay", inPlace := ["math.sqrt", "math.Float64bits", "math.Float64frombits"], unfollowed := true, recurses := true, apart := false, narrowed := true }
def FnExactShootRayUptoSaid : Prop := fnExactShootRayUptoRow.holds Try.pinned (OpenSpec.upto fnExactShootRaySpec)

/-- 'laws.FnExactCurveTime', WHERE WHAT IT READS IS OF BULK AT MOST 1048576: true; the input reads as it did. -/
def fnExactCurveTimeUptoRow : OpenClaim := { program := "ytkoiimjpalhgbab", sum := "19cf27bf097914fa4056bb09876305467af5f177e84edbbddd670babaf8ebaa5", func := "loop.example/g01231/laws.FnExactCurveTime", spec := "fnExactCurveTime", inPlace := ["math.sqrt", "math.Float64bits", "math.Float64frombits"], apart := false, narrowed := true }
def FnExactCurveTimeUptoSaid : Prop := fnExactCurveTimeUptoRow.holds Try.pinned (OpenSpec.upto fnExactCurveTimeSpec)

/-- 'laws.FnExactHeadTime', WHERE WHAT IT READS IS OF BULK AT MOST 1048576: true; the input reads as it did. -/
def fnExactHeadTimeUptoRow : OpenClaim := { program := "ytkoiimjpalhgbab", sum := "19cf27bf097914fa4056bb09876305467af5f177e84edbbddd670babaf8ebaa5", func := "loop.example/g01231/laws.FnExactHeadTime", spec := "fnExactHeadTime", inPlace := ["math.sqrt", "math.Float64bits", "math.Float64frombits"], apart := false, narrowed := true }
def FnExactHeadTimeUptoSaid : Prop := fnExactHeadTimeUptoRow.holds Try.pinned (OpenSpec.upto fnExactHeadTimeSpec)

/-- 'laws.FnExactFirstTime', WHERE WHAT IT READS IS OF BULK AT MOST 1048576: true; the input reads as it did. -/
def fnExactFirstTimeUptoRow : OpenClaim := { program := "ytkoiimjpalhgbab", sum := "19cf27bf097914fa4056bb09876305467af5f177e84edbbddd670babaf8ebaa5", func := "loop.example/g01231/laws.FnExactFirstTime", spec := "fnExactFirstTime", inPlace := ["math.sqrt", "math.Float64bits", "math.Float64frombits"], unfollowed := true, recurses := true, apart := false, narrowed := true }
def FnExactFirstTimeUptoSaid : Prop := fnExactFirstTimeUptoRow.holds Try.pinned (OpenSpec.upto fnExactFirstTimeSpec)

/-- 'laws.FnExactStraightEchoes', WHERE WHAT IT READS IS OF BULK AT MOST 1048576: true; the input reads as it did. -/
def fnExactStraightEchoesUptoRow : OpenClaim := { program := "ytkoiimjpalhgbab", sum := "19cf27bf097914fa4056bb09876305467af5f177e84edbbddd670babaf8ebaa5", func := "loop.example/g01231/laws.FnExactStraightEchoes", spec := "fnExactStraightEchoes", inPlace := ["math.Float64bits", "math.Float64frombits"], apart := false, narrowed := true }
def FnExactStraightEchoesUptoSaid : Prop := fnExactStraightEchoesUptoRow.holds Try.pinned (OpenSpec.upto fnExactStraightEchoesSpec)

/-- 'laws.FnExactSpeedsOfRoots', WHERE WHAT IT READS IS OF BULK AT MOST 1048576: true; the input reads as it did. -/
def fnExactSpeedsOfRootsUptoRow : OpenClaim := { program := "ytkoiimjpalhgbab", sum := "19cf27bf097914fa4056bb09876305467af5f177e84edbbddd670babaf8ebaa5", func := "loop.example/g01231/laws.FnExactSpeedsOfRoots", spec := "fnExactSpeedsOfRoots", inPlace := ["math.sqrt", "math.Float64bits", "math.Float64frombits"], apart := false, narrowed := true }
def FnExactSpeedsOfRootsUptoSaid : Prop := fnExactSpeedsOfRootsUptoRow.holds Try.pinned (OpenSpec.upto fnExactSpeedsOfRootsSpec)

/-- 'laws.FnExactGradientDepth', WHERE WHAT IT READS IS OF BULK AT MOST 1048576: true; the input reads as it did. -/
def fnExactGradientDepthUptoRow : OpenClaim := { program := "ytkoiimjpalhgbab", sum := "19cf27bf097914fa4056bb09876305467af5f177e84edbbddd670babaf8ebaa5", func := "loop.example/g01231/laws.FnExactGradientDepth", spec := "fnExactGradientDepth", inPlace := ["math.sqrt", "math.Float64bits", "math.Float64frombits"], apart := false, narrowed := true }
def FnExactGradientDepthUptoSaid : Prop := fnExactGradientDepthUptoRow.holds Try.pinned (OpenSpec.upto fnExactGradientDepthSpec)

/-- 'laws.FnExactGradientSlowness', WHERE WHAT IT READS IS OF BULK AT MOST 1048576: true; the input reads as it did. -/
def fnExactGradientSlownessUptoRow : OpenClaim := { program := "ytkoiimjpalhgbab", sum := "19cf27bf097914fa4056bb09876305467af5f177e84edbbddd670babaf8ebaa5", func := "loop.example/g01231/laws.FnExactGradientSlowness", spec := "fnExactGradientSlowness", inPlace := ["math.sqrt", "math.Float64bits", "math.Float64frombits"], apart := false, narrowed := true }
def FnExactGradientSlownessUptoSaid : Prop := fnExactGradientSlownessUptoRow.holds Try.pinned (OpenSpec.upto fnExactGradientSlownessSpec)

/-- 'laws.FnExactTurnGround', WHERE WHAT IT READS IS OF BULK AT MOST 1048576: true; the input reads as it did. -/
def fnExactTurnGroundUptoRow : OpenClaim := { program := "ytkoiimjpalhgbab", sum := "19cf27bf097914fa4056bb09876305467af5f177e84edbbddd670babaf8ebaa5", func := "loop.example/g01231/laws.FnExactTurnGround", spec := "fnExactTurnGround", inPlace := ["math.Float64bits", "math.Float64frombits"], apart := false, narrowed := true }
def FnExactTurnGroundUptoSaid : Prop := fnExactTurnGroundUptoRow.holds Try.pinned (OpenSpec.upto fnExactTurnGroundSpec)

/-- 'laws.FnExactPhasorOf', WHERE WHAT IT READS IS OF BULK AT MOST 1048576: true; the input reads as it did. -/
def fnExactPhasorOfUptoRow : OpenClaim := { program := "ytkoiimjpalhgbab", sum := "19cf27bf097914fa4056bb09876305467af5f177e84edbbddd670babaf8ebaa5", func := "loop.example/g01231/laws.FnExactPhasorOf", spec := "fnExactPhasorOf", inPlace := ["math.Float32frombits", "math.Float64frombits", "math.Float64bits"], apart := false, narrowed := true }
def FnExactPhasorOfUptoSaid : Prop := fnExactPhasorOfUptoRow.holds Try.pinned (OpenSpec.upto fnExactPhasorOfSpec)

end Rows
end Go.Proofs.Ytkoiimjpalhgbab
