/-
  No cell of these rows narrows 'for every input' (looked for: loops, veiled, ifaces, maps, wideKeys, modest, calm, conditions, laid).
  DERIVED. THE GIVEN ROWS OF THIS SEAT. 12 by the template 'for every input the law returns true; each argument reads behind the call as it read before'; 0 by the template 'total and deterministic' (their statements: YtbdmdpaggnaneaaTotals.lean).
  GIVEN WITH THE SEED: the statements are not yours to turn. If you find one false, say at which input.
  Laid BY PROGRAM, IN A SANDBOX (cutbox-rows.mjs): the forced cells as the released guide's own fill.sh prints them over the translation 2d4b7d8564217ec9… (all of the seat's roots in one cut). By AI agents, Wed Nov 11 2026. No macro, syntax, notation, axiom, sorry.
-/
import Derived.Test.YtbdmdpaggnaneaaChecked
import GoSem.Claim
import GoSem.ClaimJoined
import GoSem.ClaimMapViews
import Derived.JoinedTies
import Derived.KernelRfl
namespace Go.Proofs.Ytbdmdpaggnaneaa
/- THE CELL 'sum', in the pinned program and in every row, IS THE sha256 OF THE DUMP (.gsa) THAT YtbdmdpaggnaneaaProg.lean LOADS. Nothing in Lean hashes anything: it is a label: what it is worth is what the hold of that sum in a sandbox is worth. -/
noncomputable def Try.pinned : Pinned := { name := "ytbdmdpaggnaneaa", sum := "2d4b7d8564217ec92659a5de7027194e1b8c71a49597d397855d806d07f3578a", checked := Try.checked }
namespace Rows
def none {H : Type} : Left H := { results := [], args := [] }

/-- 'laws.FnExactSampleBetween': WHATEVER THE INPUT: true; the input reads as it did. -/
def fnExactSampleBetweenSpec : ChangeSpec := { name := "fnExactSampleBetween", fn := fun _ => fun
  | [d1, d2] => { results := [.lit (.bool true)], args := [d1, d2] }
  | _ => none }
def fnExactSampleBetweenRow : OpenClaim := { program := "ytbdmdpaggnaneaa", sum := "2d4b7d8564217ec92659a5de7027194e1b8c71a49597d397855d806d07f3578a", func := "loop.example/g01231/laws.FnExactSampleBetween", spec := "fnExactSampleBetween", inPlace := ["math.archFloor", "math.Float64bits", "math.Float64frombits", "math.archTrunc"], apart := false }
def FnExactSampleBetweenSaid : Prop := fnExactSampleBetweenRow.holds Try.pinned (OpenSpec.ofChange fnExactSampleBetweenSpec)

/-- ITS FALSE NEIGHBOUR: 'it returns false'. Refute it at one input. -/
def fnExactSampleBetweenWrong : ChangeSpec := { name := "fnExactSampleBetween", fn := fun _ => fun
  | [d1, d2] => { results := [.lit (.bool false)], args := [d1, d2] }
  | _ => none }
def FnExactSampleBetweenWrongFalsely : Prop := fnExactSampleBetweenRow.holds Try.pinned (OpenSpec.ofChange fnExactSampleBetweenWrong)

/-- 'laws.FnExactMoveTrace': WHATEVER THE INPUT: true; the input reads as it did. -/
def fnExactMoveTraceSpec : ChangeSpec := { name := "fnExactMoveTrace", fn := fun _ => fun
  | [d1, d2] => { results := [.lit (.bool true)], args := [d1, d2] }
  | _ => none }
def fnExactMoveTraceRow : OpenClaim := { program := "ytbdmdpaggnaneaa", sum := "2d4b7d8564217ec92659a5de7027194e1b8c71a49597d397855d806d07f3578a", func := "loop.example/g01231/laws.FnExactMoveTrace", spec := "fnExactMoveTrace", inPlace := ["math.archFloor", "math.Float64bits", "math.Float64frombits", "math.archTrunc"], unfollowed := true, recurses := true, apart := false }
def FnExactMoveTraceSaid : Prop := fnExactMoveTraceRow.holds Try.pinned (OpenSpec.ofChange fnExactMoveTraceSpec)

/-- ITS FALSE NEIGHBOUR: 'it returns false'. Refute it at one input. -/
def fnExactMoveTraceWrong : ChangeSpec := { name := "fnExactMoveTrace", fn := fun _ => fun
  | [d1, d2] => { results := [.lit (.bool false)], args := [d1, d2] }
  | _ => none }
def FnExactMoveTraceWrongFalsely : Prop := fnExactMoveTraceRow.holds Try.pinned (OpenSpec.ofChange fnExactMoveTraceWrong)

/-- 'laws.FnExactCorrectTrace': WHATEVER THE INPUT: true; the input reads as it did. -/
def fnExactCorrectTraceSpec : ChangeSpec := { name := "fnExactCorrectTrace", fn := fun _ => fun
  | [d1, d2, d3] => { results := [.lit (.bool true)], args := [d1, d2, d3] }
  | _ => none }
def fnExactCorrectTraceRow : OpenClaim := { program := "ytbdmdpaggnaneaa", sum := "2d4b7d8564217ec92659a5de7027194e1b8c71a49597d397855d806d07f3578a", func := "loop.example/g01231/laws.FnExactCorrectTrace", spec := "fnExactCorrectTrace", inPlace := ["math.sqrt", "math.archFloor", "math.Float64bits", "math.Float64frombits", "math.archTrunc"], unfollowed := true, recurses := true, apart := false }
def FnExactCorrectTraceSaid : Prop := fnExactCorrectTraceRow.holds Try.pinned (OpenSpec.ofChange fnExactCorrectTraceSpec)

/-- ITS FALSE NEIGHBOUR: 'it returns false'. Refute it at one input. -/
def fnExactCorrectTraceWrong : ChangeSpec := { name := "fnExactCorrectTrace", fn := fun _ => fun
  | [d1, d2, d3] => { results := [.lit (.bool false)], args := [d1, d2, d3] }
  | _ => none }
def FnExactCorrectTraceWrongFalsely : Prop := fnExactCorrectTraceRow.holds Try.pinned (OpenSpec.ofChange fnExactCorrectTraceWrong)

/-- 'laws.FnExactBendTrace': WHATEVER THE INPUT: true; the input reads as it did. -/
def fnExactBendTraceSpec : ChangeSpec := { name := "fnExactBendTrace", fn := fun _ => fun
  | [d1, d2, d3] => { results := [.lit (.bool true)], args := [d1, d2, d3] }
  | _ => none }
def fnExactBendTraceRow : OpenClaim := { program := "ytbdmdpaggnaneaa", sum := "2d4b7d8564217ec92659a5de7027194e1b8c71a49597d397855d806d07f3578a", func := "loop.example/g01231/laws.FnExactBendTrace", spec := "fnExactBendTrace", inPlace := ["math.sqrt", "math.archFloor", "math.Float64bits", "math.Float64frombits", "math.archTrunc"], unfollowed := true, recurses := true, apart := false }
def FnExactBendTraceSaid : Prop := fnExactBendTraceRow.holds Try.pinned (OpenSpec.ofChange fnExactBendTraceSpec)

/-- ITS FALSE NEIGHBOUR: 'it returns false'. Refute it at one input. -/
def fnExactBendTraceWrong : ChangeSpec := { name := "fnExactBendTrace", fn := fun _ => fun
  | [d1, d2, d3] => { results := [.lit (.bool false)], args := [d1, d2, d3] }
  | _ => none }
def FnExactBendTraceWrongFalsely : Prop := fnExactBendTraceRow.holds Try.pinned (OpenSpec.ofChange fnExactBendTraceWrong)

/-- 'laws.FnExactStretchAt': WHATEVER THE INPUT: true; the input reads as it did. -/
def fnExactStretchAtSpec : ChangeSpec := { name := "fnExactStretchAt", fn := fun _ => fun
  | [d1, d2, d3] => { results := [.lit (.bool true)], args := [d1, d2, d3] }
  | _ => none }
def fnExactStretchAtRow : OpenClaim := { program := "ytbdmdpaggnaneaa", sum := "2d4b7d8564217ec92659a5de7027194e1b8c71a49597d397855d806d07f3578a", func := "loop.example/g01231/laws.FnExactStretchAt", spec := "fnExactStretchAt", inPlace := ["math.sqrt", "math.Float64bits", "math.Float64frombits"], unfollowed := true, recurses := true, apart := false }
def FnExactStretchAtSaid : Prop := fnExactStretchAtRow.holds Try.pinned (OpenSpec.ofChange fnExactStretchAtSpec)

/-- ITS FALSE NEIGHBOUR: 'it returns false'. Refute it at one input. -/
def fnExactStretchAtWrong : ChangeSpec := { name := "fnExactStretchAt", fn := fun _ => fun
  | [d1, d2, d3] => { results := [.lit (.bool false)], args := [d1, d2, d3] }
  | _ => none }
def FnExactStretchAtWrongFalsely : Prop := fnExactStretchAtRow.holds Try.pinned (OpenSpec.ofChange fnExactStretchAtWrong)

/-- 'laws.FnExactValidGather': WHATEVER THE INPUT: true; the input reads as it did. -/
def fnExactValidGatherSpec : ChangeSpec := { name := "fnExactValidGather", fn := fun _ => fun
  | [d] => { results := [.lit (.bool true)], args := [d] }
  | _ => none }
def fnExactValidGatherRow : OpenClaim := { program := "ytbdmdpaggnaneaa", sum := "2d4b7d8564217ec92659a5de7027194e1b8c71a49597d397855d806d07f3578a", func := "loop.example/g01231/laws.FnExactValidGather", spec := "fnExactValidGather", inPlace := ["math.Float64bits", "math.Float64frombits"], apart := false }
def FnExactValidGatherSaid : Prop := fnExactValidGatherRow.holds Try.pinned (OpenSpec.ofChange fnExactValidGatherSpec)

/-- ITS FALSE NEIGHBOUR: 'it returns false'. Refute it at one input. -/
def fnExactValidGatherWrong : ChangeSpec := { name := "fnExactValidGather", fn := fun _ => fun
  | [d] => { results := [.lit (.bool false)], args := [d] }
  | _ => none }
def FnExactValidGatherWrongFalsely : Prop := fnExactValidGatherRow.holds Try.pinned (OpenSpec.ofChange fnExactValidGatherWrong)

/-- 'laws.FnExactStackOf': WHATEVER THE INPUT: true; the input reads as it did. -/
def fnExactStackOfSpec : ChangeSpec := { name := "fnExactStackOf", fn := fun _ => fun
  | [d] => { results := [.lit (.bool true)], args := [d] }
  | _ => none }
def fnExactStackOfRow : OpenClaim := { program := "ytbdmdpaggnaneaa", sum := "2d4b7d8564217ec92659a5de7027194e1b8c71a49597d397855d806d07f3578a", func := "loop.example/g01231/laws.FnExactStackOf", spec := "fnExactStackOf", inPlace := ["math.Float64bits", "math.Float64frombits"], unfollowed := true, recurses := true, apart := false }
def FnExactStackOfSaid : Prop := fnExactStackOfRow.holds Try.pinned (OpenSpec.ofChange fnExactStackOfSpec)

/-- ITS FALSE NEIGHBOUR: 'it returns false'. Refute it at one input. -/
def fnExactStackOfWrong : ChangeSpec := { name := "fnExactStackOf", fn := fun _ => fun
  | [d] => { results := [.lit (.bool false)], args := [d] }
  | _ => none }
def FnExactStackOfWrongFalsely : Prop := fnExactStackOfRow.holds Try.pinned (OpenSpec.ofChange fnExactStackOfWrong)

/-- 'laws.FnExactLiveStack': WHATEVER THE INPUT: true; the input reads as it did. -/
def fnExactLiveStackSpec : ChangeSpec := { name := "fnExactLiveStack", fn := fun _ => fun
  | [d] => { results := [.lit (.bool true)], args := [d] }
  | _ => none }
def fnExactLiveStackRow : OpenClaim := { program := "ytbdmdpaggnaneaa", sum := "2d4b7d8564217ec92659a5de7027194e1b8c71a49597d397855d806d07f3578a", func := "loop.example/g01231/laws.FnExactLiveStack", spec := "fnExactLiveStack", inPlace := ["math.Float64bits", "math.Float64frombits"], unfollowed := true, recurses := true, apart := false }
def FnExactLiveStackSaid : Prop := fnExactLiveStackRow.holds Try.pinned (OpenSpec.ofChange fnExactLiveStackSpec)

/-- ITS FALSE NEIGHBOUR: 'it returns false'. Refute it at one input. -/
def fnExactLiveStackWrong : ChangeSpec := { name := "fnExactLiveStack", fn := fun _ => fun
  | [d] => { results := [.lit (.bool false)], args := [d] }
  | _ => none }
def FnExactLiveStackWrongFalsely : Prop := fnExactLiveStackRow.holds Try.pinned (OpenSpec.ofChange fnExactLiveStackWrong)

/-- 'laws.FnExactSemblanceAt': WHATEVER THE INPUT: true; the input reads as it did. -/
def fnExactSemblanceAtSpec : ChangeSpec := { name := "fnExactSemblanceAt", fn := fun _ => fun
  | [d1, d2, d3] => { results := [.lit (.bool true)], args := [d1, d2, d3] }
  | _ => none }
def fnExactSemblanceAtRow : OpenClaim := { program := "ytbdmdpaggnaneaa", sum := "2d4b7d8564217ec92659a5de7027194e1b8c71a49597d397855d806d07f3578a", func := "loop.example/g01231/laws.FnExactSemblanceAt", spec := "fnExactSemblanceAt", inPlace := ["math.Float64bits", "math.Float64frombits"], apart := false }
def FnExactSemblanceAtSaid : Prop := fnExactSemblanceAtRow.holds Try.pinned (OpenSpec.ofChange fnExactSemblanceAtSpec)

/-- ITS FALSE NEIGHBOUR: 'it returns false'. Refute it at one input. -/
def fnExactSemblanceAtWrong : ChangeSpec := { name := "fnExactSemblanceAt", fn := fun _ => fun
  | [d1, d2, d3] => { results := [.lit (.bool false)], args := [d1, d2, d3] }
  | _ => none }
def FnExactSemblanceAtWrongFalsely : Prop := fnExactSemblanceAtRow.holds Try.pinned (OpenSpec.ofChange fnExactSemblanceAtWrong)

/-- 'laws.FnExactScanSpeeds': WHATEVER THE INPUT: true; the input reads as it did. -/
def fnExactScanSpeedsSpec : ChangeSpec := { name := "fnExactScanSpeeds", fn := fun _ => fun
  | [d1, d2, d3, d4] => { results := [.lit (.bool true)], args := [d1, d2, d3, d4] }
  | _ => none }
def fnExactScanSpeedsRow : OpenClaim := { program := "ytbdmdpaggnaneaa", sum := "2d4b7d8564217ec92659a5de7027194e1b8c71a49597d397855d806d07f3578a", func := "loop.example/g01231/laws.FnExactScanSpeeds", spec := "fnExactScanSpeeds", inPlace := ["math.sqrt", "math.archFloor", "math.Float64bits", "math.Float64frombits", "math.archTrunc"], unfollowed := true, recurses := true, apart := false }
def FnExactScanSpeedsSaid : Prop := fnExactScanSpeedsRow.holds Try.pinned (OpenSpec.ofChange fnExactScanSpeedsSpec)

/-- ITS FALSE NEIGHBOUR: 'it returns false'. Refute it at one input. -/
def fnExactScanSpeedsWrong : ChangeSpec := { name := "fnExactScanSpeeds", fn := fun _ => fun
  | [d1, d2, d3, d4] => { results := [.lit (.bool false)], args := [d1, d2, d3, d4] }
  | _ => none }
def FnExactScanSpeedsWrongFalsely : Prop := fnExactScanSpeedsRow.holds Try.pinned (OpenSpec.ofChange fnExactScanSpeedsWrong)

/-- 'laws.FnExactBestSpeed': WHATEVER THE INPUT: true; the input reads as it did. -/
def fnExactBestSpeedSpec : ChangeSpec := { name := "fnExactBestSpeed", fn := fun _ => fun
  | [d1, d2, d3, d4] => { results := [.lit (.bool true)], args := [d1, d2, d3, d4] }
  | _ => none }
def fnExactBestSpeedRow : OpenClaim := { program := "ytbdmdpaggnaneaa", sum := "2d4b7d8564217ec92659a5de7027194e1b8c71a49597d397855d806d07f3578a", func := "loop.example/g01231/laws.FnExactBestSpeed", spec := "fnExactBestSpeed", inPlace := ["math.sqrt", "math.archFloor", "math.Float64bits", "math.Float64frombits", "math.archTrunc"], unfollowed := true, recurses := true, apart := false }
def FnExactBestSpeedSaid : Prop := fnExactBestSpeedRow.holds Try.pinned (OpenSpec.ofChange fnExactBestSpeedSpec)

/-- ITS FALSE NEIGHBOUR: 'it returns false'. Refute it at one input. -/
def fnExactBestSpeedWrong : ChangeSpec := { name := "fnExactBestSpeed", fn := fun _ => fun
  | [d1, d2, d3, d4] => { results := [.lit (.bool false)], args := [d1, d2, d3, d4] }
  | _ => none }
def FnExactBestSpeedWrongFalsely : Prop := fnExactBestSpeedRow.holds Try.pinned (OpenSpec.ofChange fnExactBestSpeedWrong)

/-- 'laws.FnExactShiftsOf': WHATEVER THE INPUT: true; the input reads as it did. -/
def fnExactShiftsOfSpec : ChangeSpec := { name := "fnExactShiftsOf", fn := fun _ => fun
  | [d1, d2, d3] => { results := [.lit (.bool true)], args := [d1, d2, d3] }
  | _ => none }
def fnExactShiftsOfRow : OpenClaim := { program := "ytbdmdpaggnaneaa", sum := "2d4b7d8564217ec92659a5de7027194e1b8c71a49597d397855d806d07f3578a", func := "loop.example/g01231/laws.FnExactShiftsOf", spec := "fnExactShiftsOf", inPlace := ["math.Float64bits", "math.Float64frombits"], unfollowed := true, recurses := true, apart := false }
def FnExactShiftsOfSaid : Prop := fnExactShiftsOfRow.holds Try.pinned (OpenSpec.ofChange fnExactShiftsOfSpec)

/-- ITS FALSE NEIGHBOUR: 'it returns false'. Refute it at one input. -/
def fnExactShiftsOfWrong : ChangeSpec := { name := "fnExactShiftsOf", fn := fun _ => fun
  | [d1, d2, d3] => { results := [.lit (.bool false)], args := [d1, d2, d3] }
  | _ => none }
def FnExactShiftsOfWrongFalsely : Prop := fnExactShiftsOfRow.holds Try.pinned (OpenSpec.ofChange fnExactShiftsOfWrong)

/- THE SECOND FORM. 'bulk': how many values and letters a reading holds, each counted each time it is reached (what is shared counts as often as it is met; a slice's spare places count too). A statement '..UptoSaid' is the law's where the arguments, and the package variables that the reading takes, are together of bulk at most 1048576: NARROWER than '..Said'. Prove '..Said' where nothing that the law and all that it calls make is longer than what came in: it says more and counts as full. Else prove '..UptoSaid'. A law counts once. -/
mutual
def uptoBulk {H : Type} : DataW H → Nat
  | .lit (.string bytes) => bytes.length + 1
  | .lit _ => 1
  | .nil => 1
  | .ptr d => uptoBulk d + 1
  | .slice elems spare => uptoBulkAll elems + uptoBulkAll spare + 1
  | .agg parts => uptoBulkAll parts + 1
  | .iface _ d => uptoBulk d + 1
  | .map entries => uptoBulkEntries entries + 1
  | .held _ => 1
def uptoBulkAll {H : Type} : List (DataW H) → Nat
  | [] => 0
  | d :: r => uptoBulk d + uptoBulkAll r
def uptoBulkEntries {H : Type} : List (Lit × DataW H) → Nat
  | [] => 0
  | x :: r => uptoBulkEntry x + uptoBulkEntries r
def uptoBulkEntry {H : Type} : Lit × DataW H → Nat
  | (.string bytes, d) => bytes.length + uptoBulk d + 1
  | (_, d) => uptoBulk d + 1
 end
def uptoSmall : (H : Type) → List (DataW H) → Bool := fun _ ds => decide (uptoBulkAll ds ≤ 1048576)
def OpenSpec.upto (s : _root_.Go.ChangeSpec) : _root_.Go.OpenSpec := { _root_.Go.OpenSpec.ofChange s with cond := some uptoSmall }

/-- 'laws.FnExactSampleBetween', WHERE WHAT IT READS IS OF BULK AT MOST 1048576: true; the input reads as it did. -/
def fnExactSampleBetweenUptoRow : OpenClaim := { program := "ytbdmdpaggnaneaa", sum := "2d4b7d8564217ec92659a5de7027194e1b8c71a49597d397855d806d07f3578a", func := "loop.example/g01231/laws.FnExactSampleBetween", spec := "fnExactSampleBetween", inPlace := ["math.archFloor", "math.Float64bits", "math.Float64frombits", "math.archTrunc"], apart := false, narrowed := true }
def FnExactSampleBetweenUptoSaid : Prop := fnExactSampleBetweenUptoRow.holds Try.pinned (OpenSpec.upto fnExactSampleBetweenSpec)

/-- 'laws.FnExactMoveTrace', WHERE WHAT IT READS IS OF BULK AT MOST 1048576: true; the input reads as it did. -/
def fnExactMoveTraceUptoRow : OpenClaim := { program := "ytbdmdpaggnaneaa", sum := "2d4b7d8564217ec92659a5de7027194e1b8c71a49597d397855d806d07f3578a", func := "loop.example/g01231/laws.FnExactMoveTrace", spec := "fnExactMoveTrace", inPlace := ["math.archFloor", "math.Float64bits", "math.Float64frombits", "math.archTrunc"], unfollowed := true, recurses := true, apart := false, narrowed := true }
def FnExactMoveTraceUptoSaid : Prop := fnExactMoveTraceUptoRow.holds Try.pinned (OpenSpec.upto fnExactMoveTraceSpec)

/-- 'laws.FnExactCorrectTrace', WHERE WHAT IT READS IS OF BULK AT MOST 1048576: true; the input reads as it did. -/
def fnExactCorrectTraceUptoRow : OpenClaim := { program := "ytbdmdpaggnaneaa", sum := "2d4b7d8564217ec92659a5de7027194e1b8c71a49597d397855d806d07f3578a", func := "loop.example/g01231/laws.FnExactCorrectTrace", spec := "fnExactCorrectTrace", inPlace := ["math.sqrt", "math.archFloor", "math.Float64bits", "math.Float64frombits", "math.archTrunc"], unfollowed := true, recurses := true, apart := false, narrowed := true }
def FnExactCorrectTraceUptoSaid : Prop := fnExactCorrectTraceUptoRow.holds Try.pinned (OpenSpec.upto fnExactCorrectTraceSpec)

/-- 'laws.FnExactBendTrace', WHERE WHAT IT READS IS OF BULK AT MOST 1048576: true; the input reads as it did. -/
def fnExactBendTraceUptoRow : OpenClaim := { program := "ytbdmdpaggnaneaa", sum := "2d4b7d8564217ec92659a5de7027194e1b8c71a49597d397855d806d07f3578a", func := "loop.example/g01231/laws.FnExactBendTrace", spec := "fnExactBendTrace", inPlace := ["math.sqrt", "math.archFloor", "math.Float64bits", "math.Float64frombits", "math.archTrunc"], unfollowed := true, recurses := true, apart := false, narrowed := true }
def FnExactBendTraceUptoSaid : Prop := fnExactBendTraceUptoRow.holds Try.pinned (OpenSpec.upto fnExactBendTraceSpec)

/-- 'laws.FnExactStretchAt', WHERE WHAT IT READS IS OF BULK AT MOST 1048576: true; the input reads as it did. -/
def fnExactStretchAtUptoRow : OpenClaim := { program := "ytbdmdpaggnaneaa", sum := "2d4b7d8564217ec92659a5de7027194e1b8c71a49597d397855d806d07f3578a", func := "loop.example/g01231/laws.FnExactStretchAt", spec := "fnExactStretchAt", inPlace := ["math.sqrt", "math.Float64bits", "math.Float64frombits"], unfollowed := true, recurses := true, apart := false, narrowed := true }
def FnExactStretchAtUptoSaid : Prop := fnExactStretchAtUptoRow.holds Try.pinned (OpenSpec.upto fnExactStretchAtSpec)

/-- 'laws.FnExactValidGather', WHERE WHAT IT READS IS OF BULK AT MOST 1048576: true; the input reads as it did. -/
def fnExactValidGatherUptoRow : OpenClaim := { program := "ytbdmdpaggnaneaa", sum := "2d4b7d8564217ec92659a5de7027194e1b8c71a49597d397855d806d07f3578a", func := "loop.example/g01231/laws.FnExactValidGather", spec := "fnExactValidGather", inPlace := ["math.Float64bits", "math.Float64frombits"], apart := false, narrowed := true }
def FnExactValidGatherUptoSaid : Prop := fnExactValidGatherUptoRow.holds Try.pinned (OpenSpec.upto fnExactValidGatherSpec)

/-- 'laws.FnExactStackOf', WHERE WHAT IT READS IS OF BULK AT MOST 1048576: true; the input reads as it did. -/
def fnExactStackOfUptoRow : OpenClaim := { program := "ytbdmdpaggnaneaa", sum := "2d4b7d8564217ec92659a5de7027194e1b8c71a49597d397855d806d07f3578a", func := "loop.example/g01231/laws.FnExactStackOf", spec := "fnExactStackOf", inPlace := ["math.Float64bits", "math.Float64frombits"], unfollowed := true, recurses := true, apart := false, narrowed := true }
def FnExactStackOfUptoSaid : Prop := fnExactStackOfUptoRow.holds Try.pinned (OpenSpec.upto fnExactStackOfSpec)

/-- 'laws.FnExactLiveStack', WHERE WHAT IT READS IS OF BULK AT MOST 1048576: true; the input reads as it did. -/
def fnExactLiveStackUptoRow : OpenClaim := { program := "ytbdmdpaggnaneaa", sum := "2d4b7d8564217ec92659a5de7027194e1b8c71a49597d397855d806d07f3578a", func := "loop.example/g01231/laws.FnExactLiveStack", spec := "fnExactLiveStack", inPlace := ["math.Float64bits", "math.Float64frombits"], unfollowed := true, recurses := true, apart := false, narrowed := true }
def FnExactLiveStackUptoSaid : Prop := fnExactLiveStackUptoRow.holds Try.pinned (OpenSpec.upto fnExactLiveStackSpec)

/-- 'laws.FnExactSemblanceAt', WHERE WHAT IT READS IS OF BULK AT MOST 1048576: true; the input reads as it did. -/
def fnExactSemblanceAtUptoRow : OpenClaim := { program := "ytbdmdpaggnaneaa", sum := "2d4b7d8564217ec92659a5de7027194e1b8c71a49597d397855d806d07f3578a", func := "loop.example/g01231/laws.FnExactSemblanceAt", spec := "fnExactSemblanceAt", inPlace := ["math.Float64bits", "math.Float64frombits"], apart := false, narrowed := true }
def FnExactSemblanceAtUptoSaid : Prop := fnExactSemblanceAtUptoRow.holds Try.pinned (OpenSpec.upto fnExactSemblanceAtSpec)

/-- 'laws.FnExactScanSpeeds', WHERE WHAT IT READS IS OF BULK AT MOST 1048576: true; the input reads as it did. -/
def fnExactScanSpeedsUptoRow : OpenClaim := { program := "ytbdmdpaggnaneaa", sum := "2d4b7d8564217ec92659a5de7027194e1b8c71a49597d397855d806d07f3578a", func := "loop.example/g01231/laws.FnExactScanSpeeds", spec := "fnExactScanSpeeds", inPlace := ["math.sqrt", "math.archFloor", "math.Float64bits", "math.Float64frombits", "math.archTrunc"], unfollowed := true, recurses := true, apart := false, narrowed := true }
def FnExactScanSpeedsUptoSaid : Prop := fnExactScanSpeedsUptoRow.holds Try.pinned (OpenSpec.upto fnExactScanSpeedsSpec)

/-- 'laws.FnExactBestSpeed', WHERE WHAT IT READS IS OF BULK AT MOST 1048576: true; the input reads as it did. -/
def fnExactBestSpeedUptoRow : OpenClaim := { program := "ytbdmdpaggnaneaa", sum := "2d4b7d8564217ec92659a5de7027194e1b8c71a49597d397855d806d07f3578a", func := "loop.example/g01231/laws.FnExactBestSpeed", spec := "fnExactBestSpeed", inPlace := ["math.sqrt", "math.archFloor", "math.Float64bits", "math.Float64frombits", "math.archTrunc"], unfollowed := true, recurses := true, apart := false, narrowed := true }
def FnExactBestSpeedUptoSaid : Prop := fnExactBestSpeedUptoRow.holds Try.pinned (OpenSpec.upto fnExactBestSpeedSpec)

/-- 'laws.FnExactShiftsOf', WHERE WHAT IT READS IS OF BULK AT MOST 1048576: true; the input reads as it did. -/
def fnExactShiftsOfUptoRow : OpenClaim := { program := "ytbdmdpaggnaneaa", sum := "2d4b7d8564217ec92659a5de7027194e1b8c71a49597d397855d806d07f3578a", func := "loop.example/g01231/laws.FnExactShiftsOf", spec := "fnExactShiftsOf", inPlace := ["math.Float64bits", "math.Float64frombits"], unfollowed := true, recurses := true, apart := false, narrowed := true }
def FnExactShiftsOfUptoSaid : Prop := fnExactShiftsOfUptoRow.holds Try.pinned (OpenSpec.upto fnExactShiftsOfSpec)

end Rows
end Go.Proofs.Ytbdmdpaggnaneaa
