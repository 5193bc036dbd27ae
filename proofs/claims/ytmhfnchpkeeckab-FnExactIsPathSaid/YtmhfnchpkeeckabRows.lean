/-
  No cell of these rows narrows 'for every input' (looked for: loops, veiled, ifaces, maps, wideKeys, modest, calm, conditions, laid).
  DERIVED. THE GIVEN ROWS OF THIS SEAT. 12 by the template 'for every input the law returns true; each argument reads behind the call as it read before'; 0 by the template 'total and deterministic' (their statements: YtmhfnchpkeeckabTotals.lean).
  GIVEN WITH THE SEED: the statements are not yours to turn. If you find one false, say at which input.
  Laid BY PROGRAM, IN A SANDBOX (cutbox-rows.mjs): the forced cells as the released guide's own fill.sh prints them over the translation 06f2ac7c8e30d421… (all of the seat's roots in one cut). By AI agents, Wed Nov 11 2026. No macro, syntax, notation, axiom, sorry.
-/
import Derived.Test.YtmhfnchpkeeckabChecked
import GoSem.Claim
import GoSem.ClaimJoined
import GoSem.ClaimMapViews
import Derived.JoinedTies
import Derived.KernelRfl
namespace Go.Proofs.Ytmhfnchpkeeckab
/- THE CELL 'sum', in the pinned program and in every row, IS THE sha256 OF THE DUMP (.gsa) THAT YtmhfnchpkeeckabProg.lean LOADS. Nothing in Lean hashes anything: it is a label: what it is worth is what the hold of that sum in a sandbox is worth. -/
noncomputable def Try.pinned : Pinned := { name := "ytmhfnchpkeeckab", sum := "06f2ac7c8e30d421f2cf1cd9619895b4ef6fd97e93336509624c6b984b37bb79", checked := Try.checked }
namespace Rows
def none {H : Type} : Left H := { results := [], args := [] }

/-- 'laws.FnExactFitSection': WHATEVER THE INPUT: true; the input reads as it did. -/
def fnExactFitSectionSpec : ChangeSpec := { name := "fnExactFitSection", fn := fun _ => fun
  | [d1, d2, d3] => { results := [.lit (.bool true)], args := [d1, d2, d3] }
  | _ => none }
def fnExactFitSectionRow : OpenClaim := { program := "ytmhfnchpkeeckab", sum := "06f2ac7c8e30d421f2cf1cd9619895b4ef6fd97e93336509624c6b984b37bb79", func := "loop.example/g01231/laws.FnExactFitSection", spec := "fnExactFitSection", inPlace := ["math.sqrt", "math.archFloor", "math.Float64bits", "math.Float64frombits", "math.archTrunc"], unfollowed := true, recurses := true, leaving := true, apart := false }
def FnExactFitSectionSaid : Prop := fnExactFitSectionRow.holds Try.pinned (OpenSpec.ofChange fnExactFitSectionSpec)

/-- ITS FALSE NEIGHBOUR: 'it returns false'. Refute it at one input. -/
def fnExactFitSectionWrong : ChangeSpec := { name := "fnExactFitSection", fn := fun _ => fun
  | [d1, d2, d3] => { results := [.lit (.bool false)], args := [d1, d2, d3] }
  | _ => none }
def FnExactFitSectionWrongFalsely : Prop := fnExactFitSectionRow.holds Try.pinned (OpenSpec.ofChange fnExactFitSectionWrong)

/-- 'laws.FnExactIsPath': WHATEVER THE INPUT: true; the input reads as it did. -/
def fnExactIsPathSpec : ChangeSpec := { name := "fnExactIsPath", fn := fun _ => fun
  | [d] => { results := [.lit (.bool true)], args := [d] }
  | _ => none }
def fnExactIsPathRow : OpenClaim := { program := "ytmhfnchpkeeckab", sum := "06f2ac7c8e30d421f2cf1cd9619895b4ef6fd97e93336509624c6b984b37bb79", func := "loop.example/g01231/laws.FnExactIsPath", spec := "fnExactIsPath", apart := false }
def FnExactIsPathSaid : Prop := fnExactIsPathRow.holds Try.pinned (OpenSpec.ofChange fnExactIsPathSpec)

/-- ITS FALSE NEIGHBOUR: 'it returns false'. Refute it at one input. -/
def fnExactIsPathWrong : ChangeSpec := { name := "fnExactIsPath", fn := fun _ => fun
  | [d] => { results := [.lit (.bool false)], args := [d] }
  | _ => none }
def FnExactIsPathWrongFalsely : Prop := fnExactIsPathRow.holds Try.pinned (OpenSpec.ofChange fnExactIsPathWrong)

/-- 'laws.FnExactLengthsOf': WHATEVER THE INPUT: true; the input reads as it did. -/
def fnExactLengthsOfSpec : ChangeSpec := { name := "fnExactLengthsOf", fn := fun _ => fun
  | [d1, d2, d3, d4] => { results := [.lit (.bool true)], args := [d1, d2, d3, d4] }
  | _ => none }
def fnExactLengthsOfRow : OpenClaim := { program := "ytmhfnchpkeeckab", sum := "06f2ac7c8e30d421f2cf1cd9619895b4ef6fd97e93336509624c6b984b37bb79", func := "loop.example/g01231/laws.FnExactLengthsOf", spec := "fnExactLengthsOf", inPlace := ["math.sqrt", "math.archFloor", "math.Float64bits", "math.Float64frombits", "math.archTrunc"], apart := false }
def FnExactLengthsOfSaid : Prop := fnExactLengthsOfRow.holds Try.pinned (OpenSpec.ofChange fnExactLengthsOfSpec)

/-- ITS FALSE NEIGHBOUR: 'it returns false'. Refute it at one input. -/
def fnExactLengthsOfWrong : ChangeSpec := { name := "fnExactLengthsOf", fn := fun _ => fun
  | [d1, d2, d3, d4] => { results := [.lit (.bool false)], args := [d1, d2, d3, d4] }
  | _ => none }
def FnExactLengthsOfWrongFalsely : Prop := fnExactLengthsOfRow.holds Try.pinned (OpenSpec.ofChange fnExactLengthsOfWrong)

/-- 'laws.FnExactTimeAlong': WHATEVER THE INPUT: true; the input reads as it did. -/
def fnExactTimeAlongSpec : ChangeSpec := { name := "fnExactTimeAlong", fn := fun _ => fun
  | [d1, d2, d3] => { results := [.lit (.bool true)], args := [d1, d2, d3] }
  | _ => none }
def fnExactTimeAlongRow : OpenClaim := { program := "ytmhfnchpkeeckab", sum := "06f2ac7c8e30d421f2cf1cd9619895b4ef6fd97e93336509624c6b984b37bb79", func := "loop.example/g01231/laws.FnExactTimeAlong", spec := "fnExactTimeAlong", inPlace := ["math.sqrt", "math.archFloor", "math.Float64bits", "math.Float64frombits", "math.archTrunc"], apart := false }
def FnExactTimeAlongSaid : Prop := fnExactTimeAlongRow.holds Try.pinned (OpenSpec.ofChange fnExactTimeAlongSpec)

/-- ITS FALSE NEIGHBOUR: 'it returns false'. Refute it at one input. -/
def fnExactTimeAlongWrong : ChangeSpec := { name := "fnExactTimeAlong", fn := fun _ => fun
  | [d1, d2, d3] => { results := [.lit (.bool false)], args := [d1, d2, d3] }
  | _ => none }
def FnExactTimeAlongWrongFalsely : Prop := fnExactTimeAlongRow.holds Try.pinned (OpenSpec.ofChange fnExactTimeAlongWrong)

/-- 'laws.FnExactTimesAlong': WHATEVER THE INPUT: true; the input reads as it did. -/
def fnExactTimesAlongSpec : ChangeSpec := { name := "fnExactTimesAlong", fn := fun _ => fun
  | [d1, d2, d3] => { results := [.lit (.bool true)], args := [d1, d2, d3] }
  | _ => none }
def fnExactTimesAlongRow : OpenClaim := { program := "ytmhfnchpkeeckab", sum := "06f2ac7c8e30d421f2cf1cd9619895b4ef6fd97e93336509624c6b984b37bb79", func := "loop.example/g01231/laws.FnExactTimesAlong", spec := "fnExactTimesAlong", inPlace := ["math.sqrt", "math.archFloor", "math.Float64bits", "math.Float64frombits", "math.archTrunc", "(*sync.WaitGroup).Add", "internal/race.ReleaseMerge", "internal/race.Disable", "internal/race.Enable", "internal/synctest.IsInBubble", "internal/synctest.Associate[sync.WaitGroup]", "sync.fatal", "sync/atomic.OrUint64", "sync/atomic.AddUint64", "internal/race.Read", "sync/atomic.LoadUint64", "sync/atomic.StoreUint64", "internal/synctest.Disassociate[sync.WaitGroup]", "sync.runtime_Semrelease", "(*sync.WaitGroup).Done", "(*sync.WaitGroup).Wait", "internal/race.Acquire", "internal/synctest.IsAssociated[sync.WaitGroup]", "sync/atomic.CompareAndSwapUint64", "internal/race.Write", "sync.runtime_SemacquireWaitGroup"], unfollowed := true, recurses := true, leaving := true, apart := false }
def FnExactTimesAlongSaid : Prop := fnExactTimesAlongRow.holds Try.pinned (OpenSpec.ofChange fnExactTimesAlongSpec)

/-- ITS FALSE NEIGHBOUR: 'it returns false'. Refute it at one input. -/
def fnExactTimesAlongWrong : ChangeSpec := { name := "fnExactTimesAlong", fn := fun _ => fun
  | [d1, d2, d3] => { results := [.lit (.bool false)], args := [d1, d2, d3] }
  | _ => none }
def FnExactTimesAlongWrongFalsely : Prop := fnExactTimesAlongRow.holds Try.pinned (OpenSpec.ofChange fnExactTimesAlongWrong)

/-- 'laws.FnExactPullPath': WHATEVER THE INPUT: true; the input reads as it did. -/
def fnExactPullPathSpec : ChangeSpec := { name := "fnExactPullPath", fn := fun _ => fun
  | [d1, d2, d3, d4, d5] => { results := [.lit (.bool true)], args := [d1, d2, d3, d4, d5] }
  | _ => none }
def fnExactPullPathRow : OpenClaim := { program := "ytmhfnchpkeeckab", sum := "06f2ac7c8e30d421f2cf1cd9619895b4ef6fd97e93336509624c6b984b37bb79", func := "loop.example/g01231/laws.FnExactPullPath", spec := "fnExactPullPath", inPlace := ["math.sqrt", "math.archFloor", "math.Float64bits", "math.Float64frombits", "math.archTrunc", "(*sync.WaitGroup).Add", "internal/race.ReleaseMerge", "internal/race.Disable", "internal/race.Enable", "internal/synctest.IsInBubble", "internal/synctest.Associate[sync.WaitGroup]", "sync.fatal", "sync/atomic.OrUint64", "sync/atomic.AddUint64", "internal/race.Read", "sync/atomic.LoadUint64", "sync/atomic.StoreUint64", "internal/synctest.Disassociate[sync.WaitGroup]", "sync.runtime_Semrelease", "(*sync.WaitGroup).Done", "(*sync.WaitGroup).Wait", "internal/race.Acquire", "internal/synctest.IsAssociated[sync.WaitGroup]", "sync/atomic.CompareAndSwapUint64", "internal/race.Write", "sync.runtime_SemacquireWaitGroup"], unfollowed := true, recurses := true, leaving := true, apart := false }
def FnExactPullPathSaid : Prop := fnExactPullPathRow.holds Try.pinned (OpenSpec.ofChange fnExactPullPathSpec)

/-- ITS FALSE NEIGHBOUR: 'it returns false'. Refute it at one input. -/
def fnExactPullPathWrong : ChangeSpec := { name := "fnExactPullPath", fn := fun _ => fun
  | [d1, d2, d3, d4, d5] => { results := [.lit (.bool false)], args := [d1, d2, d3, d4, d5] }
  | _ => none }
def FnExactPullPathWrongFalsely : Prop := fnExactPullPathRow.holds Try.pinned (OpenSpec.ofChange fnExactPullPathWrong)

/-- 'laws.FnExactPullPaths': WHATEVER THE INPUT: true; the input reads as it did. -/
def fnExactPullPathsSpec : ChangeSpec := { name := "fnExactPullPaths", fn := fun _ => fun
  | [d1, d2, d3, d4, d5, d6] => { results := [.lit (.bool true)], args := [d1, d2, d3, d4, d5, d6] }
  | _ => none }
def fnExactPullPathsRow : OpenClaim := { program := "ytmhfnchpkeeckab", sum := "06f2ac7c8e30d421f2cf1cd9619895b4ef6fd97e93336509624c6b984b37bb79", func := "loop.example/g01231/laws.FnExactPullPaths", spec := "fnExactPullPaths", inPlace := ["math.sqrt", "math.archFloor", "math.Float64bits", "math.Float64frombits", "math.archTrunc", "(*sync.WaitGroup).Add", "internal/race.ReleaseMerge", "internal/race.Disable", "internal/race.Enable", "internal/synctest.IsInBubble", "internal/synctest.Associate[sync.WaitGroup]", "sync.fatal", "sync/atomic.OrUint64", "sync/atomic.AddUint64", "internal/race.Read", "sync/atomic.LoadUint64", "sync/atomic.StoreUint64", "internal/synctest.Disassociate[sync.WaitGroup]", "sync.runtime_Semrelease", "(*sync.WaitGroup).Done", "(*sync.WaitGroup).Wait", "internal/race.Acquire", "internal/synctest.IsAssociated[sync.WaitGroup]", "sync/atomic.CompareAndSwapUint64", "internal/race.Write", "sync.runtime_SemacquireWaitGroup"], unfollowed := true, recurses := true, leaving := true, apart := false }
def FnExactPullPathsSaid : Prop := fnExactPullPathsRow.holds Try.pinned (OpenSpec.ofChange fnExactPullPathsSpec)

/-- ITS FALSE NEIGHBOUR: 'it returns false'. Refute it at one input. -/
def fnExactPullPathsWrong : ChangeSpec := { name := "fnExactPullPaths", fn := fun _ => fun
  | [d1, d2, d3, d4, d5, d6] => { results := [.lit (.bool false)], args := [d1, d2, d3, d4, d5, d6] }
  | _ => none }
def FnExactPullPathsWrongFalsely : Prop := fnExactPullPathsRow.holds Try.pinned (OpenSpec.ofChange fnExactPullPathsWrong)

/-- 'laws.FnExactOffTimes': WHATEVER THE INPUT: true; the input reads as it did. -/
def fnExactOffTimesSpec : ChangeSpec := { name := "fnExactOffTimes", fn := fun _ => fun
  | [d1, d2, d3, d4] => { results := [.lit (.bool true)], args := [d1, d2, d3, d4] }
  | _ => none }
def fnExactOffTimesRow : OpenClaim := { program := "ytmhfnchpkeeckab", sum := "06f2ac7c8e30d421f2cf1cd9619895b4ef6fd97e93336509624c6b984b37bb79", func := "loop.example/g01231/laws.FnExactOffTimes", spec := "fnExactOffTimes", inPlace := ["math.sqrt", "math.archFloor", "math.Float64bits", "math.Float64frombits", "math.archTrunc", "(*sync.WaitGroup).Add", "internal/race.ReleaseMerge", "internal/race.Disable", "internal/race.Enable", "internal/synctest.IsInBubble", "internal/synctest.Associate[sync.WaitGroup]", "sync.fatal", "sync/atomic.OrUint64", "sync/atomic.AddUint64", "internal/race.Read", "sync/atomic.LoadUint64", "sync/atomic.StoreUint64", "internal/synctest.Disassociate[sync.WaitGroup]", "sync.runtime_Semrelease", "(*sync.WaitGroup).Done", "(*sync.WaitGroup).Wait", "internal/race.Acquire", "internal/synctest.IsAssociated[sync.WaitGroup]", "sync/atomic.CompareAndSwapUint64", "internal/race.Write", "sync.runtime_SemacquireWaitGroup"], unfollowed := true, recurses := true, leaving := true, apart := false }
def FnExactOffTimesSaid : Prop := fnExactOffTimesRow.holds Try.pinned (OpenSpec.ofChange fnExactOffTimesSpec)

/-- ITS FALSE NEIGHBOUR: 'it returns false'. Refute it at one input. -/
def fnExactOffTimesWrong : ChangeSpec := { name := "fnExactOffTimes", fn := fun _ => fun
  | [d1, d2, d3, d4] => { results := [.lit (.bool false)], args := [d1, d2, d3, d4] }
  | _ => none }
def FnExactOffTimesWrongFalsely : Prop := fnExactOffTimesRow.holds Try.pinned (OpenSpec.ofChange fnExactOffTimesWrong)

/-- 'laws.FnExactHitsOf': WHATEVER THE INPUT: true; the input reads as it did. -/
def fnExactHitsOfSpec : ChangeSpec := { name := "fnExactHitsOf", fn := fun _ => fun
  | [d1, d2, d3, d4] => { results := [.lit (.bool true)], args := [d1, d2, d3, d4] }
  | _ => none }
def fnExactHitsOfRow : OpenClaim := { program := "ytmhfnchpkeeckab", sum := "06f2ac7c8e30d421f2cf1cd9619895b4ef6fd97e93336509624c6b984b37bb79", func := "loop.example/g01231/laws.FnExactHitsOf", spec := "fnExactHitsOf", inPlace := ["math.archFloor", "math.Float64bits", "math.Float64frombits", "math.archTrunc", "(*sync.WaitGroup).Add", "internal/race.ReleaseMerge", "internal/race.Disable", "internal/race.Enable", "internal/synctest.IsInBubble", "internal/synctest.Associate[sync.WaitGroup]", "sync.fatal", "sync/atomic.OrUint64", "sync/atomic.AddUint64", "internal/race.Read", "sync/atomic.LoadUint64", "sync/atomic.StoreUint64", "internal/synctest.Disassociate[sync.WaitGroup]", "sync.runtime_Semrelease", "(*sync.WaitGroup).Done", "(*sync.WaitGroup).Wait", "internal/race.Acquire", "internal/synctest.IsAssociated[sync.WaitGroup]", "sync/atomic.CompareAndSwapUint64", "internal/race.Write", "sync.runtime_SemacquireWaitGroup"], unfollowed := true, recurses := true, leaving := true, apart := false }
def FnExactHitsOfSaid : Prop := fnExactHitsOfRow.holds Try.pinned (OpenSpec.ofChange fnExactHitsOfSpec)

/-- ITS FALSE NEIGHBOUR: 'it returns false'. Refute it at one input. -/
def fnExactHitsOfWrong : ChangeSpec := { name := "fnExactHitsOf", fn := fun _ => fun
  | [d1, d2, d3, d4] => { results := [.lit (.bool false)], args := [d1, d2, d3, d4] }
  | _ => none }
def FnExactHitsOfWrongFalsely : Prop := fnExactHitsOfRow.holds Try.pinned (OpenSpec.ofChange fnExactHitsOfWrong)

/-- 'laws.FnExactAddTraces': WHATEVER THE INPUT: true; the input reads as it did. -/
def fnExactAddTracesSpec : ChangeSpec := { name := "fnExactAddTraces", fn := fun _ => fun
  | [d1, d2] => { results := [.lit (.bool true)], args := [d1, d2] }
  | _ => none }
def fnExactAddTracesRow : OpenClaim := { program := "ytmhfnchpkeeckab", sum := "06f2ac7c8e30d421f2cf1cd9619895b4ef6fd97e93336509624c6b984b37bb79", func := "loop.example/g01231/laws.FnExactAddTraces", spec := "fnExactAddTraces", unfollowed := true, recurses := true, leaving := true, apart := false }
def FnExactAddTracesSaid : Prop := fnExactAddTracesRow.holds Try.pinned (OpenSpec.ofChange fnExactAddTracesSpec)

/-- ITS FALSE NEIGHBOUR: 'it returns false'. Refute it at one input. -/
def fnExactAddTracesWrong : ChangeSpec := { name := "fnExactAddTraces", fn := fun _ => fun
  | [d1, d2] => { results := [.lit (.bool false)], args := [d1, d2] }
  | _ => none }
def FnExactAddTracesWrongFalsely : Prop := fnExactAddTracesRow.holds Try.pinned (OpenSpec.ofChange fnExactAddTracesWrong)

/-- 'laws.FnExactLessTraces': WHATEVER THE INPUT: true; the input reads as it did. -/
def fnExactLessTracesSpec : ChangeSpec := { name := "fnExactLessTraces", fn := fun _ => fun
  | [d1, d2] => { results := [.lit (.bool true)], args := [d1, d2] }
  | _ => none }
def fnExactLessTracesRow : OpenClaim := { program := "ytmhfnchpkeeckab", sum := "06f2ac7c8e30d421f2cf1cd9619895b4ef6fd97e93336509624c6b984b37bb79", func := "loop.example/g01231/laws.FnExactLessTraces", spec := "fnExactLessTraces", unfollowed := true, recurses := true, leaving := true, apart := false }
def FnExactLessTracesSaid : Prop := fnExactLessTracesRow.holds Try.pinned (OpenSpec.ofChange fnExactLessTracesSpec)

/-- ITS FALSE NEIGHBOUR: 'it returns false'. Refute it at one input. -/
def fnExactLessTracesWrong : ChangeSpec := { name := "fnExactLessTraces", fn := fun _ => fun
  | [d1, d2] => { results := [.lit (.bool false)], args := [d1, d2] }
  | _ => none }
def FnExactLessTracesWrongFalsely : Prop := fnExactLessTracesRow.holds Try.pinned (OpenSpec.ofChange fnExactLessTracesWrong)

/-- 'laws.FnExactScaleTrace': WHATEVER THE INPUT: true; the input reads as it did. -/
def fnExactScaleTraceSpec : ChangeSpec := { name := "fnExactScaleTrace", fn := fun _ => fun
  | [d1, d2] => { results := [.lit (.bool true)], args := [d1, d2] }
  | _ => none }
def fnExactScaleTraceRow : OpenClaim := { program := "ytmhfnchpkeeckab", sum := "06f2ac7c8e30d421f2cf1cd9619895b4ef6fd97e93336509624c6b984b37bb79", func := "loop.example/g01231/laws.FnExactScaleTrace", spec := "fnExactScaleTrace", apart := false }
def FnExactScaleTraceSaid : Prop := fnExactScaleTraceRow.holds Try.pinned (OpenSpec.ofChange fnExactScaleTraceSpec)

/-- ITS FALSE NEIGHBOUR: 'it returns false'. Refute it at one input. -/
def fnExactScaleTraceWrong : ChangeSpec := { name := "fnExactScaleTrace", fn := fun _ => fun
  | [d1, d2] => { results := [.lit (.bool false)], args := [d1, d2] }
  | _ => none }
def FnExactScaleTraceWrongFalsely : Prop := fnExactScaleTraceRow.holds Try.pinned (OpenSpec.ofChange fnExactScaleTraceWrong)

/- THE SECOND FORM. 'bulk': how many values and letters a reading holds, each counted each time it is reached (what is shared counts as often as it is met; a slice's spare places count too). A statement '..UptoSaid' is the law's where the arguments, and the package variables that the reading takes, are together of bulk at most 1048576: NARROWER than '..Said'. Prove '..Said' where nothing that the law and all that it calls make is longer than what came in: it says more and counts as full. Else prove '..UptoSaid'. A law counts once. -/
mutual
def uptoBulk {H : Type} : DataW H → Nat
  | .lit (.string bytes) => bytes.length + 1
  | .lit _ => 1
  | .nil => 1
  | .ptr d => uptoBulk d + 1
  | .slice elems spare => uptoBulkAll elems + uptoBulkAll spare + 1
  | .agg parts => uptoBulkAll parts + 1
  | .iface _ d => uptoBulk d + 1
  | .map entries => uptoBulkEntries entries + 1
  | .held _ => 1
def uptoBulkAll {H : Type} : List (DataW H) → Nat
  | [] => 0
  | d :: r => uptoBulk d + uptoBulkAll r
def uptoBulkEntries {H : Type} : List (Lit × DataW H) → Nat
  | [] => 0
  | x :: r => uptoBulkEntry x + uptoBulkEntries r
def uptoBulkEntry {H : Type} : Lit × DataW H → Nat
  | (.string bytes, d) => bytes.length + uptoBulk d + 1
  | (_, d) => uptoBulk d + 1
 end
def uptoSmall : (H : Type) → List (DataW H) → Bool := fun _ ds => decide (uptoBulkAll ds ≤ 1048576)
def OpenSpec.upto (s : _root_.Go.ChangeSpec) : _root_.Go.OpenSpec := { _root_.Go.OpenSpec.ofChange s with cond := some uptoSmall }

/-- 'laws.FnExactFitSection', WHERE WHAT IT READS IS OF BULK AT MOST 1048576: true; the input reads as it did. -/
def fnExactFitSectionUptoRow : OpenClaim := { program := "ytmhfnchpkeeckab", sum := "06f2ac7c8e30d421f2cf1cd9619895b4ef6fd97e93336509624c6b984b37bb79", func := "loop.example/g01231/laws.FnExactFitSection", spec := "fnExactFitSection", inPlace := ["math.sqrt", "math.archFloor", "math.Float64bits", "math.Float64frombits", "math.archTrunc"], unfollowed := true, recurses := true, leaving := true, apart := false, narrowed := true }
def FnExactFitSectionUptoSaid : Prop := fnExactFitSectionUptoRow.holds Try.pinned (OpenSpec.upto fnExactFitSectionSpec)

/-- 'laws.FnExactIsPath', WHERE WHAT IT READS IS OF BULK AT MOST 1048576: true; the input reads as it did. -/
def fnExactIsPathUptoRow : OpenClaim := { program := "ytmhfnchpkeeckab", sum := "06f2ac7c8e30d421f2cf1cd9619895b4ef6fd97e93336509624c6b984b37bb79", func := "loop.example/g01231/laws.FnExactIsPath", spec := "fnExactIsPath", apart := false, narrowed := true }
def FnExactIsPathUptoSaid : Prop := fnExactIsPathUptoRow.holds Try.pinned (OpenSpec.upto fnExactIsPathSpec)

/-- 'laws.FnExactLengthsOf', WHERE WHAT IT READS IS OF BULK AT MOST 1048576: true; the input reads as it did. -/
def fnExactLengthsOfUptoRow : OpenClaim := { program := "ytmhfnchpkeeckab", sum := "06f2ac7c8e30d421f2cf1cd9619895b4ef6fd97e93336509624c6b984b37bb79", func := "loop.example/g01231/laws.FnExactLengthsOf", spec := "fnExactLengthsOf", inPlace := ["math.sqrt", "math.archFloor", "math.Float64bits", "math.Float64frombits", "math.archTrunc"], apart := false, narrowed := true }
def FnExactLengthsOfUptoSaid : Prop := fnExactLengthsOfUptoRow.holds Try.pinned (OpenSpec.upto fnExactLengthsOfSpec)

/-- 'laws.FnExactTimeAlong', WHERE WHAT IT READS IS OF BULK AT MOST 1048576: true; the input reads as it did. -/
def fnExactTimeAlongUptoRow : OpenClaim := { program := "ytmhfnchpkeeckab", sum := "06f2ac7c8e30d421f2cf1cd9619895b4ef6fd97e93336509624c6b984b37bb79", func := "loop.example/g01231/laws.FnExactTimeAlong", spec := "fnExactTimeAlong", inPlace := ["math.sqrt", "math.archFloor", "math.Float64bits", "math.Float64frombits", "math.archTrunc"], apart := false, narrowed := true }
def FnExactTimeAlongUptoSaid : Prop := fnExactTimeAlongUptoRow.holds Try.pinned (OpenSpec.upto fnExactTimeAlongSpec)

/-- 'laws.FnExactTimesAlong', WHERE WHAT IT READS IS OF BULK AT MOST 1048576: true; the input reads as it did. -/
def fnExactTimesAlongUptoRow : OpenClaim := { program := "ytmhfnchpkeeckab", sum := "06f2ac7c8e30d421f2cf1cd9619895b4ef6fd97e93336509624c6b984b37bb79", func := "loop.example/g01231/laws.FnExactTimesAlong", spec := "fnExactTimesAlong", inPlace := ["math.sqrt", "math.archFloor", "math.Float64bits", "math.Float64frombits", "math.archTrunc", "(*sync.WaitGroup).Add", "internal/race.ReleaseMerge", "internal/race.Disable", "internal/race.Enable", "internal/synctest.IsInBubble", "internal/synctest.Associate[sync.WaitGroup]", "sync.fatal", "sync/atomic.OrUint64", "sync/atomic.AddUint64", "internal/race.Read", "sync/atomic.LoadUint64", "sync/atomic.StoreUint64", "internal/synctest.Disassociate[sync.WaitGroup]", "sync.runtime_Semrelease", "(*sync.WaitGroup).Done", "(*sync.WaitGroup).Wait", "internal/race.Acquire", "internal/synctest.IsAssociated[sync.WaitGroup]", "sync/atomic.CompareAndSwapUint64", "internal/race.Write", "sync.runtime_SemacquireWaitGroup"], unfollowed := true, recurses := true, leaving := true, apart := false, narrowed := true }
def FnExactTimesAlongUptoSaid : Prop := fnExactTimesAlongUptoRow.holds Try.pinned (OpenSpec.upto fnExactTimesAlongSpec)

/-- 'laws.FnExactPullPath', WHERE WHAT IT READS IS OF BULK AT MOST 1048576: true; the input reads as it did. -/
def fnExactPullPathUptoRow : OpenClaim := { program := "ytmhfnchpkeeckab", sum := "06f2ac7c8e30d421f2cf1cd9619895b4ef6fd97e93336509624c6b984b37bb79", func := "loop.example/g01231/laws.FnExactPullPath", spec := "fnExactPullPath", inPlace := ["math.sqrt", "math.archFloor", "math.Float64bits", "math.Float64frombits", "math.archTrunc", "(*sync.WaitGroup).Add", "internal/race.ReleaseMerge", "internal/race.Disable", "internal/race.Enable", "internal/synctest.IsInBubble", "internal/synctest.Associate[sync.WaitGroup]", "sync.fatal", "sync/atomic.OrUint64", "sync/atomic.AddUint64", "internal/race.Read", "sync/atomic.LoadUint64", "sync/atomic.StoreUint64", "internal/synctest.Disassociate[sync.WaitGroup]", "sync.runtime_Semrelease", "(*sync.WaitGroup).Done", "(*sync.WaitGroup).Wait", "internal/race.Acquire", "internal/synctest.IsAssociated[sync.WaitGroup]", "sync/atomic.CompareAndSwapUint64", "internal/race.Write", "sync.runtime_SemacquireWaitGroup"], unfollowed := true, recurses := true, leaving := true, apart := false, narrowed := true }
def FnExactPullPathUptoSaid : Prop := fnExactPullPathUptoRow.holds Try.pinned (OpenSpec.upto fnExactPullPathSpec)

/-- 'laws.FnExactPullPaths', WHERE WHAT IT READS IS OF BULK AT MOST 1048576: true; the input reads as it did. -/
def fnExactPullPathsUptoRow : OpenClaim := { program := "ytmhfnchpkeeckab", sum := "06f2ac7c8e30d421f2cf1cd9619895b4ef6fd97e93336509624c6b984b37bb79", func := "loop.example/g01231/laws.FnExactPullPaths", spec := "fnExactPullPaths", inPlace := ["math.sqrt", "math.archFloor", "math.Float64bits", "math.Float64frombits", "math.archTrunc", "(*sync.WaitGroup).Add", "internal/race.ReleaseMerge", "internal/race.Disable", "internal/race.Enable", "internal/synctest.IsInBubble", "internal/synctest.Associate[sync.WaitGroup]", "sync.fatal", "sync/atomic.OrUint64", "sync/atomic.AddUint64", "internal/race.Read", "sync/atomic.LoadUint64", "sync/atomic.StoreUint64", "internal/synctest.Disassociate[sync.WaitGroup]", "sync.runtime_Semrelease", "(*sync.WaitGroup).Done", "(*sync.WaitGroup).Wait", "internal/race.Acquire", "internal/synctest.IsAssociated[sync.WaitGroup]", "sync/atomic.CompareAndSwapUint64", "internal/race.Write", "sync.runtime_SemacquireWaitGroup"], unfollowed := true, recurses := true, leaving := true, apart := false, narrowed := true }
def FnExactPullPathsUptoSaid : Prop := fnExactPullPathsUptoRow.holds Try.pinned (OpenSpec.upto fnExactPullPathsSpec)

/-- 'laws.FnExactOffTimes', WHERE WHAT IT READS IS OF BULK AT MOST 1048576: true; the input reads as it did. -/
def fnExactOffTimesUptoRow : OpenClaim := { program := "ytmhfnchpkeeckab", sum := "06f2ac7c8e30d421f2cf1cd9619895b4ef6fd97e93336509624c6b984b37bb79", func := "loop.example/g01231/laws.FnExactOffTimes", spec := "fnExactOffTimes", inPlace := ["math.sqrt", "math.archFloor", "math.Float64bits", "math.Float64frombits", "math.archTrunc", "(*sync.WaitGroup).Add", "internal/race.ReleaseMerge", "internal/race.Disable", "internal/race.Enable", "internal/synctest.IsInBubble", "internal/synctest.Associate[sync.WaitGroup]", "sync.fatal", "sync/atomic.OrUint64", "sync/atomic.AddUint64", "internal/race.Read", "sync/atomic.LoadUint64", "sync/atomic.StoreUint64", "internal/synctest.Disassociate[sync.WaitGroup]", "sync.runtime_Semrelease", "(*sync.WaitGroup).Done", "(*sync.WaitGroup).Wait", "internal/race.Acquire", "internal/synctest.IsAssociated[sync.WaitGroup]", "sync/atomic.CompareAndSwapUint64", "internal/race.Write", "sync.runtime_SemacquireWaitGroup"], unfollowed := true, recurses := true, leaving := true, apart := false, narrowed := true }
def FnExactOffTimesUptoSaid : Prop := fnExactOffTimesUptoRow.holds Try.pinned (OpenSpec.upto fnExactOffTimesSpec)

/-- 'laws.FnExactHitsOf', WHERE WHAT IT READS IS OF BULK AT MOST 1048576: true; the input reads as it did. -/
def fnExactHitsOfUptoRow : OpenClaim := { program := "ytmhfnchpkeeckab", sum := "06f2ac7c8e30d421f2cf1cd9619895b4ef6fd97e93336509624c6b984b37bb79", func := "loop.example/g01231/laws.FnExactHitsOf", spec := "fnExactHitsOf", inPlace := ["math.archFloor", "math.Float64bits", "math.Float64frombits", "math.archTrunc", "(*sync.WaitGroup).Add", "internal/race.ReleaseMerge", "internal/race.Disable", "internal/race.Enable", "internal/synctest.IsInBubble", "internal/synctest.Associate[sync.WaitGroup]", "sync.fatal", "sync/atomic.OrUint64", "sync/atomic.AddUint64", "internal/race.Read", "sync/atomic.LoadUint64", "sync/atomic.StoreUint64", "internal/synctest.Disassociate[sync.WaitGroup]", "sync.runtime_Semrelease", "(*sync.WaitGroup).Done", "(*sync.WaitGroup).Wait", "internal/race.Acquire", "internal/synctest.IsAssociated[sync.WaitGroup]", "sync/atomic.CompareAndSwapUint64", "internal/race.Write", "sync.runtime_SemacquireWaitGroup"], unfollowed := true, recurses := true, leaving := true, apart := false, narrowed := true }
def FnExactHitsOfUptoSaid : Prop := fnExactHitsOfUptoRow.holds Try.pinned (OpenSpec.upto fnExactHitsOfSpec)

/-- 'laws.FnExactAddTraces', WHERE WHAT IT READS IS OF BULK AT MOST 1048576: true; the input reads as it did. -/
def fnExactAddTracesUptoRow : OpenClaim := { program := "ytmhfnchpkeeckab", sum := "06f2ac7c8e30d421f2cf1cd9619895b4ef6fd97e93336509624c6b984b37bb79", func := "loop.example/g01231/laws.FnExactAddTraces", spec := "fnExactAddTraces", unfollowed := true, recurses := true, leaving := true, apart := false, narrowed := true }
def FnExactAddTracesUptoSaid : Prop := fnExactAddTracesUptoRow.holds Try.pinned (OpenSpec.upto fnExactAddTracesSpec)

/-- 'laws.FnExactLessTraces', WHERE WHAT IT READS IS OF BULK AT MOST 1048576: true; the input reads as it did. -/
def fnExactLessTracesUptoRow : OpenClaim := { program := "ytmhfnchpkeeckab", sum := "06f2ac7c8e30d421f2cf1cd9619895b4ef6fd97e93336509624c6b984b37bb79", func := "loop.example/g01231/laws.FnExactLessTraces", spec := "fnExactLessTraces", unfollowed := true, recurses := true, leaving := true, apart := false, narrowed := true }
def FnExactLessTracesUptoSaid : Prop := fnExactLessTracesUptoRow.holds Try.pinned (OpenSpec.upto fnExactLessTracesSpec)

/-- 'laws.FnExactScaleTrace', WHERE WHAT IT READS IS OF BULK AT MOST 1048576: true; the input reads as it did. -/
def fnExactScaleTraceUptoRow : OpenClaim := { program := "ytmhfnchpkeeckab", sum := "06f2ac7c8e30d421f2cf1cd9619895b4ef6fd97e93336509624c6b984b37bb79", func := "loop.example/g01231/laws.FnExactScaleTrace", spec := "fnExactScaleTrace", apart := false, narrowed := true }
def FnExactScaleTraceUptoSaid : Prop := fnExactScaleTraceUptoRow.holds Try.pinned (OpenSpec.upto fnExactScaleTraceSpec)

end Rows
end Go.Proofs.Ytmhfnchpkeeckab
