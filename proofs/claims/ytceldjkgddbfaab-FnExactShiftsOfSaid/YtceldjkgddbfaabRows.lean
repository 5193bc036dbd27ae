/-
  No cell of these rows narrows 'for every input' (looked for: loops, veiled, ifaces, maps, wideKeys, modest, calm, conditions, laid).
  DERIVED. THE GIVEN ROWS OF THIS SEAT. 10 by the template 'for every input the law returns true; each argument reads behind the call as it read before'; 0 by the template 'total and deterministic' (their statements: YtceldjkgddbfaabTotals.lean).
  GIVEN WITH THE SEED: the statements are not yours to turn. If you find one false, say at which input.
  Laid BY PROGRAM, IN A SANDBOX (cutbox-rows.mjs): the forced cells as the released guide's own fill.sh prints them over the translation 841aa4d43d2126e5… (all of the seat's roots in one cut). By AI agents, Wed Nov 11 2026. No macro, syntax, notation, axiom, sorry.
-/
import Derived.Test.YtceldjkgddbfaabChecked
import GoSem.Claim
import GoSem.ClaimJoined
import GoSem.ClaimMapViews
import Derived.JoinedTies
import Derived.KernelRfl
namespace Go.Proofs.Ytceldjkgddbfaab
/- THE CELL 'sum', in the pinned program and in every row, IS THE sha256 OF THE DUMP (.gsa) THAT YtceldjkgddbfaabProg.lean LOADS. Nothing in Lean hashes anything: it is a label: what it is worth is what the hold of that sum in a sandbox is worth. -/
noncomputable def Try.pinned : Pinned := { name := "ytceldjkgddbfaab", sum := "841aa4d43d2126e5a32cb665b6545d476d8e01189cd4e09afbd319b923be8af7", checked := Try.checked }
namespace Rows
def none {H : Type} : Left H := { results := [], args := [] }

/-- 'laws.FnExactSolveToeplitz': WHATEVER THE INPUT: true; the input reads as it did. -/
def fnExactSolveToeplitzSpec : ChangeSpec := { name := "fnExactSolveToeplitz", fn := fun _ => fun
  | [d1, d2] => { results := [.lit (.bool true)], args := [d1, d2] }
  | _ => none }
def fnExactSolveToeplitzRow : OpenClaim := { program := "ytceldjkgddbfaab", sum := "841aa4d43d2126e5a32cb665b6545d476d8e01189cd4e09afbd319b923be8af7", func := "loop.example/g01231/laws.FnExactSolveToeplitz", spec := "fnExactSolveToeplitz", unfollowed := true, recurses := true, apart := false }
def FnExactSolveToeplitzSaid : Prop := fnExactSolveToeplitzRow.holds Try.pinned (OpenSpec.ofChange fnExactSolveToeplitzSpec)

/-- ITS FALSE NEIGHBOUR: 'it returns false'. Refute it at one input. -/
def fnExactSolveToeplitzWrong : ChangeSpec := { name := "fnExactSolveToeplitz", fn := fun _ => fun
  | [d1, d2] => { results := [.lit (.bool false)], args := [d1, d2] }
  | _ => none }
def FnExactSolveToeplitzWrongFalsely : Prop := fnExactSolveToeplitzRow.holds Try.pinned (OpenSpec.ofChange fnExactSolveToeplitzWrong)

/-- 'laws.FnExactPredictionOf': WHATEVER THE INPUT: true; the input reads as it did. -/
def fnExactPredictionOfSpec : ChangeSpec := { name := "fnExactPredictionOf", fn := fun _ => fun
  | [d1, d2, d3, d4] => { results := [.lit (.bool true)], args := [d1, d2, d3, d4] }
  | _ => none }
def fnExactPredictionOfRow : OpenClaim := { program := "ytceldjkgddbfaab", sum := "841aa4d43d2126e5a32cb665b6545d476d8e01189cd4e09afbd319b923be8af7", func := "loop.example/g01231/laws.FnExactPredictionOf", spec := "fnExactPredictionOf", inPlace := ["math.Float64bits", "math.Float64frombits"], unfollowed := true, recurses := true, apart := false }
def FnExactPredictionOfSaid : Prop := fnExactPredictionOfRow.holds Try.pinned (OpenSpec.ofChange fnExactPredictionOfSpec)

/-- ITS FALSE NEIGHBOUR: 'it returns false'. Refute it at one input. -/
def fnExactPredictionOfWrong : ChangeSpec := { name := "fnExactPredictionOf", fn := fun _ => fun
  | [d1, d2, d3, d4] => { results := [.lit (.bool false)], args := [d1, d2, d3, d4] }
  | _ => none }
def FnExactPredictionOfWrongFalsely : Prop := fnExactPredictionOfRow.holds Try.pinned (OpenSpec.ofChange fnExactPredictionOfWrong)

/-- 'laws.FnExactDropPredicted': WHATEVER THE INPUT: true; the input reads as it did. -/
def fnExactDropPredictedSpec : ChangeSpec := { name := "fnExactDropPredicted", fn := fun _ => fun
  | [d1, d2, d3, d4] => { results := [.lit (.bool true)], args := [d1, d2, d3, d4] }
  | _ => none }
def fnExactDropPredictedRow : OpenClaim := { program := "ytceldjkgddbfaab", sum := "841aa4d43d2126e5a32cb665b6545d476d8e01189cd4e09afbd319b923be8af7", func := "loop.example/g01231/laws.FnExactDropPredicted", spec := "fnExactDropPredicted", inPlace := ["math.Float64bits", "math.Float64frombits"], unfollowed := true, recurses := true, apart := false }
def FnExactDropPredictedSaid : Prop := fnExactDropPredictedRow.holds Try.pinned (OpenSpec.ofChange fnExactDropPredictedSpec)

/-- ITS FALSE NEIGHBOUR: 'it returns false'. Refute it at one input. -/
def fnExactDropPredictedWrong : ChangeSpec := { name := "fnExactDropPredicted", fn := fun _ => fun
  | [d1, d2, d3, d4] => { results := [.lit (.bool false)], args := [d1, d2, d3, d4] }
  | _ => none }
def FnExactDropPredictedWrongFalsely : Prop := fnExactDropPredictedRow.holds Try.pinned (OpenSpec.ofChange fnExactDropPredictedWrong)

/-- 'laws.FnExactShapeFilter': WHATEVER THE INPUT: true; the input reads as it did. -/
def fnExactShapeFilterSpec : ChangeSpec := { name := "fnExactShapeFilter", fn := fun _ => fun
  | [d1, d2, d3, d4] => { results := [.lit (.bool true)], args := [d1, d2, d3, d4] }
  | _ => none }
def fnExactShapeFilterRow : OpenClaim := { program := "ytceldjkgddbfaab", sum := "841aa4d43d2126e5a32cb665b6545d476d8e01189cd4e09afbd319b923be8af7", func := "loop.example/g01231/laws.FnExactShapeFilter", spec := "fnExactShapeFilter", inPlace := ["math.Float64bits", "math.Float64frombits"], unfollowed := true, recurses := true, apart := false }
def FnExactShapeFilterSaid : Prop := fnExactShapeFilterRow.holds Try.pinned (OpenSpec.ofChange fnExactShapeFilterSpec)

/-- ITS FALSE NEIGHBOUR: 'it returns false'. Refute it at one input. -/
def fnExactShapeFilterWrong : ChangeSpec := { name := "fnExactShapeFilter", fn := fun _ => fun
  | [d1, d2, d3, d4] => { results := [.lit (.bool false)], args := [d1, d2, d3, d4] }
  | _ => none }
def FnExactShapeFilterWrongFalsely : Prop := fnExactShapeFilterRow.holds Try.pinned (OpenSpec.ofChange fnExactShapeFilterWrong)

/-- 'laws.FnExactSpikeFilter': WHATEVER THE INPUT: true; the input reads as it did. -/
def fnExactSpikeFilterSpec : ChangeSpec := { name := "fnExactSpikeFilter", fn := fun _ => fun
  | [d1, d2, d3] => { results := [.lit (.bool true)], args := [d1, d2, d3] }
  | _ => none }
def fnExactSpikeFilterRow : OpenClaim := { program := "ytceldjkgddbfaab", sum := "841aa4d43d2126e5a32cb665b6545d476d8e01189cd4e09afbd319b923be8af7", func := "loop.example/g01231/laws.FnExactSpikeFilter", spec := "fnExactSpikeFilter", inPlace := ["math.Float64bits", "math.Float64frombits"], unfollowed := true, recurses := true, apart := false }
def FnExactSpikeFilterSaid : Prop := fnExactSpikeFilterRow.holds Try.pinned (OpenSpec.ofChange fnExactSpikeFilterSpec)

/-- ITS FALSE NEIGHBOUR: 'it returns false'. Refute it at one input. -/
def fnExactSpikeFilterWrong : ChangeSpec := { name := "fnExactSpikeFilter", fn := fun _ => fun
  | [d1, d2, d3] => { results := [.lit (.bool false)], args := [d1, d2, d3] }
  | _ => none }
def FnExactSpikeFilterWrongFalsely : Prop := fnExactSpikeFilterRow.holds Try.pinned (OpenSpec.ofChange fnExactSpikeFilterWrong)

/-- 'laws.FnExactBestShift': WHATEVER THE INPUT: true; the input reads as it did. -/
def fnExactBestShiftSpec : ChangeSpec := { name := "fnExactBestShift", fn := fun _ => fun
  | [d1, d2, d3] => { results := [.lit (.bool true)], args := [d1, d2, d3] }
  | _ => none }
def fnExactBestShiftRow : OpenClaim := { program := "ytceldjkgddbfaab", sum := "841aa4d43d2126e5a32cb665b6545d476d8e01189cd4e09afbd319b923be8af7", func := "loop.example/g01231/laws.FnExactBestShift", spec := "fnExactBestShift", unfollowed := true, recurses := true, apart := false }
def FnExactBestShiftSaid : Prop := fnExactBestShiftRow.holds Try.pinned (OpenSpec.ofChange fnExactBestShiftSpec)

/-- ITS FALSE NEIGHBOUR: 'it returns false'. Refute it at one input. -/
def fnExactBestShiftWrong : ChangeSpec := { name := "fnExactBestShift", fn := fun _ => fun
  | [d1, d2, d3] => { results := [.lit (.bool false)], args := [d1, d2, d3] }
  | _ => none }
def FnExactBestShiftWrongFalsely : Prop := fnExactBestShiftRow.holds Try.pinned (OpenSpec.ofChange fnExactBestShiftWrong)

/-- 'laws.FnExactShiftsOf': WHATEVER THE INPUT: true; the input reads as it did. -/
def fnExactShiftsOfSpec : ChangeSpec := { name := "fnExactShiftsOf", fn := fun _ => fun
  | [d1, d2, d3] => { results := [.lit (.bool true)], args := [d1, d2, d3] }
  | _ => none }
def fnExactShiftsOfRow : OpenClaim := { program := "ytceldjkgddbfaab", sum := "841aa4d43d2126e5a32cb665b6545d476d8e01189cd4e09afbd319b923be8af7", func := "loop.example/g01231/laws.FnExactShiftsOf", spec := "fnExactShiftsOf", inPlace := ["math.Float64bits", "math.Float64frombits"], unfollowed := true, recurses := true, apart := false }
def FnExactShiftsOfSaid : Prop := fnExactShiftsOfRow.holds Try.pinned (OpenSpec.ofChange fnExactShiftsOfSpec)

/-- ITS FALSE NEIGHBOUR: 'it returns false'. Refute it at one input. -/
def fnExactShiftsOfWrong : ChangeSpec := { name := "fnExactShiftsOf", fn := fun _ => fun
  | [d1, d2, d3] => { results := [.lit (.bool false)], args := [d1, d2, d3] }
  | _ => none }
def FnExactShiftsOfWrongFalsely : Prop := fnExactShiftsOfRow.holds Try.pinned (OpenSpec.ofChange fnExactShiftsOfWrong)

/-- 'laws.FnExactSortGather': WHATEVER THE INPUT: true; the input reads as it did. -/
def fnExactSortGatherSpec : ChangeSpec := { name := "fnExactSortGather", fn := fun _ => fun
  | [d] => { results := [.lit (.bool true)], args := [d] }
  | _ => none }
def fnExactSortGatherRow : OpenClaim := { program := "ytceldjkgddbfaab", sum := "841aa4d43d2126e5a32cb665b6545d476d8e01189cd4e09afbd319b923be8af7", func := "loop.example/g01231/laws.FnExactSortGather", spec := "fnExactSortGather", inPlace := ["math.Float64bits", "math.Float64frombits"], unfollowed := true, recurses := true, apart := false }
def FnExactSortGatherSaid : Prop := fnExactSortGatherRow.holds Try.pinned (OpenSpec.ofChange fnExactSortGatherSpec)

/-- ITS FALSE NEIGHBOUR: 'it returns false'. Refute it at one input. -/
def fnExactSortGatherWrong : ChangeSpec := { name := "fnExactSortGather", fn := fun _ => fun
  | [d] => { results := [.lit (.bool false)], args := [d] }
  | _ => none }
def FnExactSortGatherWrongFalsely : Prop := fnExactSortGatherRow.holds Try.pinned (OpenSpec.ofChange fnExactSortGatherWrong)

/-- 'laws.FnExactSameGround': WHATEVER THE INPUT: true; the input reads as it did. -/
def fnExactSameGroundSpec : ChangeSpec := { name := "fnExactSameGround", fn := fun _ => fun
  | [d1, d2] => { results := [.lit (.bool true)], args := [d1, d2] }
  | _ => none }
def fnExactSameGroundRow : OpenClaim := { program := "ytceldjkgddbfaab", sum := "841aa4d43d2126e5a32cb665b6545d476d8e01189cd4e09afbd319b923be8af7", func := "loop.example/g01231/laws.FnExactSameGround", spec := "fnExactSameGround", inPlace := ["math.Float32bits"], apart := false }
def FnExactSameGroundSaid : Prop := fnExactSameGroundRow.holds Try.pinned (OpenSpec.ofChange fnExactSameGroundSpec)

/-- ITS FALSE NEIGHBOUR: 'it returns false'. Refute it at one input. -/
def fnExactSameGroundWrong : ChangeSpec := { name := "fnExactSameGround", fn := fun _ => fun
  | [d1, d2] => { results := [.lit (.bool false)], args := [d1, d2] }
  | _ => none }
def FnExactSameGroundWrongFalsely : Prop := fnExactSameGroundRow.holds Try.pinned (OpenSpec.ofChange fnExactSameGroundWrong)

/-- 'laws.FnExactTurnGround': WHATEVER THE INPUT: true; the input reads as it did. -/
def fnExactTurnGroundSpec : ChangeSpec := { name := "fnExactTurnGround", fn := fun _ => fun
  | [d1, d2] => { results := [.lit (.bool true)], args := [d1, d2] }
  | _ => none }
def fnExactTurnGroundRow : OpenClaim := { program := "ytceldjkgddbfaab", sum := "841aa4d43d2126e5a32cb665b6545d476d8e01189cd4e09afbd319b923be8af7", func := "loop.example/g01231/laws.FnExactTurnGround", spec := "fnExactTurnGround", inPlace := ["math.Float64bits", "math.Float64frombits"], apart := false }
def FnExactTurnGroundSaid : Prop := fnExactTurnGroundRow.holds Try.pinned (OpenSpec.ofChange fnExactTurnGroundSpec)

/-- ITS FALSE NEIGHBOUR: 'it returns false'. Refute it at one input. -/
def fnExactTurnGroundWrong : ChangeSpec := { name := "fnExactTurnGround", fn := fun _ => fun
  | [d1, d2] => { results := [.lit (.bool false)], args := [d1, d2] }
  | _ => none }
def FnExactTurnGroundWrongFalsely : Prop := fnExactTurnGroundRow.holds Try.pinned (OpenSpec.ofChange fnExactTurnGroundWrong)

/- THE SECOND FORM. 'bulk': how many values and letters a reading holds, each counted each time it is reached (what is shared counts as often as it is met; a slice's spare places count too). A statement '..UptoSaid' is the law's where the arguments, and the package variables that the reading takes, are together of bulk at most 1048576: NARROWER than '..Said'. Prove '..Said' where nothing that the law and all that it calls make is longer than what came in: it says more and counts as full. Else prove '..UptoSaid'. A law counts once. -/
mutual
def uptoBulk {H : Type} : DataW H → Nat
  | .lit (.string bytes) => bytes.length + 1
  | .lit _ => 1
  | .nil => 1
  | .ptr d => uptoBulk d + 1
  | .slice elems spare => uptoBulkAll elems + uptoBulkAll spare + 1
  | .agg parts => uptoBulkAll parts + 1
  | .iface _ d => uptoBulk d + 1
  | .map entries => uptoBulkEntries entries + 1
  | .held _ => 1
def uptoBulkAll {H : Type} : List (DataW H) → Nat
  | [] => 0
  | d :: r => uptoBulk d + uptoBulkAll r
def uptoBulkEntries {H : Type} : List (Lit × DataW H) → Nat
  | [] => 0
  | x :: r => uptoBulkEntry x + uptoBulkEntries r
def uptoBulkEntry {H : Type} : Lit × DataW H → Nat
  | (.string bytes, d) => bytes.length + uptoBulk d + 1
  | (_, d) => uptoBulk d + 1
 end
def uptoSmall : (H : Type) → List (DataW H) → Bool := fun _ ds => decide (uptoBulkAll ds ≤ 1048576)
def OpenSpec.upto (s : _root_.Go.ChangeSpec) : _root_.Go.OpenSpec := { _root_.Go.OpenSpec.ofChange s with cond := some uptoSmall }

/-- 'laws.FnExactSolveToeplitz', WHERE WHAT IT READS IS OF BULK AT MOST 1048576: true; the input reads as it did. -/
def fnExactSolveToeplitzUptoRow : OpenClaim := { program := "ytceldjkgddbfaab", sum := "841aa4d43d2126e5a32cb665b6545d476d8e01189cd4e09afbd319b923be8af7", func := "loop.example/g01231/laws.FnExactSolveToeplitz", spec := "fnExactSolveToeplitz", unfollowed := true, recurses := true, apart := false, narrowed := true }
def FnExactSolveToeplitzUptoSaid : Prop := fnExactSolveToeplitzUptoRow.holds Try.pinned (OpenSpec.upto fnExactSolveToeplitzSpec)

/-- 'laws.FnExactPredictionOf', WHERE WHAT IT READS IS OF BULK AT MOST 1048576: true; the input reads as it did. -/
def fnExactPredictionOfUptoRow : OpenClaim := { program := "ytceldjkgddbfaab", sum := "841aa4d43d2126e5a32cb665b6545d476d8e01189cd4e09afbd319b923be8af7", func := "loop.example/g01231/laws.FnExactPredictionOf", spec := "fnExactPredictionOf", inPlace := ["math.Float64bits", "math.Float64frombits"], unfollowed := true, recurses := true, apart := false, narrowed := true }
def FnExactPredictionOfUptoSaid : Prop := fnExactPredictionOfUptoRow.holds Try.pinned (OpenSpec.upto fnExactPredictionOfSpec)

/-- 'laws.FnExactDropPredicted', WHERE WHAT IT READS IS OF BULK AT MOST 1048576: true; the input reads as it did. -/
def fnExactDropPredictedUptoRow : OpenClaim := { program := "ytceldjkgddbfaab", sum := "841aa4d43d2126e5a32cb665b6545d476d8e01189cd4e09afbd319b923be8af7", func := "loop.example/g01231/laws.FnExactDropPredicted", spec := "fnExactDropPredicted", inPlace := ["math.Float64bits", "math.Float64frombits"], unfollowed := true, recurses := true, apart := false, narrowed := true }
def FnExactDropPredictedUptoSaid : Prop := fnExactDropPredictedUptoRow.holds Try.pinned (OpenSpec.upto fnExactDropPredictedSpec)

/-- 'laws.FnExactShapeFilter', WHERE WHAT IT READS IS OF BULK AT MOST 1048576: true; the input reads as it did. -/
def fnExactShapeFilterUptoRow : OpenClaim := { program := "ytceldjkgddbfaab", sum := "841aa4d43d2126e5a32cb665b6545d476d8e01189cd4e09afbd319b923be8af7", func := "loop.example/g01231/laws.FnExactShapeFilter", spec := "fnExactShapeFilter", inPlace := ["math.Float64bits", "math.Float64frombits"], unfollowed := true, recurses := true, apart := false, narrowed := true }
def FnExactShapeFilterUptoSaid : Prop := fnExactShapeFilterUptoRow.holds Try.pinned (OpenSpec.upto fnExactShapeFilterSpec)

/-- 'laws.FnExactSpikeFilter', WHERE WHAT IT READS IS OF BULK AT MOST 1048576: true; the input reads as it did. -/
def fnExactSpikeFilterUptoRow : OpenClaim := { program := "ytceldjkgddbfaab", sum := "841aa4d43d2126e5a32cb665b6545d476d8e01189cd4e09afbd319b923be8af7", func := "loop.example/g01231/laws.FnExactSpikeFilter", spec := "fnExactSpikeFilter", inPlace := ["math.Float64bits", "math.Float64frombits"], unfollowed := true, recurses := true, apart := false, narrowed := true }
def FnExactSpikeFilterUptoSaid : Prop := fnExactSpikeFilterUptoRow.holds Try.pinned (OpenSpec.upto fnExactSpikeFilterSpec)

/-- 'laws.FnExactBestShift', WHERE WHAT IT READS IS OF BULK AT MOST 1048576: true; the input reads as it did. -/
def fnExactBestShiftUptoRow : OpenClaim := { program := "ytceldjkgddbfaab", sum := "841aa4d43d2126e5a32cb665b6545d476d8e01189cd4e09afbd319b923be8af7", func := "loop.example/g01231/laws.FnExactBestShift", spec := "fnExactBestShift", unfollowed := true, recurses := true, apart := false, narrowed := true }
def FnExactBestShiftUptoSaid : Prop := fnExactBestShiftUptoRow.holds Try.pinned (OpenSpec.upto fnExactBestShiftSpec)

/-- 'laws.FnExactShiftsOf', WHERE WHAT IT READS IS OF BULK AT MOST 1048576: true; the input reads as it did. -/
def fnExactShiftsOfUptoRow : OpenClaim := { program := "ytceldjkgddbfaab", sum := "841aa4d43d2126e5a32cb665b6545d476d8e01189cd4e09afbd319b923be8af7", func := "loop.example/g01231/laws.FnExactShiftsOf", spec := "fnExactShiftsOf", inPlace := ["math.Float64bits", "math.Float64frombits"], unfollowed := true, recurses := true, apart := false, narrowed := true }
def FnExactShiftsOfUptoSaid : Prop := fnExactShiftsOfUptoRow.holds Try.pinned (OpenSpec.upto fnExactShiftsOfSpec)

/-- 'laws.FnExactSortGather', WHERE WHAT IT READS IS OF BULK AT MOST 1048576: true; the input reads as it did. -/
def fnExactSortGatherUptoRow : OpenClaim := { program := "ytceldjkgddbfaab", sum := "841aa4d43d2126e5a32cb665b6545d476d8e01189cd4e09afbd319b923be8af7", func := "loop.example/g01231/laws.FnExactSortGather", spec := "fnExactSortGather", inPlace := ["math.Float64bits", "math.Float64frombits"], unfollowed := true, recurses := true, apart := false, narrowed := true }
def FnExactSortGatherUptoSaid : Prop := fnExactSortGatherUptoRow.holds Try.pinned (OpenSpec.upto fnExactSortGatherSpec)

/-- 'laws.FnExactSameGround', WHERE WHAT IT READS IS OF BULK AT MOST 1048576: true; the input reads as it did. -/
def fnExactSameGroundUptoRow : OpenClaim := { program := "ytceldjkgddbfaab", sum := "841aa4d43d2126e5a32cb665b6545d476d8e01189cd4e09afbd319b923be8af7", func := "loop.example/g01231/laws.FnExactSameGround", spec := "fnExactSameGround", inPlace := ["math.Float32bits"], apart := false, narrowed := true }
def FnExactSameGroundUptoSaid : Prop := fnExactSameGroundUptoRow.holds Try.pinned (OpenSpec.upto fnExactSameGroundSpec)

/-- 'laws.FnExactTurnGround', WHERE WHAT IT READS IS OF BULK AT MOST 1048576: true; the input reads as it did. -/
def fnExactTurnGroundUptoRow : OpenClaim := { program := "ytceldjkgddbfaab", sum := "841aa4d43d2126e5a32cb665b6545d476d8e01189cd4e09afbd319b923be8af7", func := "loop.example/g01231/laws.FnExactTurnGround", spec := "fnExactTurnGround", inPlace := ["math.Float64bits", "math.Float64frombits"], apart := false, narrowed := true }
def FnExactTurnGroundUptoSaid : Prop := fnExactTurnGroundUptoRow.holds Try.pinned (OpenSpec.upto fnExactTurnGroundSpec)

end Rows
end Go.Proofs.Ytceldjkgddbfaab
