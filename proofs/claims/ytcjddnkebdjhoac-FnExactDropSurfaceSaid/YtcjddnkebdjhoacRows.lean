/-
  No cell of these rows narrows 'for every input' (looked for: loops, veiled, ifaces, maps, wideKeys, modest, calm, conditions, laid).
  DERIVED. THE GIVEN ROWS OF THIS SEAT. 12 by the template 'for every input the law returns true; each argument reads behind the call as it read before'; 0 by the template 'total and deterministic' (their statements: YtcjddnkebdjhoacTotals.lean).
  GIVEN WITH THE SEED: the statements are not yours to turn. If you find one false, say at which input.
  Laid BY PROGRAM, IN A SANDBOX (cutbox-rows.mjs): the forced cells as the released guide's own fill.sh prints them over the translation 1d7a47f9457bf2c2… (all of the seat's roots in one cut). By AI agents, Wed Nov 11 2026. No macro, syntax, notation, axiom, sorry.
-/
import Derived.Test.YtcjddnkebdjhoacChecked
import GoSem.Claim
import GoSem.ClaimJoined
import GoSem.ClaimMapViews
import Derived.JoinedTies
import Derived.KernelRfl
namespace Go.Proofs.Ytcjddnkebdjhoac
/- THE CELL 'sum', in the pinned program and in every row, IS THE sha256 OF THE DUMP (.gsa) THAT YtcjddnkebdjhoacProg.lean LOADS. Nothing in Lean hashes anything: it is a label: what it is worth is what the hold of that sum in a sandbox is worth. -/
noncomputable def Try.pinned : Pinned := { name := "ytcjddnkebdjhoac", sum := "1d7a47f9457bf2c29751ed053a9e59816c6c90ec2e2c2bfc9b1e9ad9428951b3", checked := Try.checked }
namespace Rows
def none {H : Type} : Left H := { results := [], args := [] }

/-- 'laws.FnTraces': WHATEVER THE INPUT: true; the input reads as it did. -/
def fnTracesSpec : ChangeSpec := { name := "fnTraces", fn := fun _ => fun
  | [d1, d2] => { results := [.lit (.bool true)], args := [d1, d2] }
  | _ => none }
def fnTracesRow : OpenClaim := { program := "ytcjddnkebdjhoac", sum := "1d7a47f9457bf2c29751ed053a9e59816c6c90ec2e2c2bfc9b1e9ad9428951b3", func := "loop.example/g01231/laws.FnTraces", spec := "fnTraces", inPlace := ["math.Float32bits", "math.Float64bits", "math.Float64frombits"], unfollowed := true, recurses := true, apart := false }
def FnTracesSaid : Prop := fnTracesRow.holds Try.pinned (OpenSpec.ofChange fnTracesSpec)

/-- ITS FALSE NEIGHBOUR: 'it returns false'. Refute it at one input. -/
def fnTracesWrong : ChangeSpec := { name := "fnTraces", fn := fun _ => fun
  | [d1, d2] => { results := [.lit (.bool false)], args := [d1, d2] }
  | _ => none }
def FnTracesWrongFalsely : Prop := fnTracesRow.holds Try.pinned (OpenSpec.ofChange fnTracesWrong)

/-- 'laws.FnSolved': WHATEVER THE INPUT: true; the input reads as it did. -/
def fnSolvedSpec : ChangeSpec := { name := "fnSolved", fn := fun _ => fun
  | [d1, d2] => { results := [.lit (.bool true)], args := [d1, d2] }
  | _ => none }
def fnSolvedRow : OpenClaim := { program := "ytcjddnkebdjhoac", sum := "1d7a47f9457bf2c29751ed053a9e59816c6c90ec2e2c2bfc9b1e9ad9428951b3", func := "loop.example/g01231/laws.FnSolved", spec := "fnSolved", inPlace := ["math.Float64bits", "math.Float64frombits"], unfollowed := true, recurses := true, apart := false }
def FnSolvedSaid : Prop := fnSolvedRow.holds Try.pinned (OpenSpec.ofChange fnSolvedSpec)

/-- ITS FALSE NEIGHBOUR: 'it returns false'. Refute it at one input. -/
def fnSolvedWrong : ChangeSpec := { name := "fnSolved", fn := fun _ => fun
  | [d1, d2] => { results := [.lit (.bool false)], args := [d1, d2] }
  | _ => none }
def FnSolvedWrongFalsely : Prop := fnSolvedRow.holds Try.pinned (OpenSpec.ofChange fnSolvedWrong)

/-- 'laws.FnPredicted': WHATEVER THE INPUT: true; the input reads as it did. -/
def fnPredictedSpec : ChangeSpec := { name := "fnPredicted", fn := fun _ => fun
  | [d1, d2] => { results := [.lit (.bool true)], args := [d1, d2] }
  | _ => none }
def fnPredictedRow : OpenClaim := { program := "ytcjddnkebdjhoac", sum := "1d7a47f9457bf2c29751ed053a9e59816c6c90ec2e2c2bfc9b1e9ad9428951b3", func := "loop.example/g01231/laws.FnPredicted", spec := "fnPredicted", inPlace := ["math.Float64bits", "math.Float64frombits", "math.Float32bits"], unfollowed := true, recurses := true, apart := false }
def FnPredictedSaid : Prop := fnPredictedRow.holds Try.pinned (OpenSpec.ofChange fnPredictedSpec)

/-- ITS FALSE NEIGHBOUR: 'it returns false'. Refute it at one input. -/
def fnPredictedWrong : ChangeSpec := { name := "fnPredicted", fn := fun _ => fun
  | [d1, d2] => { results := [.lit (.bool false)], args := [d1, d2] }
  | _ => none }
def FnPredictedWrongFalsely : Prop := fnPredictedRow.holds Try.pinned (OpenSpec.ofChange fnPredictedWrong)

/-- 'laws.FnShaped': WHATEVER THE INPUT: true; the input reads as it did. -/
def fnShapedSpec : ChangeSpec := { name := "fnShaped", fn := fun _ => fun
  | [d1, d2] => { results := [.lit (.bool true)], args := [d1, d2] }
  | _ => none }
def fnShapedRow : OpenClaim := { program := "ytcjddnkebdjhoac", sum := "1d7a47f9457bf2c29751ed053a9e59816c6c90ec2e2c2bfc9b1e9ad9428951b3", func := "loop.example/g01231/laws.FnShaped", spec := "fnShaped", inPlace := ["math.Float64bits", "math.Float64frombits", "math.Float32bits"], unfollowed := true, recurses := true, apart := false }
def FnShapedSaid : Prop := fnShapedRow.holds Try.pinned (OpenSpec.ofChange fnShapedSpec)

/-- ITS FALSE NEIGHBOUR: 'it returns false'. Refute it at one input. -/
def fnShapedWrong : ChangeSpec := { name := "fnShaped", fn := fun _ => fun
  | [d1, d2] => { results := [.lit (.bool false)], args := [d1, d2] }
  | _ => none }
def FnShapedWrongFalsely : Prop := fnShapedRow.holds Try.pinned (OpenSpec.ofChange fnShapedWrong)

/-- 'laws.FnFilters': WHATEVER THE INPUT: true; the input reads as it did. -/
def fnFiltersSpec : ChangeSpec := { name := "fnFilters", fn := fun _ => fun
  | [d1, d2] => { results := [.lit (.bool true)], args := [d1, d2] }
  | _ => none }
def fnFiltersRow : OpenClaim := { program := "ytcjddnkebdjhoac", sum := "1d7a47f9457bf2c29751ed053a9e59816c6c90ec2e2c2bfc9b1e9ad9428951b3", func := "loop.example/g01231/laws.FnFilters", spec := "fnFilters", inPlace := ["math.Float64frombits", "math.Float64bits", "math.Float32frombits", "math.sqrt"], unfollowed := true, recurses := true, apart := false }
def FnFiltersSaid : Prop := fnFiltersRow.holds Try.pinned (OpenSpec.ofChange fnFiltersSpec)

/-- ITS FALSE NEIGHBOUR: 'it returns false'. Refute it at one input. -/
def fnFiltersWrong : ChangeSpec := { name := "fnFilters", fn := fun _ => fun
  | [d1, d2] => { results := [.lit (.bool false)], args := [d1, d2] }
  | _ => none }
def FnFiltersWrongFalsely : Prop := fnFiltersRow.holds Try.pinned (OpenSpec.ofChange fnFiltersWrong)

/-- 'laws.FnPicks': WHATEVER THE INPUT: true; the input reads as it did. -/
def fnPicksSpec : ChangeSpec := { name := "fnPicks", fn := fun _ => fun
  | [d1, d2] => { results := [.lit (.bool true)], args := [d1, d2] }
  | _ => none }
def fnPicksRow : OpenClaim := { program := "ytcjddnkebdjhoac", sum := "1d7a47f9457bf2c29751ed053a9e59816c6c90ec2e2c2bfc9b1e9ad9428951b3", func := "loop.example/g01231/laws.FnPicks", spec := "fnPicks", inPlace := ["math.Float64bits", "math.Float64frombits"], unfollowed := true, recurses := true, apart := false }
def FnPicksSaid : Prop := fnPicksRow.holds Try.pinned (OpenSpec.ofChange fnPicksSpec)

/-- ITS FALSE NEIGHBOUR: 'it returns false'. Refute it at one input. -/
def fnPicksWrong : ChangeSpec := { name := "fnPicks", fn := fun _ => fun
  | [d1, d2] => { results := [.lit (.bool false)], args := [d1, d2] }
  | _ => none }
def FnPicksWrongFalsely : Prop := fnPicksRow.holds Try.pinned (OpenSpec.ofChange fnPicksWrong)

/-- 'laws.FnExactFoldTraces': WHATEVER THE INPUT: true; the input reads as it did. -/
def fnExactFoldTracesSpec : ChangeSpec := { name := "fnExactFoldTraces", fn := fun _ => fun
  | [d1, d2] => { results := [.lit (.bool true)], args := [d1, d2] }
  | _ => none }
def fnExactFoldTracesRow : OpenClaim := { program := "ytcjddnkebdjhoac", sum := "1d7a47f9457bf2c29751ed053a9e59816c6c90ec2e2c2bfc9b1e9ad9428951b3", func := "loop.example/g01231/laws.FnExactFoldTraces", spec := "fnExactFoldTraces", unfollowed := true, recurses := true, apart := false }
def FnExactFoldTracesSaid : Prop := fnExactFoldTracesRow.holds Try.pinned (OpenSpec.ofChange fnExactFoldTracesSpec)

/-- ITS FALSE NEIGHBOUR: 'it returns false'. Refute it at one input. -/
def fnExactFoldTracesWrong : ChangeSpec := { name := "fnExactFoldTraces", fn := fun _ => fun
  | [d1, d2] => { results := [.lit (.bool false)], args := [d1, d2] }
  | _ => none }
def FnExactFoldTracesWrongFalsely : Prop := fnExactFoldTracesRow.holds Try.pinned (OpenSpec.ofChange fnExactFoldTracesWrong)

/-- 'laws.FnExactFoldAbout': WHATEVER THE INPUT: true; the input reads as it did. -/
def fnExactFoldAboutSpec : ChangeSpec := { name := "fnExactFoldAbout", fn := fun _ => fun
  | [d1, d2] => { results := [.lit (.bool true)], args := [d1, d2] }
  | _ => none }
def fnExactFoldAboutRow : OpenClaim := { program := "ytcjddnkebdjhoac", sum := "1d7a47f9457bf2c29751ed053a9e59816c6c90ec2e2c2bfc9b1e9ad9428951b3", func := "loop.example/g01231/laws.FnExactFoldAbout", spec := "fnExactFoldAbout", unfollowed := true, recurses := true, apart := false }
def FnExactFoldAboutSaid : Prop := fnExactFoldAboutRow.holds Try.pinned (OpenSpec.ofChange fnExactFoldAboutSpec)

/-- ITS FALSE NEIGHBOUR: 'it returns false'. Refute it at one input. -/
def fnExactFoldAboutWrong : ChangeSpec := { name := "fnExactFoldAbout", fn := fun _ => fun
  | [d1, d2] => { results := [.lit (.bool false)], args := [d1, d2] }
  | _ => none }
def FnExactFoldAboutWrongFalsely : Prop := fnExactFoldAboutRow.holds Try.pinned (OpenSpec.ofChange fnExactFoldAboutWrong)

/-- 'laws.FnExactAddSurface': WHATEVER THE INPUT: true; the input reads as it did. -/
def fnExactAddSurfaceSpec : ChangeSpec := { name := "fnExactAddSurface", fn := fun _ => fun
  | [d1, d2] => { results := [.lit (.bool true)], args := [d1, d2] }
  | _ => none }
def fnExactAddSurfaceRow : OpenClaim := { program := "ytcjddnkebdjhoac", sum := "1d7a47f9457bf2c29751ed053a9e59816c6c90ec2e2c2bfc9b1e9ad9428951b3", func := "loop.example/g01231/laws.FnExactAddSurface", spec := "fnExactAddSurface", unfollowed := true, recurses := true, apart := false }
def FnExactAddSurfaceSaid : Prop := fnExactAddSurfaceRow.holds Try.pinned (OpenSpec.ofChange fnExactAddSurfaceSpec)

/-- ITS FALSE NEIGHBOUR: 'it returns false'. Refute it at one input. -/
def fnExactAddSurfaceWrong : ChangeSpec := { name := "fnExactAddSurface", fn := fun _ => fun
  | [d1, d2] => { results := [.lit (.bool false)], args := [d1, d2] }
  | _ => none }
def FnExactAddSurfaceWrongFalsely : Prop := fnExactAddSurfaceRow.holds Try.pinned (OpenSpec.ofChange fnExactAddSurfaceWrong)

/-- 'laws.FnExactDropSurface': WHATEVER THE INPUT: true; the input reads as it did. -/
def fnExactDropSurfaceSpec : ChangeSpec := { name := "fnExactDropSurface", fn := fun _ => fun
  | [d1, d2] => { results := [.lit (.bool true)], args := [d1, d2] }
  | _ => none }
def fnExactDropSurfaceRow : OpenClaim := { program := "ytcjddnkebdjhoac", sum := "1d7a47f9457bf2c29751ed053a9e59816c6c90ec2e2c2bfc9b1e9ad9428951b3", func := "loop.example/g01231/laws.FnExactDropSurface", spec := "fnExactDropSurface", unfollowed := true, recurses := true, apart := false }
def FnExactDropSurfaceSaid : Prop := fnExactDropSurfaceRow.holds Try.pinned (OpenSpec.ofChange fnExactDropSurfaceSpec)

/-- ITS FALSE NEIGHBOUR: 'it returns false'. Refute it at one input. -/
def fnExactDropSurfaceWrong : ChangeSpec := { name := "fnExactDropSurface", fn := fun _ => fun
  | [d1, d2] => { results := [.lit (.bool false)], args := [d1, d2] }
  | _ => none }
def FnExactDropSurfaceWrongFalsely : Prop := fnExactDropSurfaceRow.holds Try.pinned (OpenSpec.ofChange fnExactDropSurfaceWrong)

/-- 'laws.FnExactShiftsOf': WHATEVER THE INPUT: true; the input reads as it did. -/
def fnExactShiftsOfSpec : ChangeSpec := { name := "fnExactShiftsOf", fn := fun _ => fun
  | [d1, d2, d3] => { results := [.lit (.bool true)], args := [d1, d2, d3] }
  | _ => none }
def fnExactShiftsOfRow : OpenClaim := { program := "ytcjddnkebdjhoac", sum := "1d7a47f9457bf2c29751ed053a9e59816c6c90ec2e2c2bfc9b1e9ad9428951b3", func := "loop.example/g01231/laws.FnExactShiftsOf", spec := "fnExactShiftsOf", inPlace := ["math.Float64bits", "math.Float64frombits"], unfollowed := true, recurses := true, apart := false }
def FnExactShiftsOfSaid : Prop := fnExactShiftsOfRow.holds Try.pinned (OpenSpec.ofChange fnExactShiftsOfSpec)

/-- ITS FALSE NEIGHBOUR: 'it returns false'. Refute it at one input. -/
def fnExactShiftsOfWrong : ChangeSpec := { name := "fnExactShiftsOf", fn := fun _ => fun
  | [d1, d2, d3] => { results := [.lit (.bool false)], args := [d1, d2, d3] }
  | _ => none }
def FnExactShiftsOfWrongFalsely : Prop := fnExactShiftsOfRow.holds Try.pinned (OpenSpec.ofChange fnExactShiftsOfWrong)

/-- 'laws.FnExactFlatGather': WHATEVER THE INPUT: true; the input reads as it did. -/
def fnExactFlatGatherSpec : ChangeSpec := { name := "fnExactFlatGather", fn := fun _ => fun
  | [d1, d2] => { results := [.lit (.bool true)], args := [d1, d2] }
  | _ => none }
def fnExactFlatGatherRow : OpenClaim := { program := "ytcjddnkebdjhoac", sum := "1d7a47f9457bf2c29751ed053a9e59816c6c90ec2e2c2bfc9b1e9ad9428951b3", func := "loop.example/g01231/laws.FnExactFlatGather", spec := "fnExactFlatGather", inPlace := ["math.Float64bits", "math.Float64frombits"], apart := false }
def FnExactFlatGatherSaid : Prop := fnExactFlatGatherRow.holds Try.pinned (OpenSpec.ofChange fnExactFlatGatherSpec)

/-- ITS FALSE NEIGHBOUR: 'it returns false'. Refute it at one input. -/
def fnExactFlatGatherWrong : ChangeSpec := { name := "fnExactFlatGather", fn := fun _ => fun
  | [d1, d2] => { results := [.lit (.bool false)], args := [d1, d2] }
  | _ => none }
def FnExactFlatGatherWrongFalsely : Prop := fnExactFlatGatherRow.holds Try.pinned (OpenSpec.ofChange fnExactFlatGatherWrong)

/- THE SECOND FORM. 'bulk': how many values and letters a reading holds, each counted each time it is reached (what is shared counts as often as it is met; a slice's spare places count too). A statement '..UptoSaid' is the law's where the arguments, and the package variables that the reading takes, are together of bulk at most 1048576: NARROWER than '..Said'. Prove '..Said' where nothing that the law and all that it calls make is longer than what came in: it says more and counts as full. Else prove '..UptoSaid'. A law counts once. -/
mutual
def uptoBulk {H : Type} : DataW H → Nat
  | .lit (.string bytes) => bytes.length + 1
  | .lit _ => 1
  | .nil => 1
  | .ptr d => uptoBulk d + 1
  | .slice elems spare => uptoBulkAll elems + uptoBulkAll spare + 1
  | .agg parts => uptoBulkAll parts + 1
  | .iface _ d => uptoBulk d + 1
  | .map entries => uptoBulkEntries entries + 1
  | .held _ => 1
def uptoBulkAll {H : Type} : List (DataW H) → Nat
  | [] => 0
  | d :: r => uptoBulk d + uptoBulkAll r
def uptoBulkEntries {H : Type} : List (Lit × DataW H) → Nat
  | [] => 0
  | x :: r => uptoBulkEntry x + uptoBulkEntries r
def uptoBulkEntry {H : Type} : Lit × DataW H → Nat
  | (.string bytes, d) => bytes.length + uptoBulk d + 1
  | (_, d) => uptoBulk d + 1
 end
def uptoSmall : (H : Type) → List (DataW H) → Bool := fun _ ds => decide (uptoBulkAll ds ≤ 1048576)
def OpenSpec.upto (s : _root_.Go.ChangeSpec) : _root_.Go.OpenSpec := { _root_.Go.OpenSpec.ofChange s with cond := some uptoSmall }

/-- 'laws.FnTraces', WHERE WHAT IT READS IS OF BULK AT MOST 1048576: true; the input reads as it did. -/
def fnTracesUptoRow : OpenClaim := { program := "ytcjddnkebdjhoac", sum := "1d7a47f9457bf2c29751ed053a9e59816c6c90ec2e2c2bfc9b1e9ad9428951b3", func := "loop.example/g01231/laws.FnTraces", spec := "fnTraces", inPlace := ["math.Float32bits", "math.Float64bits", "math.Float64frombits"], unfollowed := true, recurses := true, apart := false, narrowed := true }
def FnTracesUptoSaid : Prop := fnTracesUptoRow.holds Try.pinned (OpenSpec.upto fnTracesSpec)

/-- 'laws.FnSolved', WHERE WHAT IT READS IS OF BULK AT MOST 1048576: true; the input reads as it did. -/
def fnSolvedUptoRow : OpenClaim := { program := "ytcjddnkebdjhoac", sum := "1d7a47f9457bf2c29751ed053a9e59816c6c90ec2e2c2bfc9b1e9ad9428951b3", func := "loop.example/g01231/laws.FnSolved", spec := "fnSolved", inPlace := ["math.Float64bits", "math.Float64frombits"], unfollowed := true, recurses := true, apart := false, narrowed := true }
def FnSolvedUptoSaid : Prop := fnSolvedUptoRow.holds Try.pinned (OpenSpec.upto fnSolvedSpec)

/-- 'laws.FnPredicted', WHERE WHAT IT READS IS OF BULK AT MOST 1048576: true; the input reads as it did. -/
def fnPredictedUptoRow : OpenClaim := { program := "ytcjddnkebdjhoac", sum := "1d7a47f9457bf2c29751ed053a9e59816c6c90ec2e2c2bfc9b1e9ad9428951b3", func := "loop.example/g01231/laws.FnPredicted", spec := "fnPredicted", inPlace := ["math.Float64bits", "math.Float64frombits", "math.Float32bits"], unfollowed := true, recurses := true, apart := false, narrowed := true }
def FnPredictedUptoSaid : Prop := fnPredictedUptoRow.holds Try.pinned (OpenSpec.upto fnPredictedSpec)

/-- 'laws.FnShaped', WHERE WHAT IT READS IS OF BULK AT MOST 1048576: true; the input reads as it did. -/
def fnShapedUptoRow : OpenClaim := { program := "ytcjddnkebdjhoac", sum := "1d7a47f9457bf2c29751ed053a9e59816c6c90ec2e2c2bfc9b1e9ad9428951b3", func := "loop.example/g01231/laws.FnShaped", spec := "fnShaped", inPlace := ["math.Float64bits", "math.Float64frombits", "math.Float32bits"], unfollowed := true, recurses := true, apart := false, narrowed := true }
def FnShapedUptoSaid : Prop := fnShapedUptoRow.holds Try.pinned (OpenSpec.upto fnShapedSpec)

/-- 'laws.FnFilters', WHERE WHAT IT READS IS OF BULK AT MOST 1048576: true; the input reads as it did. -/
def fnFiltersUptoRow : OpenClaim := { program := "ytcjddnkebdjhoac", sum := "1d7a47f9457bf2c29751ed053a9e59816c6c90ec2e2c2bfc9b1e9ad9428951b3", func := "loop.example/g01231/laws.FnFilters", spec := "fnFilters", inPlace := ["math.Float64frombits", "math.Float64bits", "math.Float32frombits", "math.sqrt"], unfollowed := true, recurses := true, apart := false, narrowed := true }
def FnFiltersUptoSaid : Prop := fnFiltersUptoRow.holds Try.pinned (OpenSpec.upto fnFiltersSpec)

/-- 'laws.FnPicks', WHERE WHAT IT READS IS OF BULK AT MOST 1048576: true; the input reads as it did. -/
def fnPicksUptoRow : OpenClaim := { program := "ytcjddnkebdjhoac", sum := "1d7a47f9457bf2c29751ed053a9e59816c6c90ec2e2c2bfc9b1e9ad9428951b3", func := "loop.example/g01231/laws.FnPicks", spec := "fnPicks", inPlace := ["math.Float64bits", "math.Float64frombits"], unfollowed := true, recurses := true, apart := false, narrowed := true }
def FnPicksUptoSaid : Prop := fnPicksUptoRow.holds Try.pinned (OpenSpec.upto fnPicksSpec)

/-- 'laws.FnExactFoldTraces', WHERE WHAT IT READS IS OF BULK AT MOST 1048576: true; the input reads as it did. -/
def fnExactFoldTracesUptoRow : OpenClaim := { program := "ytcjddnkebdjhoac", sum := "1d7a47f9457bf2c29751ed053a9e59816c6c90ec2e2c2bfc9b1e9ad9428951b3", func := "loop.example/g01231/laws.FnExactFoldTraces", spec := "fnExactFoldTraces", unfollowed := true, recurses := true, apart := false, narrowed := true }
def FnExactFoldTracesUptoSaid : Prop := fnExactFoldTracesUptoRow.holds Try.pinned (OpenSpec.upto fnExactFoldTracesSpec)

/-- 'laws.FnExactFoldAbout', WHERE WHAT IT READS IS OF BULK AT MOST 1048576: true; the input reads as it did. -/
def fnExactFoldAboutUptoRow : OpenClaim := { program := "ytcjddnkebdjhoac", sum := "1d7a47f9457bf2c29751ed053a9e59816c6c90ec2e2c2bfc9b1e9ad9428951b3", func := "loop.example/g01231/laws.FnExactFoldAbout", spec := "fnExactFoldAbout", unfollowed := true, recurses := true, apart := false, narrowed := true }
def FnExactFoldAboutUptoSaid : Prop := fnExactFoldAboutUptoRow.holds Try.pinned (OpenSpec.upto fnExactFoldAboutSpec)

/-- 'laws.FnExactAddSurface', WHERE WHAT IT READS IS OF BULK AT MOST 1048576: true; the input reads as it did. -/
def fnExactAddSurfaceUptoRow : OpenClaim := { program := "ytcjddnkebdjhoac", sum := "1d7a47f9457bf2c29751ed053a9e59816c6c90ec2e2c2bfc9b1e9ad9428951b3", func := "loop.example/g01231/laws.FnExactAddSurface", spec := "fnExactAddSurface", unfollowed := true, recurses := true, apart := false, narrowed := true }
def FnExactAddSurfaceUptoSaid : Prop := fnExactAddSurfaceUptoRow.holds Try.pinned (OpenSpec.upto fnExactAddSurfaceSpec)

/-- 'laws.FnExactDropSurface', WHERE WHAT IT READS IS OF BULK AT MOST 1048576: true; the input reads as it did. -/
def fnExactDropSurfaceUptoRow : OpenClaim := { program := "ytcjddnkebdjhoac", sum := "1d7a47f9457bf2c29751ed053a9e59816c6c90ec2e2c2bfc9b1e9ad9428951b3", func := "loop.example/g01231/laws.FnExactDropSurface", spec := "fnExactDropSurface", unfollowed := true, recurses := true, apart := false, narrowed := true }
def FnExactDropSurfaceUptoSaid : Prop := fnExactDropSurfaceUptoRow.holds Try.pinned (OpenSpec.upto fnExactDropSurfaceSpec)

/-- 'laws.FnExactShiftsOf', WHERE WHAT IT READS IS OF BULK AT MOST 1048576: true; the input reads as it did. -/
def fnExactShiftsOfUptoRow : OpenClaim := { program := "ytcjddnkebdjhoac", sum := "1d7a47f9457bf2c29751ed053a9e59816c6c90ec2e2c2bfc9b1e9ad9428951b3", func := "loop.example/g01231/laws.FnExactShiftsOf", spec := "fnExactShiftsOf", inPlace := ["math.Float64bits", "math.Float64frombits"], unfollowed := true, recurses := true, apart := false, narrowed := true }
def FnExactShiftsOfUptoSaid : Prop := fnExactShiftsOfUptoRow.holds Try.pinned (OpenSpec.upto fnExactShiftsOfSpec)

/-- 'laws.FnExactFlatGather', WHERE WHAT IT READS IS OF BULK AT MOST 1048576: true; the input reads as it did. -/
def fnExactFlatGatherUptoRow : OpenClaim := { program := "ytcjddnkebdjhoac", sum := "1d7a47f9457bf2c29751ed053a9e59816c6c90ec2e2c2bfc9b1e9ad9428951b3", func := "loop.example/g01231/laws.FnExactFlatGather", spec := "fnExactFlatGather", inPlace := ["math.Float64bits", "math.Float64frombits"], apart := false, narrowed := true }
def FnExactFlatGatherUptoSaid : Prop := fnExactFlatGatherUptoRow.holds Try.pinned (OpenSpec.upto fnExactFlatGatherSpec)

end Rows
end Go.Proofs.Ytcjddnkebdjhoac
