/-
  No cell of these rows narrows 'for every input' (looked for: loops, veiled, ifaces, maps, wideKeys, modest, calm, conditions, laid).
  DERIVED. THE GIVEN ROWS OF THIS SEAT. 12 by the template 'for every input the law returns true; each argument reads behind the call as it read before'; 0 by the template 'total and deterministic' (their statements: YthgmkipifolbfacTotals.lean).
  GIVEN WITH THE SEED: the statements are not yours to turn. If you find one false, say at which input.
  Laid BY PROGRAM, IN A SANDBOX (cutbox-rows.mjs): the forced cells as the released guide's own fill.sh prints them over the translation a9fdfb2cce4f0e43… (all of the seat's roots in one cut). By AI agents, Wed Nov 11 2026. No macro, syntax, notation, axiom, sorry.
-/
import Derived.Test.YthgmkipifolbfacChecked
import GoSem.Claim
import GoSem.ClaimJoined
import GoSem.ClaimMapViews
import Derived.JoinedTies
import Derived.KernelRfl
namespace Go.Proofs.Ythgmkipifolbfac
/- THE CELL 'sum', in the pinned program and in every row, IS THE sha256 OF THE DUMP (.gsa) THAT YthgmkipifolbfacProg.lean LOADS. Nothing in Lean hashes anything: it is a label: what it is worth is what the hold of that sum in a sandbox is worth. -/
noncomputable def Try.pinned : Pinned := { name := "ythgmkipifolbfac", sum := "a9fdfb2cce4f0e43cda86d04542f3835cccda449b977aff900d29a7cf7ba822b", checked := Try.checked }
namespace Rows
def none {H : Type} : Left H := { results := [], args := [] }

/-- 'laws.FnExactPhasorOf': WHATEVER THE INPUT: true; the input reads as it did. -/
def fnExactPhasorOfSpec : ChangeSpec := { name := "fnExactPhasorOf", fn := fun _ => fun
  | [d] => { results := [.lit (.bool true)], args := [d] }
  | _ => none }
def fnExactPhasorOfRow : OpenClaim := { program := "ythgmkipifolbfac", sum := "a9fdfb2cce4f0e43cda86d04542f3835cccda449b977aff900d29a7cf7ba822b", func := "loop.example/g01231/laws.FnExactPhasorOf", spec := "fnExactPhasorOf", inPlace := ["math.Float32frombits", "math.Float64frombits", "math.Float64bits"], apart := false }
def FnExactPhasorOfSaid : Prop := fnExactPhasorOfRow.holds Try.pinned (OpenSpec.ofChange fnExactPhasorOfSpec)

/-- ITS FALSE NEIGHBOUR: 'it returns false'. Refute it at one input. -/
def fnExactPhasorOfWrong : ChangeSpec := { name := "fnExactPhasorOf", fn := fun _ => fun
  | [d] => { results := [.lit (.bool false)], args := [d] }
  | _ => none }
def FnExactPhasorOfWrongFalsely : Prop := fnExactPhasorOfRow.holds Try.pinned (OpenSpec.ofChange fnExactPhasorOfWrong)

/-- 'laws.FnExactSpectrumAt': WHATEVER THE INPUT: true; the input reads as it did. -/
def fnExactSpectrumAtSpec : ChangeSpec := { name := "fnExactSpectrumAt", fn := fun _ => fun
  | [d1, d2] => { results := [.lit (.bool true)], args := [d1, d2] }
  | _ => none }
def fnExactSpectrumAtRow : OpenClaim := { program := "ythgmkipifolbfac", sum := "a9fdfb2cce4f0e43cda86d04542f3835cccda449b977aff900d29a7cf7ba822b", func := "loop.example/g01231/laws.FnExactSpectrumAt", spec := "fnExactSpectrumAt", inPlace := ["math.Float32frombits", "math.Float64frombits", "math.Float64bits"], apart := false }
def FnExactSpectrumAtSaid : Prop := fnExactSpectrumAtRow.holds Try.pinned (OpenSpec.ofChange fnExactSpectrumAtSpec)

/-- ITS FALSE NEIGHBOUR: 'it returns false'. Refute it at one input. -/
def fnExactSpectrumAtWrong : ChangeSpec := { name := "fnExactSpectrumAt", fn := fun _ => fun
  | [d1, d2] => { results := [.lit (.bool false)], args := [d1, d2] }
  | _ => none }
def FnExactSpectrumAtWrongFalsely : Prop := fnExactSpectrumAtRow.holds Try.pinned (OpenSpec.ofChange fnExactSpectrumAtWrong)

/-- 'laws.FnExactSpectrumOfTrace': WHATEVER THE INPUT: true; the input reads as it did. -/
def fnExactSpectrumOfTraceSpec : ChangeSpec := { name := "fnExactSpectrumOfTrace", fn := fun _ => fun
  | [d1, d2] => { results := [.lit (.bool true)], args := [d1, d2] }
  | _ => none }
def fnExactSpectrumOfTraceRow : OpenClaim := { program := "ythgmkipifolbfac", sum := "a9fdfb2cce4f0e43cda86d04542f3835cccda449b977aff900d29a7cf7ba822b", func := "loop.example/g01231/laws.FnExactSpectrumOfTrace", spec := "fnExactSpectrumOfTrace", inPlace := ["math.Float32frombits", "math.Float64frombits", "math.Float64bits"], apart := false }
def FnExactSpectrumOfTraceSaid : Prop := fnExactSpectrumOfTraceRow.holds Try.pinned (OpenSpec.ofChange fnExactSpectrumOfTraceSpec)

/-- ITS FALSE NEIGHBOUR: 'it returns false'. Refute it at one input. -/
def fnExactSpectrumOfTraceWrong : ChangeSpec := { name := "fnExactSpectrumOfTrace", fn := fun _ => fun
  | [d1, d2] => { results := [.lit (.bool false)], args := [d1, d2] }
  | _ => none }
def FnExactSpectrumOfTraceWrongFalsely : Prop := fnExactSpectrumOfTraceRow.holds Try.pinned (OpenSpec.ofChange fnExactSpectrumOfTraceWrong)

/-- 'laws.FnExactReflectAngle': WHATEVER THE INPUT: true; the input reads as it did. -/
def fnExactReflectAngleSpec : ChangeSpec := { name := "fnExactReflectAngle", fn := fun _ => fun
  | [d1, d2, d3] => { results := [.lit (.bool true)], args := [d1, d2, d3] }
  | _ => none }
def fnExactReflectAngleRow : OpenClaim := { program := "ythgmkipifolbfac", sum := "a9fdfb2cce4f0e43cda86d04542f3835cccda449b977aff900d29a7cf7ba822b", func := "loop.example/g01231/laws.FnExactReflectAngle", spec := "fnExactReflectAngle", inPlace := ["math.sqrt", "math.Float64bits", "math.Float64frombits"], apart := false }
def FnExactReflectAngleSaid : Prop := fnExactReflectAngleRow.holds Try.pinned (OpenSpec.ofChange fnExactReflectAngleSpec)

/-- ITS FALSE NEIGHBOUR: 'it returns false'. Refute it at one input. -/
def fnExactReflectAngleWrong : ChangeSpec := { name := "fnExactReflectAngle", fn := fun _ => fun
  | [d1, d2, d3] => { results := [.lit (.bool false)], args := [d1, d2, d3] }
  | _ => none }
def FnExactReflectAngleWrongFalsely : Prop := fnExactReflectAngleRow.holds Try.pinned (OpenSpec.ofChange fnExactReflectAngleWrong)

/-- 'laws.FnExactPassAngle': WHATEVER THE INPUT: true; the input reads as it did. -/
def fnExactPassAngleSpec : ChangeSpec := { name := "fnExactPassAngle", fn := fun _ => fun
  | [d1, d2, d3] => { results := [.lit (.bool true)], args := [d1, d2, d3] }
  | _ => none }
def fnExactPassAngleRow : OpenClaim := { program := "ythgmkipifolbfac", sum := "a9fdfb2cce4f0e43cda86d04542f3835cccda449b977aff900d29a7cf7ba822b", func := "loop.example/g01231/laws.FnExactPassAngle", spec := "fnExactPassAngle", inPlace := ["math.sqrt", "math.Float64bits", "math.Float64frombits"], apart := false }
def FnExactPassAngleSaid : Prop := fnExactPassAngleRow.holds Try.pinned (OpenSpec.ofChange fnExactPassAngleSpec)

/-- ITS FALSE NEIGHBOUR: 'it returns false'. Refute it at one input. -/
def fnExactPassAngleWrong : ChangeSpec := { name := "fnExactPassAngle", fn := fun _ => fun
  | [d1, d2, d3] => { results := [.lit (.bool false)], args := [d1, d2, d3] }
  | _ => none }
def FnExactPassAngleWrongFalsely : Prop := fnExactPassAngleRow.holds Try.pinned (OpenSpec.ofChange fnExactPassAngleWrong)

/-- 'laws.FnExactTenthsOf': WHATEVER THE INPUT: true; the input reads as it did. -/
def fnExactTenthsOfSpec : ChangeSpec := { name := "fnExactTenthsOf", fn := fun _ => fun
  | [d] => { results := [.lit (.bool true)], args := [d] }
  | _ => none }
def fnExactTenthsOfRow : OpenClaim := { program := "ythgmkipifolbfac", sum := "a9fdfb2cce4f0e43cda86d04542f3835cccda449b977aff900d29a7cf7ba822b", func := "loop.example/g01231/laws.FnExactTenthsOf", spec := "fnExactTenthsOf", inPlace := ["math.Float64frombits", "math.Float64bits", "math.archFloor", "math.archTrunc"], apart := false }
def FnExactTenthsOfSaid : Prop := fnExactTenthsOfRow.holds Try.pinned (OpenSpec.ofChange fnExactTenthsOfSpec)

/-- ITS FALSE NEIGHBOUR: 'it returns false'. Refute it at one input. -/
def fnExactTenthsOfWrong : ChangeSpec := { name := "fnExactTenthsOf", fn := fun _ => fun
  | [d] => { results := [.lit (.bool false)], args := [d] }
  | _ => none }
def FnExactTenthsOfWrongFalsely : Prop := fnExactTenthsOfRow.holds Try.pinned (OpenSpec.ofChange fnExactTenthsOfWrong)

/-- 'laws.FnExactSameGround': WHATEVER THE INPUT: true; the input reads as it did. -/
def fnExactSameGroundSpec : ChangeSpec := { name := "fnExactSameGround", fn := fun _ => fun
  | [d1, d2] => { results := [.lit (.bool true)], args := [d1, d2] }
  | _ => none }
def fnExactSameGroundRow : OpenClaim := { program := "ythgmkipifolbfac", sum := "a9fdfb2cce4f0e43cda86d04542f3835cccda449b977aff900d29a7cf7ba822b", func := "loop.example/g01231/laws.FnExactSameGround", spec := "fnExactSameGround", inPlace := ["math.Float32bits"], apart := false }
def FnExactSameGroundSaid : Prop := fnExactSameGroundRow.holds Try.pinned (OpenSpec.ofChange fnExactSameGroundSpec)

/-- ITS FALSE NEIGHBOUR: 'it returns false'. Refute it at one input. -/
def fnExactSameGroundWrong : ChangeSpec := { name := "fnExactSameGround", fn := fun _ => fun
  | [d1, d2] => { results := [.lit (.bool false)], args := [d1, d2] }
  | _ => none }
def FnExactSameGroundWrongFalsely : Prop := fnExactSameGroundRow.holds Try.pinned (OpenSpec.ofChange fnExactSameGroundWrong)

/-- 'laws.FnSpectra': WHATEVER THE INPUT: true; the input reads as it did. -/
def fnSpectraSpec : ChangeSpec := { name := "fnSpectra", fn := fun _ => fun
  | [d1, d2] => { results := [.lit (.bool true)], args := [d1, d2] }
  | _ => none }
def fnSpectraRow : OpenClaim := { program := "ythgmkipifolbfac", sum := "a9fdfb2cce4f0e43cda86d04542f3835cccda449b977aff900d29a7cf7ba822b", func := "loop.example/g01231/laws.FnSpectra", spec := "fnSpectra", inPlace := ["math.Float64bits", "math.Float64frombits", "math.Float32frombits", "math.sqrt"], apart := false }
def FnSpectraSaid : Prop := fnSpectraRow.holds Try.pinned (OpenSpec.ofChange fnSpectraSpec)

/-- ITS FALSE NEIGHBOUR: 'it returns false'. Refute it at one input. -/
def fnSpectraWrong : ChangeSpec := { name := "fnSpectra", fn := fun _ => fun
  | [d1, d2] => { results := [.lit (.bool false)], args := [d1, d2] }
  | _ => none }
def FnSpectraWrongFalsely : Prop := fnSpectraRow.holds Try.pinned (OpenSpec.ofChange fnSpectraWrong)

/-- 'laws.FnPeeled': WHATEVER THE INPUT: true; the input reads as it did. -/
def fnPeeledSpec : ChangeSpec := { name := "fnPeeled", fn := fun _ => fun
  | [d1, d2] => { results := [.lit (.bool true)], args := [d1, d2] }
  | _ => none }
def fnPeeledRow : OpenClaim := { program := "ythgmkipifolbfac", sum := "a9fdfb2cce4f0e43cda86d04542f3835cccda449b977aff900d29a7cf7ba822b", func := "loop.example/g01231/laws.FnPeeled", spec := "fnPeeled", inPlace := ["math.Float64bits", "math.Float64frombits"], unfollowed := true, recurses := true, apart := false }
def FnPeeledSaid : Prop := fnPeeledRow.holds Try.pinned (OpenSpec.ofChange fnPeeledSpec)

/-- ITS FALSE NEIGHBOUR: 'it returns false'. Refute it at one input. -/
def fnPeeledWrong : ChangeSpec := { name := "fnPeeled", fn := fun _ => fun
  | [d1, d2] => { results := [.lit (.bool false)], args := [d1, d2] }
  | _ => none }
def FnPeeledWrongFalsely : Prop := fnPeeledRow.holds Try.pinned (OpenSpec.ofChange fnPeeledWrong)

/-- 'laws.FnSurfaces': WHATEVER THE INPUT: true; the input reads as it did. -/
def fnSurfacesSpec : ChangeSpec := { name := "fnSurfaces", fn := fun _ => fun
  | [d1, d2] => { results := [.lit (.bool true)], args := [d1, d2] }
  | _ => none }
def fnSurfacesRow : OpenClaim := { program := "ythgmkipifolbfac", sum := "a9fdfb2cce4f0e43cda86d04542f3835cccda449b977aff900d29a7cf7ba822b", func := "loop.example/g01231/laws.FnSurfaces", spec := "fnSurfaces", unfollowed := true, recurses := true, apart := false }
def FnSurfacesSaid : Prop := fnSurfacesRow.holds Try.pinned (OpenSpec.ofChange fnSurfacesSpec)

/-- ITS FALSE NEIGHBOUR: 'it returns false'. Refute it at one input. -/
def fnSurfacesWrong : ChangeSpec := { name := "fnSurfaces", fn := fun _ => fun
  | [d1, d2] => { results := [.lit (.bool false)], args := [d1, d2] }
  | _ => none }
def FnSurfacesWrongFalsely : Prop := fnSurfacesRow.holds Try.pinned (OpenSpec.ofChange fnSurfacesWrong)

/-- 'laws.FnDots': WHATEVER THE INPUT: true; the input reads as it did. -/
def fnDotsSpec : ChangeSpec := { name := "fnDots", fn := fun _ => fun
  | [d1, d2] => { results := [.lit (.bool true)], args := [d1, d2] }
  | _ => none }
def fnDotsRow : OpenClaim := { program := "ythgmkipifolbfac", sum := "a9fdfb2cce4f0e43cda86d04542f3835cccda449b977aff900d29a7cf7ba822b", func := "loop.example/g01231/laws.FnDots", spec := "fnDots", inPlace := ["math.Float32frombits", "math.Float32bits"], unfollowed := true, recurses := true, apart := false }
def FnDotsSaid : Prop := fnDotsRow.holds Try.pinned (OpenSpec.ofChange fnDotsSpec)

/-- ITS FALSE NEIGHBOUR: 'it returns false'. Refute it at one input. -/
def fnDotsWrong : ChangeSpec := { name := "fnDots", fn := fun _ => fun
  | [d1, d2] => { results := [.lit (.bool false)], args := [d1, d2] }
  | _ => none }
def FnDotsWrongFalsely : Prop := fnDotsRow.holds Try.pinned (OpenSpec.ofChange fnDotsWrong)

/-- 'laws.FnBoundaries': WHATEVER THE INPUT: true; the input reads as it did. -/
def fnBoundariesSpec : ChangeSpec := { name := "fnBoundaries", fn := fun _ => fun
  | [d1, d2] => { results := [.lit (.bool true)], args := [d1, d2] }
  | _ => none }
def fnBoundariesRow : OpenClaim := { program := "ythgmkipifolbfac", sum := "a9fdfb2cce4f0e43cda86d04542f3835cccda449b977aff900d29a7cf7ba822b", func := "loop.example/g01231/laws.FnBoundaries", spec := "fnBoundaries", inPlace := ["math.Float64bits", "math.Float64frombits", "math.sqrt"], apart := false }
def FnBoundariesSaid : Prop := fnBoundariesRow.holds Try.pinned (OpenSpec.ofChange fnBoundariesSpec)

/-- ITS FALSE NEIGHBOUR: 'it returns false'. Refute it at one input. -/
def fnBoundariesWrong : ChangeSpec := { name := "fnBoundaries", fn := fun _ => fun
  | [d1, d2] => { results := [.lit (.bool false)], args := [d1, d2] }
  | _ => none }
def FnBoundariesWrongFalsely : Prop := fnBoundariesRow.holds Try.pinned (OpenSpec.ofChange fnBoundariesWrong)

/- THE SECOND FORM. 'bulk': how many values and letters a reading holds, each counted each time it is reached (what is shared counts as often as it is met; a slice's spare places count too). A statement '..UptoSaid' is the law's where the arguments, and the package variables that the reading takes, are together of bulk at most 1048576: NARROWER than '..Said'. Prove '..Said' where nothing that the law and all that it calls make is longer than what came in: it says more and counts as full. Else prove '..UptoSaid'. A law counts once. -/
mutual
def uptoBulk {H : Type} : DataW H → Nat
  | .lit (.string bytes) => bytes.length + 1
  | .lit _ => 1
  | .nil => 1
  | .ptr d => uptoBulk d + 1
  | .slice elems spare => uptoBulkAll elems + uptoBulkAll spare + 1
  | .agg parts => uptoBulkAll parts + 1
  | .iface _ d => uptoBulk d + 1
  | .map entries => uptoBulkEntries entries + 1
  | .held _ => 1
def uptoBulkAll {H : Type} : List (DataW H) → Nat
  | [] => 0
  | d :: r => uptoBulk d + uptoBulkAll r
def uptoBulkEntries {H : Type} : List (Lit × DataW H) → Nat
  | [] => 0
  | x :: r => uptoBulkEntry x + uptoBulkEntries r
def uptoBulkEntry {H : Type} : Lit × DataW H → Nat
  | (.string bytes, d) => bytes.length + uptoBulk d + 1
  | (_, d) => uptoBulk d + 1
 end
def uptoSmall : (H : Type) → List (DataW H) → Bool := fun _ ds => decide (uptoBulkAll ds ≤ 1048576)
def OpenSpec.upto (s : _root_.Go.ChangeSpec) : _root_.Go.OpenSpec := { _root_.Go.OpenSpec.ofChange s with cond := some uptoSmall }

/-- 'laws.FnExactPhasorOf', WHERE WHAT IT READS IS OF BULK AT MOST 1048576: true; the input reads as it did. -/
def fnExactPhasorOfUptoRow : OpenClaim := { program := "ythgmkipifolbfac", sum := "a9fdfb2cce4f0e43cda86d04542f3835cccda449b977aff900d29a7cf7ba822b", func := "loop.example/g01231/laws.FnExactPhasorOf", spec := "fnExactPhasorOf", inPlace := ["math.Float32frombits", "math.Float64frombits", "math.Float64bits"], apart := false, narrowed := true }
def FnExactPhasorOfUptoSaid : Prop := fnExactPhasorOfUptoRow.holds Try.pinned (OpenSpec.upto fnExactPhasorOfSpec)

/-- 'laws.FnExactSpectrumAt', WHERE WHAT IT READS IS OF BULK AT MOST 1048576: true; the input reads as it did. -/
def fnExactSpectrumAtUptoRow : OpenClaim := { program := "ythgmkipifolbfac", sum := "a9fdfb2cce4f0e43cda86d04542f3835cccda449b977aff900d29a7cf7ba822b", func := "loop.example/g01231/laws.FnExactSpectrumAt", spec := "fnExactSpectrumAt", inPlace := ["math.Float32frombits", "math.Float64frombits", "math.Float64bits"], apart := false, narrowed := true }
def FnExactSpectrumAtUptoSaid : Prop := fnExactSpectrumAtUptoRow.holds Try.pinned (OpenSpec.upto fnExactSpectrumAtSpec)

/-- 'laws.FnExactSpectrumOfTrace', WHERE WHAT IT READS IS OF BULK AT MOST 1048576: true; the input reads as it did. -/
def fnExactSpectrumOfTraceUptoRow : OpenClaim := { program := "ythgmkipifolbfac", sum := "a9fdfb2cce4f0e43cda86d04542f3835cccda449b977aff900d29a7cf7ba822b", func := "loop.example/g01231/laws.FnExactSpectrumOfTrace", spec := "fnExactSpectrumOfTrace", inPlace := ["math.Float32frombits", "math.Float64frombits", "math.Float64bits"], apart := false, narrowed := true }
def FnExactSpectrumOfTraceUptoSaid : Prop := fnExactSpectrumOfTraceUptoRow.holds Try.pinned (OpenSpec.upto fnExactSpectrumOfTraceSpec)

/-- 'laws.FnExactReflectAngle', WHERE WHAT IT READS IS OF BULK AT MOST 1048576: true; the input reads as it did. -/
def fnExactReflectAngleUptoRow : OpenClaim := { program := "ythgmkipifolbfac", sum := "a9fdfb2cce4f0e43cda86d04542f3835cccda449b977aff900d29a7cf7ba822b", func := "loop.example/g01231/laws.FnExactReflectAngle", spec := "fnExactReflectAngle", inPlace := ["math.sqrt", "math.Float64bits", "math.Float64frombits"], apart := false, narrowed := true }
def FnExactReflectAngleUptoSaid : Prop := fnExactReflectAngleUptoRow.holds Try.pinned (OpenSpec.upto fnExactReflectAngleSpec)

/-- 'laws.FnExactPassAngle', WHERE WHAT IT READS IS OF BULK AT MOST 1048576: true; the input reads as it did. -/
def fnExactPassAngleUptoRow : OpenClaim := { program := "ythgmkipifolbfac", sum := "a9fdfb2cce4f0e43cda86d04542f3835cccda449b977aff900d29a7cf7ba822b", func := "loop.example/g01231/laws.FnExactPassAngle", spec := "fnExactPassAngle", inPlace := ["math.sqrt", "math.Float64bits", "math.Float64frombits"], apart := false, narrowed := true }
def FnExactPassAngleUptoSaid : Prop := fnExactPassAngleUptoRow.holds Try.pinned (OpenSpec.upto fnExactPassAngleSpec)

/-- 'laws.FnExactTenthsOf', WHERE WHAT IT READS IS OF BULK AT MOST 1048576: true; the input reads as it did. -/
def fnExactTenthsOfUptoRow : OpenClaim := { program := "ythgmkipifolbfac", sum := "a9fdfb2cce4f0e43cda86d04542f3835cccda449b977aff900d29a7cf7ba822b", func := "loop.example/g01231/laws.FnExactTenthsOf", spec := "fnExactTenthsOf", inPlace := ["math.Float64frombits", "math.Float64bits", "math.archFloor", "math.archTrunc"], apart := false, narrowed := true }
def FnExactTenthsOfUptoSaid : Prop := fnExactTenthsOfUptoRow.holds Try.pinned (OpenSpec.upto fnExactTenthsOfSpec)

/-- 'laws.FnExactSameGround', WHERE WHAT IT READS IS OF BULK AT MOST 1048576: true; the input reads as it did. -/
def fnExactSameGroundUptoRow : OpenClaim := { program := "ythgmkipifolbfac", sum := "a9fdfb2cce4f0e43cda86d04542f3835cccda449b977aff900d29a7cf7ba822b", func := "loop.example/g01231/laws.FnExactSameGround", spec := "fnExactSameGround", inPlace := ["math.Float32bits"], apart := false, narrowed := true }
def FnExactSameGroundUptoSaid : Prop := fnExactSameGroundUptoRow.holds Try.pinned (OpenSpec.upto fnExactSameGroundSpec)

/-- 'laws.FnSpectra', WHERE WHAT IT READS IS OF BULK AT MOST 1048576: true; the input reads as it did. -/
def fnSpectraUptoRow : OpenClaim := { program := "ythgmkipifolbfac", sum := "a9fdfb2cce4f0e43cda86d04542f3835cccda449b977aff900d29a7cf7ba822b", func := "loop.example/g01231/laws.FnSpectra", spec := "fnSpectra", inPlace := ["math.Float64bits", "math.Float64frombits", "math.Float32frombits", "math.sqrt"], apart := false, narrowed := true }
def FnSpectraUptoSaid : Prop := fnSpectraUptoRow.holds Try.pinned (OpenSpec.upto fnSpectraSpec)

/-- 'laws.FnPeeled', WHERE WHAT IT READS IS OF BULK AT MOST 1048576: true; the input reads as it did. -/
def fnPeeledUptoRow : OpenClaim := { program := "ythgmkipifolbfac", sum := "a9fdfb2cce4f0e43cda86d04542f3835cccda449b977aff900d29a7cf7ba822b", func := "loop.example/g01231/laws.FnPeeled", spec := "fnPeeled", inPlace := ["math.Float64bits", "math.Float64frombits"], unfollowed := true, recurses := true, apart := false, narrowed := true }
def FnPeeledUptoSaid : Prop := fnPeeledUptoRow.holds Try.pinned (OpenSpec.upto fnPeeledSpec)

/-- 'laws.FnSurfaces', WHERE WHAT IT READS IS OF BULK AT MOST 1048576: true; the input reads as it did. -/
def fnSurfacesUptoRow : OpenClaim := { program := "ythgmkipifolbfac", sum := "a9fdfb2cce4f0e43cda86d04542f3835cccda449b977aff900d29a7cf7ba822b", func := "loop.example/g01231/laws.FnSurfaces", spec := "fnSurfaces", unfollowed := true, recurses := true, apart := false, narrowed := true }
def FnSurfacesUptoSaid : Prop := fnSurfacesUptoRow.holds Try.pinned (OpenSpec.upto fnSurfacesSpec)

/-- 'laws.FnDots', WHERE WHAT IT READS IS OF BULK AT MOST 1048576: true; the input reads as it did. -/
def fnDotsUptoRow : OpenClaim := { program := "ythgmkipifolbfac", sum := "a9fdfb2cce4f0e43cda86d04542f3835cccda449b977aff900d29a7cf7ba822b", func := "loop.example/g01231/laws.FnDots", spec := "fnDots", inPlace := ["math.Float32frombits", "math.Float32bits"], unfollowed := true, recurses := true, apart := false, narrowed := true }
def FnDotsUptoSaid : Prop := fnDotsUptoRow.holds Try.pinned (OpenSpec.upto fnDotsSpec)

/-- 'laws.FnBoundaries', WHERE WHAT IT READS IS OF BULK AT MOST 1048576: true; the input reads as it did. -/
def fnBoundariesUptoRow : OpenClaim := { program := "ythgmkipifolbfac", sum := "a9fdfb2cce4f0e43cda86d04542f3835cccda449b977aff900d29a7cf7ba822b", func := "loop.example/g01231/laws.FnBoundaries", spec := "fnBoundaries", inPlace := ["math.Float64bits", "math.Float64frombits", "math.sqrt"], apart := false, narrowed := true }
def FnBoundariesUptoSaid : Prop := fnBoundariesUptoRow.holds Try.pinned (OpenSpec.upto fnBoundariesSpec)

end Rows
end Go.Proofs.Ythgmkipifolbfac
