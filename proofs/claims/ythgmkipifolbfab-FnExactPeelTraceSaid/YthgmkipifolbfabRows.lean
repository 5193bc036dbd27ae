/-
  No cell of these rows narrows 'for every input' (looked for: loops, veiled, ifaces, maps, wideKeys, modest, calm, conditions, laid).
  DERIVED. THE GIVEN ROWS OF THIS SEAT. 12 by the template 'for every input the law returns true; each argument reads behind the call as it read before'; 0 by the template 'total and deterministic' (their statements: YthgmkipifolbfabTotals.lean).
  GIVEN WITH THE SEED: the statements are not yours to turn. If you find one false, say at which input.
  Laid BY PROGRAM, IN A SANDBOX (cutbox-rows.mjs): the forced cells as the released guide's own fill.sh prints them over the translation 096f7265c7a3882f… (all of the seat's roots in one cut). By AI agents, Wed Nov 11 2026. No macro, syntax, notation, axiom, sorry.
-/
import Derived.Test.YthgmkipifolbfabChecked
import GoSem.Claim
import GoSem.ClaimJoined
import GoSem.ClaimMapViews
import Derived.JoinedTies
import Derived.KernelRfl
namespace Go.Proofs.Ythgmkipifolbfab
/- THE CELL 'sum', in the pinned program and in every row, IS THE sha256 OF THE DUMP (.gsa) THAT YthgmkipifolbfabProg.lean LOADS. Nothing in Lean hashes anything: it is a label: what it is worth is what the hold of that sum in a sandbox is worth. -/
noncomputable def Try.pinned : Pinned := { name := "ythgmkipifolbfab", sum := "096f7265c7a3882f59ccd75b393e4cb507d9a286891d7ee5db8e8859a332f8de", checked := Try.checked }
namespace Rows
def none {H : Type} : Left H := { results := [], args := [] }

/-- 'laws.FnExactAreCoefficients': WHATEVER THE INPUT: true; the input reads as it did. -/
def fnExactAreCoefficientsSpec : ChangeSpec := { name := "fnExactAreCoefficients", fn := fun _ => fun
  | [d] => { results := [.lit (.bool true)], args := [d] }
  | _ => none }
def fnExactAreCoefficientsRow : OpenClaim := { program := "ythgmkipifolbfab", sum := "096f7265c7a3882f59ccd75b393e4cb507d9a286891d7ee5db8e8859a332f8de", func := "loop.example/g01231/laws.FnExactAreCoefficients", spec := "fnExactAreCoefficients", apart := false }
def FnExactAreCoefficientsSaid : Prop := fnExactAreCoefficientsRow.holds Try.pinned (OpenSpec.ofChange fnExactAreCoefficientsSpec)

/-- ITS FALSE NEIGHBOUR: 'it returns false'. Refute it at one input. -/
def fnExactAreCoefficientsWrong : ChangeSpec := { name := "fnExactAreCoefficients", fn := fun _ => fun
  | [d] => { results := [.lit (.bool false)], args := [d] }
  | _ => none }
def FnExactAreCoefficientsWrongFalsely : Prop := fnExactAreCoefficientsRow.holds Try.pinned (OpenSpec.ofChange fnExactAreCoefficientsWrong)

/-- 'laws.FnExactCoefficientsOf': WHATEVER THE INPUT: true; the input reads as it did. -/
def fnExactCoefficientsOfSpec : ChangeSpec := { name := "fnExactCoefficientsOf", fn := fun _ => fun
  | [d] => { results := [.lit (.bool true)], args := [d] }
  | _ => none }
def fnExactCoefficientsOfRow : OpenClaim := { program := "ythgmkipifolbfab", sum := "096f7265c7a3882f59ccd75b393e4cb507d9a286891d7ee5db8e8859a332f8de", func := "loop.example/g01231/laws.FnExactCoefficientsOf", spec := "fnExactCoefficientsOf", inPlace := ["math.Float64bits", "math.Float64frombits"], apart := false }
def FnExactCoefficientsOfSaid : Prop := fnExactCoefficientsOfRow.holds Try.pinned (OpenSpec.ofChange fnExactCoefficientsOfSpec)

/-- ITS FALSE NEIGHBOUR: 'it returns false'. Refute it at one input. -/
def fnExactCoefficientsOfWrong : ChangeSpec := { name := "fnExactCoefficientsOf", fn := fun _ => fun
  | [d] => { results := [.lit (.bool false)], args := [d] }
  | _ => none }
def FnExactCoefficientsOfWrongFalsely : Prop := fnExactCoefficientsOfRow.holds Try.pinned (OpenSpec.ofChange fnExactCoefficientsOfWrong)

/-- 'laws.FnExactHardnessOf': WHATEVER THE INPUT: true; the input reads as it did. -/
def fnExactHardnessOfSpec : ChangeSpec := { name := "fnExactHardnessOf", fn := fun _ => fun
  | [d1, d2] => { results := [.lit (.bool true)], args := [d1, d2] }
  | _ => none }
def fnExactHardnessOfRow : OpenClaim := { program := "ythgmkipifolbfab", sum := "096f7265c7a3882f59ccd75b393e4cb507d9a286891d7ee5db8e8859a332f8de", func := "loop.example/g01231/laws.FnExactHardnessOf", spec := "fnExactHardnessOf", inPlace := ["math.Float64bits", "math.Float64frombits"], apart := false }
def FnExactHardnessOfSaid : Prop := fnExactHardnessOfRow.holds Try.pinned (OpenSpec.ofChange fnExactHardnessOfSpec)

/-- ITS FALSE NEIGHBOUR: 'it returns false'. Refute it at one input. -/
def fnExactHardnessOfWrong : ChangeSpec := { name := "fnExactHardnessOf", fn := fun _ => fun
  | [d1, d2] => { results := [.lit (.bool false)], args := [d1, d2] }
  | _ => none }
def FnExactHardnessOfWrongFalsely : Prop := fnExactHardnessOfRow.holds Try.pinned (OpenSpec.ofChange fnExactHardnessOfWrong)

/-- 'laws.FnExactPrimariesOf': WHATEVER THE INPUT: true; the input reads as it did. -/
def fnExactPrimariesOfSpec : ChangeSpec := { name := "fnExactPrimariesOf", fn := fun _ => fun
  | [d1, d2] => { results := [.lit (.bool true)], args := [d1, d2] }
  | _ => none }
def fnExactPrimariesOfRow : OpenClaim := { program := "ythgmkipifolbfab", sum := "096f7265c7a3882f59ccd75b393e4cb507d9a286891d7ee5db8e8859a332f8de", func := "loop.example/g01231/laws.FnExactPrimariesOf", spec := "fnExactPrimariesOf", apart := false }
def FnExactPrimariesOfSaid : Prop := fnExactPrimariesOfRow.holds Try.pinned (OpenSpec.ofChange fnExactPrimariesOfSpec)

/-- ITS FALSE NEIGHBOUR: 'it returns false'. Refute it at one input. -/
def fnExactPrimariesOfWrong : ChangeSpec := { name := "fnExactPrimariesOf", fn := fun _ => fun
  | [d1, d2] => { results := [.lit (.bool false)], args := [d1, d2] }
  | _ => none }
def FnExactPrimariesOfWrongFalsely : Prop := fnExactPrimariesOfRow.holds Try.pinned (OpenSpec.ofChange fnExactPrimariesOfWrong)

/-- 'laws.FnExactEchoesOf': WHATEVER THE INPUT: true; the input reads as it did. -/
def fnExactEchoesOfSpec : ChangeSpec := { name := "fnExactEchoesOf", fn := fun _ => fun
  | [d1, d2, d3] => { results := [.lit (.bool true)], args := [d1, d2, d3] }
  | _ => none }
def fnExactEchoesOfRow : OpenClaim := { program := "ythgmkipifolbfab", sum := "096f7265c7a3882f59ccd75b393e4cb507d9a286891d7ee5db8e8859a332f8de", func := "loop.example/g01231/laws.FnExactEchoesOf", spec := "fnExactEchoesOf", unfollowed := true, recurses := true, apart := false }
def FnExactEchoesOfSaid : Prop := fnExactEchoesOfRow.holds Try.pinned (OpenSpec.ofChange fnExactEchoesOfSpec)

/-- ITS FALSE NEIGHBOUR: 'it returns false'. Refute it at one input. -/
def fnExactEchoesOfWrong : ChangeSpec := { name := "fnExactEchoesOf", fn := fun _ => fun
  | [d1, d2, d3] => { results := [.lit (.bool false)], args := [d1, d2, d3] }
  | _ => none }
def FnExactEchoesOfWrongFalsely : Prop := fnExactEchoesOfRow.holds Try.pinned (OpenSpec.ofChange fnExactEchoesOfWrong)

/-- 'laws.FnExactPeelTrace': WHATEVER THE INPUT: true; the input reads as it did. -/
def fnExactPeelTraceSpec : ChangeSpec := { name := "fnExactPeelTrace", fn := fun _ => fun
  | [d1, d2, d3] => { results := [.lit (.bool true)], args := [d1, d2, d3] }
  | _ => none }
def fnExactPeelTraceRow : OpenClaim := { program := "ythgmkipifolbfab", sum := "096f7265c7a3882f59ccd75b393e4cb507d9a286891d7ee5db8e8859a332f8de", func := "loop.example/g01231/laws.FnExactPeelTrace", spec := "fnExactPeelTrace", unfollowed := true, recurses := true, apart := false }
def FnExactPeelTraceSaid : Prop := fnExactPeelTraceRow.holds Try.pinned (OpenSpec.ofChange fnExactPeelTraceSpec)

/-- ITS FALSE NEIGHBOUR: 'it returns false'. Refute it at one input. -/
def fnExactPeelTraceWrong : ChangeSpec := { name := "fnExactPeelTrace", fn := fun _ => fun
  | [d1, d2, d3] => { results := [.lit (.bool false)], args := [d1, d2, d3] }
  | _ => none }
def FnExactPeelTraceWrongFalsely : Prop := fnExactPeelTraceRow.holds Try.pinned (OpenSpec.ofChange fnExactPeelTraceWrong)

/-- 'laws.FnExactAddSurface': WHATEVER THE INPUT: true; the input reads as it did. -/
def fnExactAddSurfaceSpec : ChangeSpec := { name := "fnExactAddSurface", fn := fun _ => fun
  | [d1, d2] => { results := [.lit (.bool true)], args := [d1, d2] }
  | _ => none }
def fnExactAddSurfaceRow : OpenClaim := { program := "ythgmkipifolbfab", sum := "096f7265c7a3882f59ccd75b393e4cb507d9a286891d7ee5db8e8859a332f8de", func := "loop.example/g01231/laws.FnExactAddSurface", spec := "fnExactAddSurface", apart := false }
def FnExactAddSurfaceSaid : Prop := fnExactAddSurfaceRow.holds Try.pinned (OpenSpec.ofChange fnExactAddSurfaceSpec)

/-- ITS FALSE NEIGHBOUR: 'it returns false'. Refute it at one input. -/
def fnExactAddSurfaceWrong : ChangeSpec := { name := "fnExactAddSurface", fn := fun _ => fun
  | [d1, d2] => { results := [.lit (.bool false)], args := [d1, d2] }
  | _ => none }
def FnExactAddSurfaceWrongFalsely : Prop := fnExactAddSurfaceRow.holds Try.pinned (OpenSpec.ofChange fnExactAddSurfaceWrong)

/-- 'laws.FnExactDropSurface': WHATEVER THE INPUT: true; the input reads as it did. -/
def fnExactDropSurfaceSpec : ChangeSpec := { name := "fnExactDropSurface", fn := fun _ => fun
  | [d1, d2] => { results := [.lit (.bool true)], args := [d1, d2] }
  | _ => none }
def fnExactDropSurfaceRow : OpenClaim := { program := "ythgmkipifolbfab", sum := "096f7265c7a3882f59ccd75b393e4cb507d9a286891d7ee5db8e8859a332f8de", func := "loop.example/g01231/laws.FnExactDropSurface", spec := "fnExactDropSurface", apart := false }
def FnExactDropSurfaceSaid : Prop := fnExactDropSurfaceRow.holds Try.pinned (OpenSpec.ofChange fnExactDropSurfaceSpec)

/-- ITS FALSE NEIGHBOUR: 'it returns false'. Refute it at one input. -/
def fnExactDropSurfaceWrong : ChangeSpec := { name := "fnExactDropSurface", fn := fun _ => fun
  | [d1, d2] => { results := [.lit (.bool false)], args := [d1, d2] }
  | _ => none }
def FnExactDropSurfaceWrongFalsely : Prop := fnExactDropSurfaceRow.holds Try.pinned (OpenSpec.ofChange fnExactDropSurfaceWrong)

/-- 'laws.FnExactNoiseTrace': WHATEVER THE INPUT: true; the input reads as it did. -/
def fnExactNoiseTraceSpec : ChangeSpec := { name := "fnExactNoiseTrace", fn := fun _ => fun
  | [d1, d2, d3] => { results := [.lit (.bool true)], args := [d1, d2, d3] }
  | _ => none }
def fnExactNoiseTraceRow : OpenClaim := { program := "ythgmkipifolbfab", sum := "096f7265c7a3882f59ccd75b393e4cb507d9a286891d7ee5db8e8859a332f8de", func := "loop.example/g01231/laws.FnExactNoiseTrace", spec := "fnExactNoiseTrace", apart := false }
def FnExactNoiseTraceSaid : Prop := fnExactNoiseTraceRow.holds Try.pinned (OpenSpec.ofChange fnExactNoiseTraceSpec)

/-- ITS FALSE NEIGHBOUR: 'it returns false'. Refute it at one input. -/
def fnExactNoiseTraceWrong : ChangeSpec := { name := "fnExactNoiseTrace", fn := fun _ => fun
  | [d1, d2, d3] => { results := [.lit (.bool false)], args := [d1, d2, d3] }
  | _ => none }
def FnExactNoiseTraceWrongFalsely : Prop := fnExactNoiseTraceRow.holds Try.pinned (OpenSpec.ofChange fnExactNoiseTraceWrong)

/-- 'laws.FnExactWaveletOf': WHATEVER THE INPUT: true; the input reads as it did. -/
def fnExactWaveletOfSpec : ChangeSpec := { name := "fnExactWaveletOf", fn := fun _ => fun
  | [d1, d2] => { results := [.lit (.bool true)], args := [d1, d2] }
  | _ => none }
def fnExactWaveletOfRow : OpenClaim := { program := "ythgmkipifolbfab", sum := "096f7265c7a3882f59ccd75b393e4cb507d9a286891d7ee5db8e8859a332f8de", func := "loop.example/g01231/laws.FnExactWaveletOf", spec := "fnExactWaveletOf", inPlace := ["math.Float64bits", "math.Float64frombits"], apart := false }
def FnExactWaveletOfSaid : Prop := fnExactWaveletOfRow.holds Try.pinned (OpenSpec.ofChange fnExactWaveletOfSpec)

/-- ITS FALSE NEIGHBOUR: 'it returns false'. Refute it at one input. -/
def fnExactWaveletOfWrong : ChangeSpec := { name := "fnExactWaveletOf", fn := fun _ => fun
  | [d1, d2] => { results := [.lit (.bool false)], args := [d1, d2] }
  | _ => none }
def FnExactWaveletOfWrongFalsely : Prop := fnExactWaveletOfRow.holds Try.pinned (OpenSpec.ofChange fnExactWaveletOfWrong)

/-- 'laws.FnExactPeakOfTrace': WHATEVER THE INPUT: true; the input reads as it did. -/
def fnExactPeakOfTraceSpec : ChangeSpec := { name := "fnExactPeakOfTrace", fn := fun _ => fun
  | [d] => { results := [.lit (.bool true)], args := [d] }
  | _ => none }
def fnExactPeakOfTraceRow : OpenClaim := { program := "ythgmkipifolbfab", sum := "096f7265c7a3882f59ccd75b393e4cb507d9a286891d7ee5db8e8859a332f8de", func := "loop.example/g01231/laws.FnExactPeakOfTrace", spec := "fnExactPeakOfTrace", inPlace := ["math.Float64bits", "math.Float64frombits"], apart := false }
def FnExactPeakOfTraceSaid : Prop := fnExactPeakOfTraceRow.holds Try.pinned (OpenSpec.ofChange fnExactPeakOfTraceSpec)

/-- ITS FALSE NEIGHBOUR: 'it returns false'. Refute it at one input. -/
def fnExactPeakOfTraceWrong : ChangeSpec := { name := "fnExactPeakOfTrace", fn := fun _ => fun
  | [d] => { results := [.lit (.bool false)], args := [d] }
  | _ => none }
def FnExactPeakOfTraceWrongFalsely : Prop := fnExactPeakOfTraceRow.holds Try.pinned (OpenSpec.ofChange fnExactPeakOfTraceWrong)

/-- 'laws.FnExactTurnGround': WHATEVER THE INPUT: true; the input reads as it did. -/
def fnExactTurnGroundSpec : ChangeSpec := { name := "fnExactTurnGround", fn := fun _ => fun
  | [d1, d2] => { results := [.lit (.bool true)], args := [d1, d2] }
  | _ => none }
def fnExactTurnGroundRow : OpenClaim := { program := "ythgmkipifolbfab", sum := "096f7265c7a3882f59ccd75b393e4cb507d9a286891d7ee5db8e8859a332f8de", func := "loop.example/g01231/laws.FnExactTurnGround", spec := "fnExactTurnGround", inPlace := ["math.Float64bits", "math.Float64frombits"], apart := false }
def FnExactTurnGroundSaid : Prop := fnExactTurnGroundRow.holds Try.pinned (OpenSpec.ofChange fnExactTurnGroundSpec)

/-- ITS FALSE NEIGHBOUR: 'it returns false'. Refute it at one input. -/
def fnExactTurnGroundWrong : ChangeSpec := { name := "fnExactTurnGround", fn := fun _ => fun
  | [d1, d2] => { results := [.lit (.bool false)], args := [d1, d2] }
  | _ => none }
def FnExactTurnGroundWrongFalsely : Prop := fnExactTurnGroundRow.holds Try.pinned (OpenSpec.ofChange fnExactTurnGroundWrong)

/- THE SECOND FORM. 'bulk': how many values and letters a reading holds, each counted each time it is reached (what is shared counts as often as it is met; a slice's spare places count too). A statement '..UptoSaid' is the law's where the arguments, and the package variables that the reading takes, are together of bulk at most 1048576: NARROWER than '..Said'. Prove '..Said' where nothing that the law and all that it calls make is longer than what came in: it says more and counts as full. Else prove '..UptoSaid'. A law counts once. -/
mutual
def uptoBulk {H : Type} : DataW H → Nat
  | .lit (.string bytes) => bytes.length + 1
  | .lit _ => 1
  | .nil => 1
  | .ptr d => uptoBulk d + 1
  | .slice elems spare => uptoBulkAll elems + uptoBulkAll spare + 1
  | .agg parts => uptoBulkAll parts + 1
  | .iface _ d => uptoBulk d + 1
  | .map entries => uptoBulkEntries entries + 1
  | .held _ => 1
def uptoBulkAll {H : Type} : List (DataW H) → Nat
  | [] => 0
  | d :: r => uptoBulk d + uptoBulkAll r
def uptoBulkEntries {H : Type} : List (Lit × DataW H) → Nat
  | [] => 0
  | x :: r => uptoBulkEntry x + uptoBulkEntries r
def uptoBulkEntry {H : Type} : Lit × DataW H → Nat
  | (.string bytes, d) => bytes.length + uptoBulk d + 1
  | (_, d) => uptoBulk d + 1
 end
def uptoSmall : (H : Type) → List (DataW H) → Bool := fun _ ds => decide (uptoBulkAll ds ≤ 1048576)
def OpenSpec.upto (s : _root_.Go.ChangeSpec) : _root_.Go.OpenSpec := { _root_.Go.OpenSpec.ofChange s with cond := some uptoSmall }

/-- 'laws.FnExactAreCoefficients', WHERE WHAT IT READS IS OF BULK AT MOST 1048576: true; the input reads as it did. -/
def fnExactAreCoefficientsUptoRow : OpenClaim := { program := "ythgmkipifolbfab", sum := "096f7265c7a3882f59ccd75b393e4cb507d9a286891d7ee5db8e8859a332f8de", func := "loop.example/g01231/laws.FnExactAreCoefficients", spec := "fnExactAreCoefficients", apart := false, narrowed := true }
def FnExactAreCoefficientsUptoSaid : Prop := fnExactAreCoefficientsUptoRow.holds Try.pinned (OpenSpec.upto fnExactAreCoefficientsSpec)

/-- 'laws.FnExactCoefficientsOf', WHERE WHAT IT READS IS OF BULK AT MOST 1048576: true; the input reads as it did. -/
def fnExactCoefficientsOfUptoRow : OpenClaim := { program := "ythgmkipifolbfab", sum := "096f7265c7a3882f59ccd75b393e4cb507d9a286891d7ee5db8e8859a332f8de", func := "loop.example/g01231/laws.FnExactCoefficientsOf", spec := "fnExactCoefficientsOf", inPlace := ["math.Float64bits", "math.Float64frombits"], apart := false, narrowed := true }
def FnExactCoefficientsOfUptoSaid : Prop := fnExactCoefficientsOfUptoRow.holds Try.pinned (OpenSpec.upto fnExactCoefficientsOfSpec)

/-- 'laws.FnExactHardnessOf', WHERE WHAT IT READS IS OF BULK AT MOST 1048576: true; the input reads as it did. -/
def fnExactHardnessOfUptoRow : OpenClaim := { program := "ythgmkipifolbfab", sum := "096f7265c7a3882f59ccd75b393e4cb507d9a286891d7ee5db8e8859a332f8de", func := "loop.example/g01231/laws.FnExactHardnessOf", spec := "fnExactHardnessOf", inPlace := ["math.Float64bits", "math.Float64frombits"], apart := false, narrowed := true }
def FnExactHardnessOfUptoSaid : Prop := fnExactHardnessOfUptoRow.holds Try.pinned (OpenSpec.upto fnExactHardnessOfSpec)

/-- 'laws.FnExactPrimariesOf', WHERE WHAT IT READS IS OF BULK AT MOST 1048576: true; the input reads as it did. -/
def fnExactPrimariesOfUptoRow : OpenClaim := { program := "ythgmkipifolbfab", sum := "096f7265c7a3882f59ccd75b393e4cb507d9a286891d7ee5db8e8859a332f8de", func := "loop.example/g01231/laws.FnExactPrimariesOf", spec := "fnExactPrimariesOf", apart := false, narrowed := true }
def FnExactPrimariesOfUptoSaid : Prop := fnExactPrimariesOfUptoRow.holds Try.pinned (OpenSpec.upto fnExactPrimariesOfSpec)

/-- 'laws.FnExactEchoesOf', WHERE WHAT IT READS IS OF BULK AT MOST 1048576: true; the input reads as it did. -/
def fnExactEchoesOfUptoRow : OpenClaim := { program := "ythgmkipifolbfab", sum := "096f7265c7a3882f59ccd75b393e4cb507d9a286891d7ee5db8e8859a332f8de", func := "loop.example/g01231/laws.FnExactEchoesOf", spec := "fnExactEchoesOf", unfollowed := true, recurses := true, apart := false, narrowed := true }
def FnExactEchoesOfUptoSaid : Prop := fnExactEchoesOfUptoRow.holds Try.pinned (OpenSpec.upto fnExactEchoesOfSpec)

/-- 'laws.FnExactPeelTrace', WHERE WHAT IT READS IS OF BULK AT MOST 1048576: true; the input reads as it did. -/
def fnExactPeelTraceUptoRow : OpenClaim := { program := "ythgmkipifolbfab", sum := "096f7265c7a3882f59ccd75b393e4cb507d9a286891d7ee5db8e8859a332f8de", func := "loop.example/g01231/laws.FnExactPeelTrace", spec := "fnExactPeelTrace", unfollowed := true, recurses := true, apart := false, narrowed := true }
def FnExactPeelTraceUptoSaid : Prop := fnExactPeelTraceUptoRow.holds Try.pinned (OpenSpec.upto fnExactPeelTraceSpec)

/-- 'laws.FnExactAddSurface', WHERE WHAT IT READS IS OF BULK AT MOST 1048576: true; the input reads as it did. -/
def fnExactAddSurfaceUptoRow : OpenClaim := { program := "ythgmkipifolbfab", sum := "096f7265c7a3882f59ccd75b393e4cb507d9a286891d7ee5db8e8859a332f8de", func := "loop.example/g01231/laws.FnExactAddSurface", spec := "fnExactAddSurface", apart := false, narrowed := true }
def FnExactAddSurfaceUptoSaid : Prop := fnExactAddSurfaceUptoRow.holds Try.pinned (OpenSpec.upto fnExactAddSurfaceSpec)

/-- 'laws.FnExactDropSurface', WHERE WHAT IT READS IS OF BULK AT MOST 1048576: true; the input reads as it did. -/
def fnExactDropSurfaceUptoRow : OpenClaim := { program := "ythgmkipifolbfab", sum := "096f7265c7a3882f59ccd75b393e4cb507d9a286891d7ee5db8e8859a332f8de", func := "loop.example/g01231/laws.FnExactDropSurface", spec := "fnExactDropSurface", apart := false, narrowed := true }
def FnExactDropSurfaceUptoSaid : Prop := fnExactDropSurfaceUptoRow.holds Try.pinned (OpenSpec.upto fnExactDropSurfaceSpec)

/-- 'laws.FnExactNoiseTrace', WHERE WHAT IT READS IS OF BULK AT MOST 1048576: true; the input reads as it did. -/
def fnExactNoiseTraceUptoRow : OpenClaim := { program := "ythgmkipifolbfab", sum := "096f7265c7a3882f59ccd75b393e4cb507d9a286891d7ee5db8e8859a332f8de", func := "loop.example/g01231/laws.FnExactNoiseTrace", spec := "fnExactNoiseTrace", apart := false, narrowed := true }
def FnExactNoiseTraceUptoSaid : Prop := fnExactNoiseTraceUptoRow.holds Try.pinned (OpenSpec.upto fnExactNoiseTraceSpec)

/-- 'laws.FnExactWaveletOf', WHERE WHAT IT READS IS OF BULK AT MOST 1048576: true; the input reads as it did. -/
def fnExactWaveletOfUptoRow : OpenClaim := { program := "ythgmkipifolbfab", sum := "096f7265c7a3882f59ccd75b393e4cb507d9a286891d7ee5db8e8859a332f8de", func := "loop.example/g01231/laws.FnExactWaveletOf", spec := "fnExactWaveletOf", inPlace := ["math.Float64bits", "math.Float64frombits"], apart := false, narrowed := true }
def FnExactWaveletOfUptoSaid : Prop := fnExactWaveletOfUptoRow.holds Try.pinned (OpenSpec.upto fnExactWaveletOfSpec)

/-- 'laws.FnExactPeakOfTrace', WHERE WHAT IT READS IS OF BULK AT MOST 1048576: true; the input reads as it did. -/
def fnExactPeakOfTraceUptoRow : OpenClaim := { program := "ythgmkipifolbfab", sum := "096f7265c7a3882f59ccd75b393e4cb507d9a286891d7ee5db8e8859a332f8de", func := "loop.example/g01231/laws.FnExactPeakOfTrace", spec := "fnExactPeakOfTrace", inPlace := ["math.Float64bits", "math.Float64frombits"], apart := false, narrowed := true }
def FnExactPeakOfTraceUptoSaid : Prop := fnExactPeakOfTraceUptoRow.holds Try.pinned (OpenSpec.upto fnExactPeakOfTraceSpec)

/-- 'laws.FnExactTurnGround', WHERE WHAT IT READS IS OF BULK AT MOST 1048576: true; the input reads as it did. -/
def fnExactTurnGroundUptoRow : OpenClaim := { program := "ythgmkipifolbfab", sum := "096f7265c7a3882f59ccd75b393e4cb507d9a286891d7ee5db8e8859a332f8de", func := "loop.example/g01231/laws.FnExactTurnGround", spec := "fnExactTurnGround", inPlace := ["math.Float64bits", "math.Float64frombits"], apart := false, narrowed := true }
def FnExactTurnGroundUptoSaid : Prop := fnExactTurnGroundUptoRow.holds Try.pinned (OpenSpec.upto fnExactTurnGroundSpec)

end Rows
end Go.Proofs.Ythgmkipifolbfab
