/-
  No cell of these rows narrows 'for every input' (looked for: loops, veiled, ifaces, maps, wideKeys, modest, calm, conditions, laid).
  DERIVED. THE GIVEN ROWS OF THIS SEAT. 12 by the template 'for every input the law returns true; each argument reads behind the call as it read before'; 0 by the template 'total and deterministic' (their statements: YthgmkipifolbfaaTotals.lean).
  GIVEN WITH THE SEED: the statements are not yours to turn. If you find one false, say at which input.
  Laid BY PROGRAM, IN A SANDBOX (cutbox-rows.mjs): the forced cells as the released guide's own fill.sh prints them over the translation 477f89f1f68b6e89… (all of the seat's roots in one cut). By AI agents, Wed Nov 11 2026. No macro, syntax, notation, axiom, sorry.
-/
import Derived.Test.YthgmkipifolbfaaChecked
import GoSem.Claim
import GoSem.ClaimJoined
import GoSem.ClaimMapViews
import Derived.JoinedTies
import Derived.KernelRfl
namespace Go.Proofs.Ythgmkipifolbfaa
/- THE CELL 'sum', in the pinned program and in every row, IS THE sha256 OF THE DUMP (.gsa) THAT YthgmkipifolbfaaProg.lean LOADS. Nothing in Lean hashes anything: it is a label: what it is worth is what the hold of that sum in a sandbox is worth. -/
noncomputable def Try.pinned : Pinned := { name := "ythgmkipifolbfaa", sum := "477f89f1f68b6e898e8af310842494ff0bab4df3d9d652a75b3469bcab99a5de", checked := Try.checked }
namespace Rows
def none {H : Type} : Left H := { results := [], args := [] }

/-- 'laws.FnExactIsTrace': WHATEVER THE INPUT: true; the input reads as it did. -/
def fnExactIsTraceSpec : ChangeSpec := { name := "fnExactIsTrace", fn := fun _ => fun
  | [d] => { results := [.lit (.bool true)], args := [d] }
  | _ => none }
def fnExactIsTraceRow : OpenClaim := { program := "ythgmkipifolbfaa", sum := "477f89f1f68b6e898e8af310842494ff0bab4df3d9d652a75b3469bcab99a5de", func := "loop.example/g01231/laws.FnExactIsTrace", spec := "fnExactIsTrace", apart := false }
def FnExactIsTraceSaid : Prop := fnExactIsTraceRow.holds Try.pinned (OpenSpec.ofChange fnExactIsTraceSpec)

/-- ITS FALSE NEIGHBOUR: 'it returns false'. Refute it at one input. -/
def fnExactIsTraceWrong : ChangeSpec := { name := "fnExactIsTrace", fn := fun _ => fun
  | [d] => { results := [.lit (.bool false)], args := [d] }
  | _ => none }
def FnExactIsTraceWrongFalsely : Prop := fnExactIsTraceRow.holds Try.pinned (OpenSpec.ofChange fnExactIsTraceWrong)

/-- 'laws.FnExactPulseTrace': WHATEVER THE INPUT: true; the input reads as it did. -/
def fnExactPulseTraceSpec : ChangeSpec := { name := "fnExactPulseTrace", fn := fun _ => fun
  | [d1, d2, d3] => { results := [.lit (.bool true)], args := [d1, d2, d3] }
  | _ => none }
def fnExactPulseTraceRow : OpenClaim := { program := "ythgmkipifolbfaa", sum := "477f89f1f68b6e898e8af310842494ff0bab4df3d9d652a75b3469bcab99a5de", func := "loop.example/g01231/laws.FnExactPulseTrace", spec := "fnExactPulseTrace", apart := false }
def FnExactPulseTraceSaid : Prop := fnExactPulseTraceRow.holds Try.pinned (OpenSpec.ofChange fnExactPulseTraceSpec)

/-- ITS FALSE NEIGHBOUR: 'it returns false'. Refute it at one input. -/
def fnExactPulseTraceWrong : ChangeSpec := { name := "fnExactPulseTrace", fn := fun _ => fun
  | [d1, d2, d3] => { results := [.lit (.bool false)], args := [d1, d2, d3] }
  | _ => none }
def FnExactPulseTraceWrongFalsely : Prop := fnExactPulseTraceRow.holds Try.pinned (OpenSpec.ofChange fnExactPulseTraceWrong)

/-- 'laws.FnExactAddTraces': WHATEVER THE INPUT: true; the input reads as it did. -/
def fnExactAddTracesSpec : ChangeSpec := { name := "fnExactAddTraces", fn := fun _ => fun
  | [d1, d2] => { results := [.lit (.bool true)], args := [d1, d2] }
  | _ => none }
def fnExactAddTracesRow : OpenClaim := { program := "ythgmkipifolbfaa", sum := "477f89f1f68b6e898e8af310842494ff0bab4df3d9d652a75b3469bcab99a5de", func := "loop.example/g01231/laws.FnExactAddTraces", spec := "fnExactAddTraces", unfollowed := true, recurses := true, apart := false }
def FnExactAddTracesSaid : Prop := fnExactAddTracesRow.holds Try.pinned (OpenSpec.ofChange fnExactAddTracesSpec)

/-- ITS FALSE NEIGHBOUR: 'it returns false'. Refute it at one input. -/
def fnExactAddTracesWrong : ChangeSpec := { name := "fnExactAddTraces", fn := fun _ => fun
  | [d1, d2] => { results := [.lit (.bool false)], args := [d1, d2] }
  | _ => none }
def FnExactAddTracesWrongFalsely : Prop := fnExactAddTracesRow.holds Try.pinned (OpenSpec.ofChange fnExactAddTracesWrong)

/-- 'laws.FnExactLessTraces': WHATEVER THE INPUT: true; the input reads as it did. -/
def fnExactLessTracesSpec : ChangeSpec := { name := "fnExactLessTraces", fn := fun _ => fun
  | [d1, d2] => { results := [.lit (.bool true)], args := [d1, d2] }
  | _ => none }
def fnExactLessTracesRow : OpenClaim := { program := "ythgmkipifolbfaa", sum := "477f89f1f68b6e898e8af310842494ff0bab4df3d9d652a75b3469bcab99a5de", func := "loop.example/g01231/laws.FnExactLessTraces", spec := "fnExactLessTraces", unfollowed := true, recurses := true, apart := false }
def FnExactLessTracesSaid : Prop := fnExactLessTracesRow.holds Try.pinned (OpenSpec.ofChange fnExactLessTracesSpec)

/-- ITS FALSE NEIGHBOUR: 'it returns false'. Refute it at one input. -/
def fnExactLessTracesWrong : ChangeSpec := { name := "fnExactLessTraces", fn := fun _ => fun
  | [d1, d2] => { results := [.lit (.bool false)], args := [d1, d2] }
  | _ => none }
def FnExactLessTracesWrongFalsely : Prop := fnExactLessTracesRow.holds Try.pinned (OpenSpec.ofChange fnExactLessTracesWrong)

/-- 'laws.FnExactScaleTrace': WHATEVER THE INPUT: true; the input reads as it did. -/
def fnExactScaleTraceSpec : ChangeSpec := { name := "fnExactScaleTrace", fn := fun _ => fun
  | [d1, d2] => { results := [.lit (.bool true)], args := [d1, d2] }
  | _ => none }
def fnExactScaleTraceRow : OpenClaim := { program := "ythgmkipifolbfaa", sum := "477f89f1f68b6e898e8af310842494ff0bab4df3d9d652a75b3469bcab99a5de", func := "loop.example/g01231/laws.FnExactScaleTrace", spec := "fnExactScaleTrace", apart := false }
def FnExactScaleTraceSaid : Prop := fnExactScaleTraceRow.holds Try.pinned (OpenSpec.ofChange fnExactScaleTraceSpec)

/-- ITS FALSE NEIGHBOUR: 'it returns false'. Refute it at one input. -/
def fnExactScaleTraceWrong : ChangeSpec := { name := "fnExactScaleTrace", fn := fun _ => fun
  | [d1, d2] => { results := [.lit (.bool false)], args := [d1, d2] }
  | _ => none }
def FnExactScaleTraceWrongFalsely : Prop := fnExactScaleTraceRow.holds Try.pinned (OpenSpec.ofChange fnExactScaleTraceWrong)

/-- 'laws.FnExactShiftTrace': WHATEVER THE INPUT: true; the input reads as it did. -/
def fnExactShiftTraceSpec : ChangeSpec := { name := "fnExactShiftTrace", fn := fun _ => fun
  | [d1, d2] => { results := [.lit (.bool true)], args := [d1, d2] }
  | _ => none }
def fnExactShiftTraceRow : OpenClaim := { program := "ythgmkipifolbfaa", sum := "477f89f1f68b6e898e8af310842494ff0bab4df3d9d652a75b3469bcab99a5de", func := "loop.example/g01231/laws.FnExactShiftTrace", spec := "fnExactShiftTrace", apart := false }
def FnExactShiftTraceSaid : Prop := fnExactShiftTraceRow.holds Try.pinned (OpenSpec.ofChange fnExactShiftTraceSpec)

/-- ITS FALSE NEIGHBOUR: 'it returns false'. Refute it at one input. -/
def fnExactShiftTraceWrong : ChangeSpec := { name := "fnExactShiftTrace", fn := fun _ => fun
  | [d1, d2] => { results := [.lit (.bool false)], args := [d1, d2] }
  | _ => none }
def FnExactShiftTraceWrongFalsely : Prop := fnExactShiftTraceRow.holds Try.pinned (OpenSpec.ofChange fnExactShiftTraceWrong)

/-- 'laws.FnExactMirrorTrace': WHATEVER THE INPUT: true; the input reads as it did. -/
def fnExactMirrorTraceSpec : ChangeSpec := { name := "fnExactMirrorTrace", fn := fun _ => fun
  | [d] => { results := [.lit (.bool true)], args := [d] }
  | _ => none }
def fnExactMirrorTraceRow : OpenClaim := { program := "ythgmkipifolbfaa", sum := "477f89f1f68b6e898e8af310842494ff0bab4df3d9d652a75b3469bcab99a5de", func := "loop.example/g01231/laws.FnExactMirrorTrace", spec := "fnExactMirrorTrace", apart := false }
def FnExactMirrorTraceSaid : Prop := fnExactMirrorTraceRow.holds Try.pinned (OpenSpec.ofChange fnExactMirrorTraceSpec)

/-- ITS FALSE NEIGHBOUR: 'it returns false'. Refute it at one input. -/
def fnExactMirrorTraceWrong : ChangeSpec := { name := "fnExactMirrorTrace", fn := fun _ => fun
  | [d] => { results := [.lit (.bool false)], args := [d] }
  | _ => none }
def FnExactMirrorTraceWrongFalsely : Prop := fnExactMirrorTraceRow.holds Try.pinned (OpenSpec.ofChange fnExactMirrorTraceWrong)

/-- 'laws.FnExactFoldTraces': WHATEVER THE INPUT: true; the input reads as it did. -/
def fnExactFoldTracesSpec : ChangeSpec := { name := "fnExactFoldTraces", fn := fun _ => fun
  | [d1, d2] => { results := [.lit (.bool true)], args := [d1, d2] }
  | _ => none }
def fnExactFoldTracesRow : OpenClaim := { program := "ythgmkipifolbfaa", sum := "477f89f1f68b6e898e8af310842494ff0bab4df3d9d652a75b3469bcab99a5de", func := "loop.example/g01231/laws.FnExactFoldTraces", spec := "fnExactFoldTraces", apart := false }
def FnExactFoldTracesSaid : Prop := fnExactFoldTracesRow.holds Try.pinned (OpenSpec.ofChange fnExactFoldTracesSpec)

/-- ITS FALSE NEIGHBOUR: 'it returns false'. Refute it at one input. -/
def fnExactFoldTracesWrong : ChangeSpec := { name := "fnExactFoldTraces", fn := fun _ => fun
  | [d1, d2] => { results := [.lit (.bool false)], args := [d1, d2] }
  | _ => none }
def FnExactFoldTracesWrongFalsely : Prop := fnExactFoldTracesRow.holds Try.pinned (OpenSpec.ofChange fnExactFoldTracesWrong)

/-- 'laws.FnExactFoldAbout': WHATEVER THE INPUT: true; the input reads as it did. -/
def fnExactFoldAboutSpec : ChangeSpec := { name := "fnExactFoldAbout", fn := fun _ => fun
  | [d1, d2] => { results := [.lit (.bool true)], args := [d1, d2] }
  | _ => none }
def fnExactFoldAboutRow : OpenClaim := { program := "ythgmkipifolbfaa", sum := "477f89f1f68b6e898e8af310842494ff0bab4df3d9d652a75b3469bcab99a5de", func := "loop.example/g01231/laws.FnExactFoldAbout", spec := "fnExactFoldAbout", apart := false }
def FnExactFoldAboutSaid : Prop := fnExactFoldAboutRow.holds Try.pinned (OpenSpec.ofChange fnExactFoldAboutSpec)

/-- ITS FALSE NEIGHBOUR: 'it returns false'. Refute it at one input. -/
def fnExactFoldAboutWrong : ChangeSpec := { name := "fnExactFoldAbout", fn := fun _ => fun
  | [d1, d2] => { results := [.lit (.bool false)], args := [d1, d2] }
  | _ => none }
def FnExactFoldAboutWrongFalsely : Prop := fnExactFoldAboutRow.holds Try.pinned (OpenSpec.ofChange fnExactFoldAboutWrong)

/-- 'laws.FnExactEnergyOfTrace': WHATEVER THE INPUT: true; the input reads as it did. -/
def fnExactEnergyOfTraceSpec : ChangeSpec := { name := "fnExactEnergyOfTrace", fn := fun _ => fun
  | [d] => { results := [.lit (.bool true)], args := [d] }
  | _ => none }
def fnExactEnergyOfTraceRow : OpenClaim := { program := "ythgmkipifolbfaa", sum := "477f89f1f68b6e898e8af310842494ff0bab4df3d9d652a75b3469bcab99a5de", func := "loop.example/g01231/laws.FnExactEnergyOfTrace", spec := "fnExactEnergyOfTrace", apart := false }
def FnExactEnergyOfTraceSaid : Prop := fnExactEnergyOfTraceRow.holds Try.pinned (OpenSpec.ofChange fnExactEnergyOfTraceSpec)

/-- ITS FALSE NEIGHBOUR: 'it returns false'. Refute it at one input. -/
def fnExactEnergyOfTraceWrong : ChangeSpec := { name := "fnExactEnergyOfTrace", fn := fun _ => fun
  | [d] => { results := [.lit (.bool false)], args := [d] }
  | _ => none }
def FnExactEnergyOfTraceWrongFalsely : Prop := fnExactEnergyOfTraceRow.holds Try.pinned (OpenSpec.ofChange fnExactEnergyOfTraceWrong)

/-- 'laws.FnExactKeepTrace': WHATEVER THE INPUT: true; the input reads as it did. -/
def fnExactKeepTraceSpec : ChangeSpec := { name := "fnExactKeepTrace", fn := fun _ => fun
  | [d1, d2] => { results := [.lit (.bool true)], args := [d1, d2] }
  | _ => none }
def fnExactKeepTraceRow : OpenClaim := { program := "ythgmkipifolbfaa", sum := "477f89f1f68b6e898e8af310842494ff0bab4df3d9d652a75b3469bcab99a5de", func := "loop.example/g01231/laws.FnExactKeepTrace", spec := "fnExactKeepTrace", apart := false }
def FnExactKeepTraceSaid : Prop := fnExactKeepTraceRow.holds Try.pinned (OpenSpec.ofChange fnExactKeepTraceSpec)

/-- ITS FALSE NEIGHBOUR: 'it returns false'. Refute it at one input. -/
def fnExactKeepTraceWrong : ChangeSpec := { name := "fnExactKeepTrace", fn := fun _ => fun
  | [d1, d2] => { results := [.lit (.bool false)], args := [d1, d2] }
  | _ => none }
def FnExactKeepTraceWrongFalsely : Prop := fnExactKeepTraceRow.holds Try.pinned (OpenSpec.ofChange fnExactKeepTraceWrong)

/-- 'laws.FnExactShareOfSignal': WHATEVER THE INPUT: true; the input reads as it did. -/
def fnExactShareOfSignalSpec : ChangeSpec := { name := "fnExactShareOfSignal", fn := fun _ => fun
  | [d1, d2] => { results := [.lit (.bool true)], args := [d1, d2] }
  | _ => none }
def fnExactShareOfSignalRow : OpenClaim := { program := "ythgmkipifolbfaa", sum := "477f89f1f68b6e898e8af310842494ff0bab4df3d9d652a75b3469bcab99a5de", func := "loop.example/g01231/laws.FnExactShareOfSignal", spec := "fnExactShareOfSignal", apart := false }
def FnExactShareOfSignalSaid : Prop := fnExactShareOfSignalRow.holds Try.pinned (OpenSpec.ofChange fnExactShareOfSignalSpec)

/-- ITS FALSE NEIGHBOUR: 'it returns false'. Refute it at one input. -/
def fnExactShareOfSignalWrong : ChangeSpec := { name := "fnExactShareOfSignal", fn := fun _ => fun
  | [d1, d2] => { results := [.lit (.bool false)], args := [d1, d2] }
  | _ => none }
def FnExactShareOfSignalWrongFalsely : Prop := fnExactShareOfSignalRow.holds Try.pinned (OpenSpec.ofChange fnExactShareOfSignalWrong)

/- THE SECOND FORM. 'bulk': how many values and letters a reading holds, each counted each time it is reached (what is shared counts as often as it is met; a slice's spare places count too). A statement '..UptoSaid' is the law's where the arguments, and the package variables that the reading takes, are together of bulk at most 1048576: NARROWER than '..Said'. Prove '..Said' where nothing that the law and all that it calls make is longer than what came in: it says more and counts as full. Else prove '..UptoSaid'. A law counts once. -/
mutual
def uptoBulk {H : Type} : DataW H → Nat
  | .lit (.string bytes) => bytes.length + 1
  | .lit _ => 1
  | .nil => 1
  | .ptr d => uptoBulk d + 1
  | .slice elems spare => uptoBulkAll elems + uptoBulkAll spare + 1
  | .agg parts => uptoBulkAll parts + 1
  | .iface _ d => uptoBulk d + 1
  | .map entries => uptoBulkEntries entries + 1
  | .held _ => 1
def uptoBulkAll {H : Type} : List (DataW H) → Nat
  | [] => 0
  | d :: r => uptoBulk d + uptoBulkAll r
def uptoBulkEntries {H : Type} : List (Lit × DataW H) → Nat
  | [] => 0
  | x :: r => uptoBulkEntry x + uptoBulkEntries r
def uptoBulkEntry {H : Type} : Lit × DataW H → Nat
  | (.string bytes, d) => bytes.length + uptoBulk d + 1
  | (_, d) => uptoBulk d + 1
 end
def uptoSmall : (H : Type) → List (DataW H) → Bool := fun _ ds => decide (uptoBulkAll ds ≤ 1048576)
def OpenSpec.upto (s : _root_.Go.ChangeSpec) : _root_.Go.OpenSpec := { _root_.Go.OpenSpec.ofChange s with cond := some uptoSmall }

/-- 'laws.FnExactIsTrace', WHERE WHAT IT READS IS OF BULK AT MOST 1048576: true; the input reads as it did. -/
def fnExactIsTraceUptoRow : OpenClaim := { program := "ythgmkipifolbfaa", sum := "477f89f1f68b6e898e8af310842494ff0bab4df3d9d652a75b3469bcab99a5de", func := "loop.example/g01231/laws.FnExactIsTrace", spec := "fnExactIsTrace", apart := false, narrowed := true }
def FnExactIsTraceUptoSaid : Prop := fnExactIsTraceUptoRow.holds Try.pinned (OpenSpec.upto fnExactIsTraceSpec)

/-- 'laws.FnExactPulseTrace', WHERE WHAT IT READS IS OF BULK AT MOST 1048576: true; the input reads as it did. -/
def fnExactPulseTraceUptoRow : OpenClaim := { program := "ythgmkipifolbfaa", sum := "477f89f1f68b6e898e8af310842494ff0bab4df3d9d652a75b3469bcab99a5de", func := "loop.example/g01231/laws.FnExactPulseTrace", spec := "fnExactPulseTrace", apart := false, narrowed := true }
def FnExactPulseTraceUptoSaid : Prop := fnExactPulseTraceUptoRow.holds Try.pinned (OpenSpec.upto fnExactPulseTraceSpec)

/-- 'laws.FnExactAddTraces', WHERE WHAT IT READS IS OF BULK AT MOST 1048576: true; the input reads as it did. -/
def fnExactAddTracesUptoRow : OpenClaim := { program := "ythgmkipifolbfaa", sum := "477f89f1f68b6e898e8af310842494ff0bab4df3d9d652a75b3469bcab99a5de", func := "loop.example/g01231/laws.FnExactAddTraces", spec := "fnExactAddTraces", unfollowed := true, recurses := true, apart := false, narrowed := true }
def FnExactAddTracesUptoSaid : Prop := fnExactAddTracesUptoRow.holds Try.pinned (OpenSpec.upto fnExactAddTracesSpec)

/-- 'laws.FnExactLessTraces', WHERE WHAT IT READS IS OF BULK AT MOST 1048576: true; the input reads as it did. -/
def fnExactLessTracesUptoRow : OpenClaim := { program := "ythgmkipifolbfaa", sum := "477f89f1f68b6e898e8af310842494ff0bab4df3d9d652a75b3469bcab99a5de", func := "loop.example/g01231/laws.FnExactLessTraces", spec := "fnExactLessTraces", unfollowed := true, recurses := true, apart := false, narrowed := true }
def FnExactLessTracesUptoSaid : Prop := fnExactLessTracesUptoRow.holds Try.pinned (OpenSpec.upto fnExactLessTracesSpec)

/-- 'laws.FnExactScaleTrace', WHERE WHAT IT READS IS OF BULK AT MOST 1048576: true; the input reads as it did. -/
def fnExactScaleTraceUptoRow : OpenClaim := { program := "ythgmkipifolbfaa", sum := "477f89f1f68b6e898e8af310842494ff0bab4df3d9d652a75b3469bcab99a5de", func := "loop.example/g01231/laws.FnExactScaleTrace", spec := "fnExactScaleTrace", apart := false, narrowed := true }
def FnExactScaleTraceUptoSaid : Prop := fnExactScaleTraceUptoRow.holds Try.pinned (OpenSpec.upto fnExactScaleTraceSpec)

/-- 'laws.FnExactShiftTrace', WHERE WHAT IT READS IS OF BULK AT MOST 1048576: true; the input reads as it did. -/
def fnExactShiftTraceUptoRow : OpenClaim := { program := "ythgmkipifolbfaa", sum := "477f89f1f68b6e898e8af310842494ff0bab4df3d9d652a75b3469bcab99a5de", func := "loop.example/g01231/laws.FnExactShiftTrace", spec := "fnExactShiftTrace", apart := false, narrowed := true }
def FnExactShiftTraceUptoSaid : Prop := fnExactShiftTraceUptoRow.holds Try.pinned (OpenSpec.upto fnExactShiftTraceSpec)

/-- 'laws.FnExactMirrorTrace', WHERE WHAT IT READS IS OF BULK AT MOST 1048576: true; the input reads as it did. -/
def fnExactMirrorTraceUptoRow : OpenClaim := { program := "ythgmkipifolbfaa", sum := "477f89f1f68b6e898e8af310842494ff0bab4df3d9d652a75b3469bcab99a5de", func := "loop.example/g01231/laws.FnExactMirrorTrace", spec := "fnExactMirrorTrace", apart := false, narrowed := true }
def FnExactMirrorTraceUptoSaid : Prop := fnExactMirrorTraceUptoRow.holds Try.pinned (OpenSpec.upto fnExactMirrorTraceSpec)

/-- 'laws.FnExactFoldTraces', WHERE WHAT IT READS IS OF BULK AT MOST 1048576: true; the input reads as it did. -/
def fnExactFoldTracesUptoRow : OpenClaim := { program := "ythgmkipifolbfaa", sum := "477f89f1f68b6e898e8af310842494ff0bab4df3d9d652a75b3469bcab99a5de", func := "loop.example/g01231/laws.FnExactFoldTraces", spec := "fnExactFoldTraces", apart := false, narrowed := true }
def FnExactFoldTracesUptoSaid : Prop := fnExactFoldTracesUptoRow.holds Try.pinned (OpenSpec.upto fnExactFoldTracesSpec)

/-- 'laws.FnExactFoldAbout', WHERE WHAT IT READS IS OF BULK AT MOST 1048576: true; the input reads as it did. -/
def fnExactFoldAboutUptoRow : OpenClaim := { program := "ythgmkipifolbfaa", sum := "477f89f1f68b6e898e8af310842494ff0bab4df3d9d652a75b3469bcab99a5de", func := "loop.example/g01231/laws.FnExactFoldAbout", spec := "fnExactFoldAbout", apart := false, narrowed := true }
def FnExactFoldAboutUptoSaid : Prop := fnExactFoldAboutUptoRow.holds Try.pinned (OpenSpec.upto fnExactFoldAboutSpec)

/-- 'laws.FnExactEnergyOfTrace', WHERE WHAT IT READS IS OF BULK AT MOST 1048576: true; the input reads as it did. -/
def fnExactEnergyOfTraceUptoRow : OpenClaim := { program := "ythgmkipifolbfaa", sum := "477f89f1f68b6e898e8af310842494ff0bab4df3d9d652a75b3469bcab99a5de", func := "loop.example/g01231/laws.FnExactEnergyOfTrace", spec := "fnExactEnergyOfTrace", apart := false, narrowed := true }
def FnExactEnergyOfTraceUptoSaid : Prop := fnExactEnergyOfTraceUptoRow.holds Try.pinned (OpenSpec.upto fnExactEnergyOfTraceSpec)

/-- 'laws.FnExactKeepTrace', WHERE WHAT IT READS IS OF BULK AT MOST 1048576: true; the input reads as it did. -/
def fnExactKeepTraceUptoRow : OpenClaim := { program := "ythgmkipifolbfaa", sum := "477f89f1f68b6e898e8af310842494ff0bab4df3d9d652a75b3469bcab99a5de", func := "loop.example/g01231/laws.FnExactKeepTrace", spec := "fnExactKeepTrace", apart := false, narrowed := true }
def FnExactKeepTraceUptoSaid : Prop := fnExactKeepTraceUptoRow.holds Try.pinned (OpenSpec.upto fnExactKeepTraceSpec)

/-- 'laws.FnExactShareOfSignal', WHERE WHAT IT READS IS OF BULK AT MOST 1048576: true; the input reads as it did. -/
def fnExactShareOfSignalUptoRow : OpenClaim := { program := "ythgmkipifolbfaa", sum := "477f89f1f68b6e898e8af310842494ff0bab4df3d9d652a75b3469bcab99a5de", func := "loop.example/g01231/laws.FnExactShareOfSignal", spec := "fnExactShareOfSignal", apart := false, narrowed := true }
def FnExactShareOfSignalUptoSaid : Prop := fnExactShareOfSignalUptoRow.holds Try.pinned (OpenSpec.upto fnExactShareOfSignalSpec)

end Rows
end Go.Proofs.Ythgmkipifolbfaa
