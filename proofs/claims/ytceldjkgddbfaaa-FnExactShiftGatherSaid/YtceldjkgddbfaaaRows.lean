/-
  No cell of these rows narrows 'for every input' (looked for: loops, veiled, ifaces, maps, wideKeys, modest, calm, conditions, laid).
  DERIVED. THE GIVEN ROWS OF THIS SEAT. 12 by the template 'for every input the law returns true; each argument reads behind the call as it read before'; 0 by the template 'total and deterministic' (their statements: YtceldjkgddbfaaaTotals.lean).
  GIVEN WITH THE SEED: the statements are not yours to turn. If you find one false, say at which input.
  Laid BY PROGRAM, IN A SANDBOX (cutbox-rows.mjs): the forced cells as the released guide's own fill.sh prints them over the translation ddf5656b77a09bbe… (all of the seat's roots in one cut). By AI agents, Wed Nov 11 2026. No macro, syntax, notation, axiom, sorry.
-/
import Derived.Test.YtceldjkgddbfaaaChecked
import GoSem.Claim
import GoSem.ClaimJoined
import GoSem.ClaimMapViews
import Derived.JoinedTies
import Derived.KernelRfl
namespace Go.Proofs.Ytceldjkgddbfaaa
/- THE CELL 'sum', in the pinned program and in every row, IS THE sha256 OF THE DUMP (.gsa) THAT YtceldjkgddbfaaaProg.lean LOADS. Nothing in Lean hashes anything: it is a label: what it is worth is what the hold of that sum in a sandbox is worth. -/
noncomputable def Try.pinned : Pinned := { name := "ytceldjkgddbfaaa", sum := "ddf5656b77a09bbeced92ac64effc2af1d59ae5f7d4f453f54e75d24b9a56fec", checked := Try.checked }
namespace Rows
def none {H : Type} : Left H := { results := [], args := [] }

/-- 'laws.FnExactFlatGather': WHATEVER THE INPUT: true; the input reads as it did. -/
def fnExactFlatGatherSpec : ChangeSpec := { name := "fnExactFlatGather", fn := fun _ => fun
  | [d1, d2] => { results := [.lit (.bool true)], args := [d1, d2] }
  | _ => none }
def fnExactFlatGatherRow : OpenClaim := { program := "ytceldjkgddbfaaa", sum := "ddf5656b77a09bbeced92ac64effc2af1d59ae5f7d4f453f54e75d24b9a56fec", func := "loop.example/g01231/laws.FnExactFlatGather", spec := "fnExactFlatGather", inPlace := ["math.Float64bits", "math.Float64frombits"], apart := false }
def FnExactFlatGatherSaid : Prop := fnExactFlatGatherRow.holds Try.pinned (OpenSpec.ofChange fnExactFlatGatherSpec)

/-- ITS FALSE NEIGHBOUR: 'it returns false'. Refute it at one input. -/
def fnExactFlatGatherWrong : ChangeSpec := { name := "fnExactFlatGather", fn := fun _ => fun
  | [d1, d2] => { results := [.lit (.bool false)], args := [d1, d2] }
  | _ => none }
def FnExactFlatGatherWrongFalsely : Prop := fnExactFlatGatherRow.holds Try.pinned (OpenSpec.ofChange fnExactFlatGatherWrong)

/-- 'laws.FnExactAddEvent': WHATEVER THE INPUT: true; the input reads as it did. -/
def fnExactAddEventSpec : ChangeSpec := { name := "fnExactAddEvent", fn := fun _ => fun
  | [d1, d2, d3, d4] => { results := [.lit (.bool true)], args := [d1, d2, d3, d4] }
  | _ => none }
def fnExactAddEventRow : OpenClaim := { program := "ytceldjkgddbfaaa", sum := "ddf5656b77a09bbeced92ac64effc2af1d59ae5f7d4f453f54e75d24b9a56fec", func := "loop.example/g01231/laws.FnExactAddEvent", spec := "fnExactAddEvent", inPlace := ["math.sqrt", "math.archFloor", "math.Float64bits", "math.Float64frombits", "math.archTrunc"], unfollowed := true, recurses := true, apart := false }
def FnExactAddEventSaid : Prop := fnExactAddEventRow.holds Try.pinned (OpenSpec.ofChange fnExactAddEventSpec)

/-- ITS FALSE NEIGHBOUR: 'it returns false'. Refute it at one input. -/
def fnExactAddEventWrong : ChangeSpec := { name := "fnExactAddEvent", fn := fun _ => fun
  | [d1, d2, d3, d4] => { results := [.lit (.bool false)], args := [d1, d2, d3, d4] }
  | _ => none }
def FnExactAddEventWrongFalsely : Prop := fnExactAddEventRow.holds Try.pinned (OpenSpec.ofChange fnExactAddEventWrong)

/-- 'laws.FnExactCorrectGather': WHATEVER THE INPUT: true; the input reads as it did. -/
def fnExactCorrectGatherSpec : ChangeSpec := { name := "fnExactCorrectGather", fn := fun _ => fun
  | [d1, d2] => { results := [.lit (.bool true)], args := [d1, d2] }
  | _ => none }
def fnExactCorrectGatherRow : OpenClaim := { program := "ytceldjkgddbfaaa", sum := "ddf5656b77a09bbeced92ac64effc2af1d59ae5f7d4f453f54e75d24b9a56fec", func := "loop.example/g01231/laws.FnExactCorrectGather", spec := "fnExactCorrectGather", inPlace := ["math.sqrt", "math.archFloor", "math.Float64bits", "math.Float64frombits", "math.archTrunc"], unfollowed := true, recurses := true, apart := false }
def FnExactCorrectGatherSaid : Prop := fnExactCorrectGatherRow.holds Try.pinned (OpenSpec.ofChange fnExactCorrectGatherSpec)

/-- ITS FALSE NEIGHBOUR: 'it returns false'. Refute it at one input. -/
def fnExactCorrectGatherWrong : ChangeSpec := { name := "fnExactCorrectGather", fn := fun _ => fun
  | [d1, d2] => { results := [.lit (.bool false)], args := [d1, d2] }
  | _ => none }
def FnExactCorrectGatherWrongFalsely : Prop := fnExactCorrectGatherRow.holds Try.pinned (OpenSpec.ofChange fnExactCorrectGatherWrong)

/-- 'laws.FnExactBendGather': WHATEVER THE INPUT: true; the input reads as it did. -/
def fnExactBendGatherSpec : ChangeSpec := { name := "fnExactBendGather", fn := fun _ => fun
  | [d1, d2] => { results := [.lit (.bool true)], args := [d1, d2] }
  | _ => none }
def fnExactBendGatherRow : OpenClaim := { program := "ytceldjkgddbfaaa", sum := "ddf5656b77a09bbeced92ac64effc2af1d59ae5f7d4f453f54e75d24b9a56fec", func := "loop.example/g01231/laws.FnExactBendGather", spec := "fnExactBendGather", inPlace := ["math.sqrt", "math.archFloor", "math.Float64bits", "math.Float64frombits", "math.archTrunc"], unfollowed := true, recurses := true, apart := false }
def FnExactBendGatherSaid : Prop := fnExactBendGatherRow.holds Try.pinned (OpenSpec.ofChange fnExactBendGatherSpec)

/-- ITS FALSE NEIGHBOUR: 'it returns false'. Refute it at one input. -/
def fnExactBendGatherWrong : ChangeSpec := { name := "fnExactBendGather", fn := fun _ => fun
  | [d1, d2] => { results := [.lit (.bool false)], args := [d1, d2] }
  | _ => none }
def FnExactBendGatherWrongFalsely : Prop := fnExactBendGatherRow.holds Try.pinned (OpenSpec.ofChange fnExactBendGatherWrong)

/-- 'laws.FnExactMuteGather': WHATEVER THE INPUT: true; the input reads as it did. -/
def fnExactMuteGatherSpec : ChangeSpec := { name := "fnExactMuteGather", fn := fun _ => fun
  | [d1, d2] => { results := [.lit (.bool true)], args := [d1, d2] }
  | _ => none }
def fnExactMuteGatherRow : OpenClaim := { program := "ytceldjkgddbfaaa", sum := "ddf5656b77a09bbeced92ac64effc2af1d59ae5f7d4f453f54e75d24b9a56fec", func := "loop.example/g01231/laws.FnExactMuteGather", spec := "fnExactMuteGather", inPlace := ["math.Float64bits", "math.Float64frombits"], apart := false }
def FnExactMuteGatherSaid : Prop := fnExactMuteGatherRow.holds Try.pinned (OpenSpec.ofChange fnExactMuteGatherSpec)

/-- ITS FALSE NEIGHBOUR: 'it returns false'. Refute it at one input. -/
def fnExactMuteGatherWrong : ChangeSpec := { name := "fnExactMuteGather", fn := fun _ => fun
  | [d1, d2] => { results := [.lit (.bool false)], args := [d1, d2] }
  | _ => none }
def FnExactMuteGatherWrongFalsely : Prop := fnExactMuteGatherRow.holds Try.pinned (OpenSpec.ofChange fnExactMuteGatherWrong)

/-- 'laws.FnExactMuteStretch': WHATEVER THE INPUT: true; the input reads as it did. -/
def fnExactMuteStretchSpec : ChangeSpec := { name := "fnExactMuteStretch", fn := fun _ => fun
  | [d1, d2, d3] => { results := [.lit (.bool true)], args := [d1, d2, d3] }
  | _ => none }
def fnExactMuteStretchRow : OpenClaim := { program := "ytceldjkgddbfaaa", sum := "ddf5656b77a09bbeced92ac64effc2af1d59ae5f7d4f453f54e75d24b9a56fec", func := "loop.example/g01231/laws.FnExactMuteStretch", spec := "fnExactMuteStretch", inPlace := ["math.sqrt", "math.Float64bits", "math.Float64frombits"], unfollowed := true, recurses := true, apart := false }
def FnExactMuteStretchSaid : Prop := fnExactMuteStretchRow.holds Try.pinned (OpenSpec.ofChange fnExactMuteStretchSpec)

/-- ITS FALSE NEIGHBOUR: 'it returns false'. Refute it at one input. -/
def fnExactMuteStretchWrong : ChangeSpec := { name := "fnExactMuteStretch", fn := fun _ => fun
  | [d1, d2, d3] => { results := [.lit (.bool false)], args := [d1, d2, d3] }
  | _ => none }
def FnExactMuteStretchWrongFalsely : Prop := fnExactMuteStretchRow.holds Try.pinned (OpenSpec.ofChange fnExactMuteStretchWrong)

/-- 'laws.FnExactNormGather': WHATEVER THE INPUT: true; the input reads as it did. -/
def fnExactNormGatherSpec : ChangeSpec := { name := "fnExactNormGather", fn := fun _ => fun
  | [d] => { results := [.lit (.bool true)], args := [d] }
  | _ => none }
def fnExactNormGatherRow : OpenClaim := { program := "ytceldjkgddbfaaa", sum := "ddf5656b77a09bbeced92ac64effc2af1d59ae5f7d4f453f54e75d24b9a56fec", func := "loop.example/g01231/laws.FnExactNormGather", spec := "fnExactNormGather", inPlace := ["math.Float64bits", "math.Float64frombits"], apart := false }
def FnExactNormGatherSaid : Prop := fnExactNormGatherRow.holds Try.pinned (OpenSpec.ofChange fnExactNormGatherSpec)

/-- ITS FALSE NEIGHBOUR: 'it returns false'. Refute it at one input. -/
def fnExactNormGatherWrong : ChangeSpec := { name := "fnExactNormGather", fn := fun _ => fun
  | [d] => { results := [.lit (.bool false)], args := [d] }
  | _ => none }
def FnExactNormGatherWrongFalsely : Prop := fnExactNormGatherRow.holds Try.pinned (OpenSpec.ofChange fnExactNormGatherWrong)

/-- 'laws.FnExactShiftGather': WHATEVER THE INPUT: true; the input reads as it did. -/
def fnExactShiftGatherSpec : ChangeSpec := { name := "fnExactShiftGather", fn := fun _ => fun
  | [d1, d2] => { results := [.lit (.bool true)], args := [d1, d2] }
  | _ => none }
def fnExactShiftGatherRow : OpenClaim := { program := "ytceldjkgddbfaaa", sum := "ddf5656b77a09bbeced92ac64effc2af1d59ae5f7d4f453f54e75d24b9a56fec", func := "loop.example/g01231/laws.FnExactShiftGather", spec := "fnExactShiftGather", inPlace := ["math.Float64bits", "math.Float64frombits"], apart := false }
def FnExactShiftGatherSaid : Prop := fnExactShiftGatherRow.holds Try.pinned (OpenSpec.ofChange fnExactShiftGatherSpec)

/-- ITS FALSE NEIGHBOUR: 'it returns false'. Refute it at one input. -/
def fnExactShiftGatherWrong : ChangeSpec := { name := "fnExactShiftGather", fn := fun _ => fun
  | [d1, d2] => { results := [.lit (.bool false)], args := [d1, d2] }
  | _ => none }
def FnExactShiftGatherWrongFalsely : Prop := fnExactShiftGatherRow.holds Try.pinned (OpenSpec.ofChange fnExactShiftGatherWrong)

/-- 'laws.FnExactScanSpeeds': WHATEVER THE INPUT: true; the input reads as it did. -/
def fnExactScanSpeedsSpec : ChangeSpec := { name := "fnExactScanSpeeds", fn := fun _ => fun
  | [d1, d2, d3, d4] => { results := [.lit (.bool true)], args := [d1, d2, d3, d4] }
  | _ => none }
def fnExactScanSpeedsRow : OpenClaim := { program := "ytceldjkgddbfaaa", sum := "ddf5656b77a09bbeced92ac64effc2af1d59ae5f7d4f453f54e75d24b9a56fec", func := "loop.example/g01231/laws.FnExactScanSpeeds", spec := "fnExactScanSpeeds", inPlace := ["math.sqrt", "math.archFloor", "math.Float64bits", "math.Float64frombits", "math.archTrunc"], unfollowed := true, recurses := true, apart := false }
def FnExactScanSpeedsSaid : Prop := fnExactScanSpeedsRow.holds Try.pinned (OpenSpec.ofChange fnExactScanSpeedsSpec)

/-- ITS FALSE NEIGHBOUR: 'it returns false'. Refute it at one input. -/
def fnExactScanSpeedsWrong : ChangeSpec := { name := "fnExactScanSpeeds", fn := fun _ => fun
  | [d1, d2, d3, d4] => { results := [.lit (.bool false)], args := [d1, d2, d3, d4] }
  | _ => none }
def FnExactScanSpeedsWrongFalsely : Prop := fnExactScanSpeedsRow.holds Try.pinned (OpenSpec.ofChange fnExactScanSpeedsWrong)

/-- 'laws.FnExactBestSpeed': WHATEVER THE INPUT: true; the input reads as it did. -/
def fnExactBestSpeedSpec : ChangeSpec := { name := "fnExactBestSpeed", fn := fun _ => fun
  | [d1, d2, d3, d4] => { results := [.lit (.bool true)], args := [d1, d2, d3, d4] }
  | _ => none }
def fnExactBestSpeedRow : OpenClaim := { program := "ytceldjkgddbfaaa", sum := "ddf5656b77a09bbeced92ac64effc2af1d59ae5f7d4f453f54e75d24b9a56fec", func := "loop.example/g01231/laws.FnExactBestSpeed", spec := "fnExactBestSpeed", inPlace := ["math.sqrt", "math.archFloor", "math.Float64bits", "math.Float64frombits", "math.archTrunc"], unfollowed := true, recurses := true, apart := false }
def FnExactBestSpeedSaid : Prop := fnExactBestSpeedRow.holds Try.pinned (OpenSpec.ofChange fnExactBestSpeedSpec)

/-- ITS FALSE NEIGHBOUR: 'it returns false'. Refute it at one input. -/
def fnExactBestSpeedWrong : ChangeSpec := { name := "fnExactBestSpeed", fn := fun _ => fun
  | [d1, d2, d3, d4] => { results := [.lit (.bool false)], args := [d1, d2, d3, d4] }
  | _ => none }
def FnExactBestSpeedWrongFalsely : Prop := fnExactBestSpeedRow.holds Try.pinned (OpenSpec.ofChange fnExactBestSpeedWrong)

/-- 'laws.FnExactKeepPlaces': WHATEVER THE INPUT: true; the input reads as it did. -/
def fnExactKeepPlacesSpec : ChangeSpec := { name := "fnExactKeepPlaces", fn := fun _ => fun
  | [d1, d2, d3] => { results := [.lit (.bool true)], args := [d1, d2, d3] }
  | _ => none }
def fnExactKeepPlacesRow : OpenClaim := { program := "ytceldjkgddbfaaa", sum := "ddf5656b77a09bbeced92ac64effc2af1d59ae5f7d4f453f54e75d24b9a56fec", func := "loop.example/g01231/laws.FnExactKeepPlaces", spec := "fnExactKeepPlaces", inPlace := ["math.Float64bits", "math.Float64frombits"], apart := false }
def FnExactKeepPlacesSaid : Prop := fnExactKeepPlacesRow.holds Try.pinned (OpenSpec.ofChange fnExactKeepPlacesSpec)

/-- ITS FALSE NEIGHBOUR: 'it returns false'. Refute it at one input. -/
def fnExactKeepPlacesWrong : ChangeSpec := { name := "fnExactKeepPlaces", fn := fun _ => fun
  | [d1, d2, d3] => { results := [.lit (.bool false)], args := [d1, d2, d3] }
  | _ => none }
def FnExactKeepPlacesWrongFalsely : Prop := fnExactKeepPlacesRow.holds Try.pinned (OpenSpec.ofChange fnExactKeepPlacesWrong)

/-- 'laws.FnExactMergeGathers': WHATEVER THE INPUT: true; the input reads as it did. -/
def fnExactMergeGathersSpec : ChangeSpec := { name := "fnExactMergeGathers", fn := fun _ => fun
  | [d1, d2] => { results := [.lit (.bool true)], args := [d1, d2] }
  | _ => none }
def fnExactMergeGathersRow : OpenClaim := { program := "ytceldjkgddbfaaa", sum := "ddf5656b77a09bbeced92ac64effc2af1d59ae5f7d4f453f54e75d24b9a56fec", func := "loop.example/g01231/laws.FnExactMergeGathers", spec := "fnExactMergeGathers", inPlace := ["math.Float64bits", "math.Float64frombits"], apart := false }
def FnExactMergeGathersSaid : Prop := fnExactMergeGathersRow.holds Try.pinned (OpenSpec.ofChange fnExactMergeGathersSpec)

/-- ITS FALSE NEIGHBOUR: 'it returns false'. Refute it at one input. -/
def fnExactMergeGathersWrong : ChangeSpec := { name := "fnExactMergeGathers", fn := fun _ => fun
  | [d1, d2] => { results := [.lit (.bool false)], args := [d1, d2] }
  | _ => none }
def FnExactMergeGathersWrongFalsely : Prop := fnExactMergeGathersRow.holds Try.pinned (OpenSpec.ofChange fnExactMergeGathersWrong)

/- THE SECOND FORM. 'bulk': how many values and letters a reading holds, each counted each time it is reached (what is shared counts as often as it is met; a slice's spare places count too). A statement '..UptoSaid' is the law's where the arguments, and the package variables that the reading takes, are together of bulk at most 1048576: NARROWER than '..Said'. Prove '..Said' where nothing that the law and all that it calls make is longer than what came in: it says more and counts as full. Else prove '..UptoSaid'. A law counts once. -/
mutual
def uptoBulk {H : Type} : DataW H → Nat
  | .lit (.string bytes) => bytes.length + 1
  | .lit _ => 1
  | .nil => 1
  | .ptr d => uptoBulk d + 1
  | .slice elems spare => uptoBulkAll elems + uptoBulkAll spare + 1
  | .agg parts => uptoBulkAll parts + 1
  | .iface _ d => uptoBulk d + 1
  | .map entries => uptoBulkEntries entries + 1
  | .held _ => 1
def uptoBulkAll {H : Type} : List (DataW H) → Nat
  | [] => 0
  | d :: r => uptoBulk d + uptoBulkAll r
def uptoBulkEntries {H : Type} : List (Lit × DataW H) → Nat
  | [] => 0
  | x :: r => uptoBulkEntry x + uptoBulkEntries r
def uptoBulkEntry {H : Type} : Lit × DataW H → Nat
  | (.string bytes, d) => bytes.length + uptoBulk d + 1
  | (_, d) => uptoBulk d + 1
 end
def uptoSmall : (H : Type) → List (DataW H) → Bool := fun _ ds => decide (uptoBulkAll ds ≤ 1048576)
def OpenSpec.upto (s : _root_.Go.ChangeSpec) : _root_.Go.OpenSpec := { _root_.Go.OpenSpec.ofChange s with cond := some uptoSmall }

/-- 'laws.FnExactFlatGather', WHERE WHAT IT READS IS OF BULK AT MOST 1048576: true; the input reads as it did. -/
def fnExactFlatGatherUptoRow : OpenClaim := { program := "ytceldjkgddbfaaa", sum := "ddf5656b77a09bbeced92ac64effc2af1d59ae5f7d4f453f54e75d24b9a56fec", func := "loop.example/g01231/laws.FnExactFlatGather", spec := "fnExactFlatGather", inPlace := ["math.Float64bits", "math.Float64frombits"], apart := false, narrowed := true }
def FnExactFlatGatherUptoSaid : Prop := fnExactFlatGatherUptoRow.holds Try.pinned (OpenSpec.upto fnExactFlatGatherSpec)

/-- 'laws.FnExactAddEvent', WHERE WHAT IT READS IS OF BULK AT MOST 1048576: true; the input reads as it did. -/
def fnExactAddEventUptoRow : OpenClaim := { program := "ytceldjkgddbfaaa", sum := "ddf5656b77a09bbeced92ac64effc2af1d59ae5f7d4f453f54e75d24b9a56fec", func := "loop.example/g01231/laws.FnExactAddEvent", spec := "fnExactAddEvent", inPlace := ["math.sqrt", "math.archFloor", "math.Float64bits", "math.Float64frombits", "math.archTrunc"], unfollowed := true, recurses := true, apart := false, narrowed := true }
def FnExactAddEventUptoSaid : Prop := fnExactAddEventUptoRow.holds Try.pinned (OpenSpec.upto fnExactAddEventSpec)

/-- 'laws.FnExactCorrectGather', WHERE WHAT IT READS IS OF BULK AT MOST 1048576: true; the input reads as it did. -/
def fnExactCorrectGatherUptoRow : OpenClaim := { program := "ytceldjkgddbfaaa", sum := "ddf5656b77a09bbeced92ac64effc2af1d59ae5f7d4f453f54e75d24b9a56fec", func := "loop.example/g01231/laws.FnExactCorrectGather", spec := "fnExactCorrectGather", inPlace := ["math.sqrt", "math.archFloor", "math.Float64bits", "math.Float64frombits", "math.archTrunc"], unfollowed := true, recurses := true, apart := false, narrowed := true }
def FnExactCorrectGatherUptoSaid : Prop := fnExactCorrectGatherUptoRow.holds Try.pinned (OpenSpec.upto fnExactCorrectGatherSpec)

/-- 'laws.FnExactBendGather', WHERE WHAT IT READS IS OF BULK AT MOST 1048576: true; the input reads as it did. -/
def fnExactBendGatherUptoRow : OpenClaim := { program := "ytceldjkgddbfaaa", sum := "ddf5656b77a09bbeced92ac64effc2af1d59ae5f7d4f453f54e75d24b9a56fec", func := "loop.example/g01231/laws.FnExactBendGather", spec := "fnExactBendGather", inPlace := ["math.sqrt", "math.archFloor", "math.Float64bits", "math.Float64frombits", "math.archTrunc"], unfollowed := true, recurses := true, apart := false, narrowed := true }
def FnExactBendGatherUptoSaid : Prop := fnExactBendGatherUptoRow.holds Try.pinned (OpenSpec.upto fnExactBendGatherSpec)

/-- 'laws.FnExactMuteGather', WHERE WHAT IT READS IS OF BULK AT MOST 1048576: true; the input reads as it did. -/
def fnExactMuteGatherUptoRow : OpenClaim := { program := "ytceldjkgddbfaaa", sum := "ddf5656b77a09bbeced92ac64effc2af1d59ae5f7d4f453f54e75d24b9a56fec", func := "loop.example/g01231/laws.FnExactMuteGather", spec := "fnExactMuteGather", inPlace := ["math.Float64bits", "math.Float64frombits"], apart := false, narrowed := true }
def FnExactMuteGatherUptoSaid : Prop := fnExactMuteGatherUptoRow.holds Try.pinned (OpenSpec.upto fnExactMuteGatherSpec)

/-- 'laws.FnExactMuteStretch', WHERE WHAT IT READS IS OF BULK AT MOST 1048576: true; the input reads as it did. -/
def fnExactMuteStretchUptoRow : OpenClaim := { program := "ytceldjkgddbfaaa", sum := "ddf5656b77a09bbeced92ac64effc2af1d59ae5f7d4f453f54e75d24b9a56fec", func := "loop.example/g01231/laws.FnExactMuteStretch", spec := "fnExactMuteStretch", inPlace := ["math.sqrt", "math.Float64bits", "math.Float64frombits"], unfollowed := true, recurses := true, apart := false, narrowed := true }
def FnExactMuteStretchUptoSaid : Prop := fnExactMuteStretchUptoRow.holds Try.pinned (OpenSpec.upto fnExactMuteStretchSpec)

/-- 'laws.FnExactNormGather', WHERE WHAT IT READS IS OF BULK AT MOST 1048576: true; the input reads as it did. -/
def fnExactNormGatherUptoRow : OpenClaim := { program := "ytceldjkgddbfaaa", sum := "ddf5656b77a09bbeced92ac64effc2af1d59ae5f7d4f453f54e75d24b9a56fec", func := "loop.example/g01231/laws.FnExactNormGather", spec := "fnExactNormGather", inPlace := ["math.Float64bits", "math.Float64frombits"], apart := false, narrowed := true }
def FnExactNormGatherUptoSaid : Prop := fnExactNormGatherUptoRow.holds Try.pinned (OpenSpec.upto fnExactNormGatherSpec)

/-- 'laws.FnExactShiftGather', WHERE WHAT IT READS IS OF BULK AT MOST 1048576: true; the input reads as it did. -/
def fnExactShiftGatherUptoRow : OpenClaim := { program := "ytceldjkgddbfaaa", sum := "ddf5656b77a09bbeced92ac64effc2af1d59ae5f7d4f453f54e75d24b9a56fec", func := "loop.example/g01231/laws.FnExactShiftGather", spec := "fnExactShiftGather", inPlace := ["math.Float64bits", "math.Float64frombits"], apart := false, narrowed := true }
def FnExactShiftGatherUptoSaid : Prop := fnExactShiftGatherUptoRow.holds Try.pinned (OpenSpec.upto fnExactShiftGatherSpec)

/-- 'laws.FnExactScanSpeeds', WHERE WHAT IT READS IS OF BULK AT MOST 1048576: true; the input reads as it did. -/
def fnExactScanSpeedsUptoRow : OpenClaim := { program := "ytceldjkgddbfaaa", sum := "ddf5656b77a09bbeced92ac64effc2af1d59ae5f7d4f453f54e75d24b9a56fec", func := "loop.example/g01231/laws.FnExactScanSpeeds", spec := "fnExactScanSpeeds", inPlace := ["math.sqrt", "math.archFloor", "math.Float64bits", "math.Float64frombits", "math.archTrunc"], unfollowed := true, recurses := true, apart := false, narrowed := true }
def FnExactScanSpeedsUptoSaid : Prop := fnExactScanSpeedsUptoRow.holds Try.pinned (OpenSpec.upto fnExactScanSpeedsSpec)

/-- 'laws.FnExactBestSpeed', WHERE WHAT IT READS IS OF BULK AT MOST 1048576: true; the input reads as it did. -/
def fnExactBestSpeedUptoRow : OpenClaim := { program := "ytceldjkgddbfaaa", sum := "ddf5656b77a09bbeced92ac64effc2af1d59ae5f7d4f453f54e75d24b9a56fec", func := "loop.example/g01231/laws.FnExactBestSpeed", spec := "fnExactBestSpeed", inPlace := ["math.sqrt", "math.archFloor", "math.Float64bits", "math.Float64frombits", "math.archTrunc"], unfollowed := true, recurses := true, apart := false, narrowed := true }
def FnExactBestSpeedUptoSaid : Prop := fnExactBestSpeedUptoRow.holds Try.pinned (OpenSpec.upto fnExactBestSpeedSpec)

/-- 'laws.FnExactKeepPlaces', WHERE WHAT IT READS IS OF BULK AT MOST 1048576: true; the input reads as it did. -/
def fnExactKeepPlacesUptoRow : OpenClaim := { program := "ytceldjkgddbfaaa", sum := "ddf5656b77a09bbeced92ac64effc2af1d59ae5f7d4f453f54e75d24b9a56fec", func := "loop.example/g01231/laws.FnExactKeepPlaces", spec := "fnExactKeepPlaces", inPlace := ["math.Float64bits", "math.Float64frombits"], apart := false, narrowed := true }
def FnExactKeepPlacesUptoSaid : Prop := fnExactKeepPlacesUptoRow.holds Try.pinned (OpenSpec.upto fnExactKeepPlacesSpec)

/-- 'laws.FnExactMergeGathers', WHERE WHAT IT READS IS OF BULK AT MOST 1048576: true; the input reads as it did. -/
def fnExactMergeGathersUptoRow : OpenClaim := { program := "ytceldjkgddbfaaa", sum := "ddf5656b77a09bbeced92ac64effc2af1d59ae5f7d4f453f54e75d24b9a56fec", func := "loop.example/g01231/laws.FnExactMergeGathers", spec := "fnExactMergeGathers", inPlace := ["math.Float64bits", "math.Float64frombits"], apart := false, narrowed := true }
def FnExactMergeGathersUptoSaid : Prop := fnExactMergeGathersUptoRow.holds Try.pinned (OpenSpec.upto fnExactMergeGathersSpec)

end Rows
end Go.Proofs.Ytceldjkgddbfaaa
