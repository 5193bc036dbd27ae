/-
  No cell of these rows narrows 'for every input' (looked for: loops, veiled, ifaces, maps, wideKeys, modest, calm, conditions, laid).
  DERIVED. THE GIVEN ROWS OF THIS SEAT. 12 by the template 'for every input the law returns true; each argument reads behind the call as it read before'; 0 by the template 'total and deterministic' (their statements: YtbdmdpaggnaneabTotals.lean).
  GIVEN WITH THE SEED: the statements are not yours to turn. If you find one false, say at which input.
  Laid BY PROGRAM, IN A SANDBOX (cutbox-rows.mjs): the forced cells as the released guide's own fill.sh prints them over the translation 3856fe29416e2780… (all of the seat's roots in one cut). By AI agents, Wed Nov 11 2026. No macro, syntax, notation, axiom, sorry.
-/
import Derived.Test.YtbdmdpaggnaneabChecked
import GoSem.Claim
import GoSem.ClaimJoined
import GoSem.ClaimMapViews
import Derived.JoinedTies
import Derived.KernelRfl
namespace Go.Proofs.Ytbdmdpaggnaneab
/- THE CELL 'sum', in the pinned program and in every row, IS THE sha256 OF THE DUMP (.gsa) THAT YtbdmdpaggnaneabProg.lean LOADS. Nothing in Lean hashes anything: it is a label: what it is worth is what the hold of that sum in a sandbox is worth. -/
noncomputable def Try.pinned : Pinned := { name := "ytbdmdpaggnaneab", sum := "3856fe29416e2780df3a85c7750748bea4ce5d4b43163baa544fae3c390860c8", checked := Try.checked }
namespace Rows
def none {H : Type} : Left H := { results := [], args := [] }

/-- 'laws.FnExactSameGather': WHATEVER THE INPUT: true; the input reads as it did. -/
def fnExactSameGatherSpec : ChangeSpec := { name := "fnExactSameGather", fn := fun _ => fun
  | [d1, d2] => { results := [.lit (.bool true)], args := [d1, d2] }
  | _ => none }
def fnExactSameGatherRow : OpenClaim := { program := "ytbdmdpaggnaneab", sum := "3856fe29416e2780df3a85c7750748bea4ce5d4b43163baa544fae3c390860c8", func := "loop.example/g01231/laws.FnExactSameGather", spec := "fnExactSameGather", inPlace := ["math.Float32bits"], unfollowed := true, recurses := true, apart := false }
def FnExactSameGatherSaid : Prop := fnExactSameGatherRow.holds Try.pinned (OpenSpec.ofChange fnExactSameGatherSpec)

/-- ITS FALSE NEIGHBOUR: 'it returns false'. Refute it at one input. -/
def fnExactSameGatherWrong : ChangeSpec := { name := "fnExactSameGather", fn := fun _ => fun
  | [d1, d2] => { results := [.lit (.bool false)], args := [d1, d2] }
  | _ => none }
def FnExactSameGatherWrongFalsely : Prop := fnExactSameGatherRow.holds Try.pinned (OpenSpec.ofChange fnExactSameGatherWrong)

/-- 'laws.FnExactFlatGather': WHATEVER THE INPUT: true; the input reads as it did. -/
def fnExactFlatGatherSpec : ChangeSpec := { name := "fnExactFlatGather", fn := fun _ => fun
  | [d1, d2] => { results := [.lit (.bool true)], args := [d1, d2] }
  | _ => none }
def fnExactFlatGatherRow : OpenClaim := { program := "ytbdmdpaggnaneab", sum := "3856fe29416e2780df3a85c7750748bea4ce5d4b43163baa544fae3c390860c8", func := "loop.example/g01231/laws.FnExactFlatGather", spec := "fnExactFlatGather", inPlace := ["math.Float64bits", "math.Float64frombits"], apart := false }
def FnExactFlatGatherSaid : Prop := fnExactFlatGatherRow.holds Try.pinned (OpenSpec.ofChange fnExactFlatGatherSpec)

/-- ITS FALSE NEIGHBOUR: 'it returns false'. Refute it at one input. -/
def fnExactFlatGatherWrong : ChangeSpec := { name := "fnExactFlatGather", fn := fun _ => fun
  | [d1, d2] => { results := [.lit (.bool false)], args := [d1, d2] }
  | _ => none }
def FnExactFlatGatherWrongFalsely : Prop := fnExactFlatGatherRow.holds Try.pinned (OpenSpec.ofChange fnExactFlatGatherWrong)

/-- 'laws.FnExactAddEvent': WHATEVER THE INPUT: true; the input reads as it did. -/
def fnExactAddEventSpec : ChangeSpec := { name := "fnExactAddEvent", fn := fun _ => fun
  | [d1, d2, d3, d4] => { results := [.lit (.bool true)], args := [d1, d2, d3, d4] }
  | _ => none }
def fnExactAddEventRow : OpenClaim := { program := "ytbdmdpaggnaneab", sum := "3856fe29416e2780df3a85c7750748bea4ce5d4b43163baa544fae3c390860c8", func := "loop.example/g01231/laws.FnExactAddEvent", spec := "fnExactAddEvent", inPlace := ["math.sqrt", "math.archFloor", "math.Float64bits", "math.Float64frombits", "math.archTrunc"], unfollowed := true, recurses := true, apart := false }
def FnExactAddEventSaid : Prop := fnExactAddEventRow.holds Try.pinned (OpenSpec.ofChange fnExactAddEventSpec)

/-- ITS FALSE NEIGHBOUR: 'it returns false'. Refute it at one input. -/
def fnExactAddEventWrong : ChangeSpec := { name := "fnExactAddEvent", fn := fun _ => fun
  | [d1, d2, d3, d4] => { results := [.lit (.bool false)], args := [d1, d2, d3, d4] }
  | _ => none }
def FnExactAddEventWrongFalsely : Prop := fnExactAddEventRow.holds Try.pinned (OpenSpec.ofChange fnExactAddEventWrong)

/-- 'laws.FnExactCorrectGather': WHATEVER THE INPUT: true; the input reads as it did. -/
def fnExactCorrectGatherSpec : ChangeSpec := { name := "fnExactCorrectGather", fn := fun _ => fun
  | [d1, d2] => { results := [.lit (.bool true)], args := [d1, d2] }
  | _ => none }
def fnExactCorrectGatherRow : OpenClaim := { program := "ytbdmdpaggnaneab", sum := "3856fe29416e2780df3a85c7750748bea4ce5d4b43163baa544fae3c390860c8", func := "loop.example/g01231/laws.FnExactCorrectGather", spec := "fnExactCorrectGather", inPlace := ["math.sqrt", "math.archFloor", "math.Float64bits", "math.Float64frombits", "math.archTrunc"], unfollowed := true, recurses := true, apart := false }
def FnExactCorrectGatherSaid : Prop := fnExactCorrectGatherRow.holds Try.pinned (OpenSpec.ofChange fnExactCorrectGatherSpec)

/-- ITS FALSE NEIGHBOUR: 'it returns false'. Refute it at one input. -/
def fnExactCorrectGatherWrong : ChangeSpec := { name := "fnExactCorrectGather", fn := fun _ => fun
  | [d1, d2] => { results := [.lit (.bool false)], args := [d1, d2] }
  | _ => none }
def FnExactCorrectGatherWrongFalsely : Prop := fnExactCorrectGatherRow.holds Try.pinned (OpenSpec.ofChange fnExactCorrectGatherWrong)

/-- 'laws.FnExactBendGather': WHATEVER THE INPUT: true; the input reads as it did. -/
def fnExactBendGatherSpec : ChangeSpec := { name := "fnExactBendGather", fn := fun _ => fun
  | [d1, d2] => { results := [.lit (.bool true)], args := [d1, d2] }
  | _ => none }
def fnExactBendGatherRow : OpenClaim := { program := "ytbdmdpaggnaneab", sum := "3856fe29416e2780df3a85c7750748bea4ce5d4b43163baa544fae3c390860c8", func := "loop.example/g01231/laws.FnExactBendGather", spec := "fnExactBendGather", inPlace := ["math.sqrt", "math.archFloor", "math.Float64bits", "math.Float64frombits", "math.archTrunc"], unfollowed := true, recurses := true, apart := false }
def FnExactBendGatherSaid : Prop := fnExactBendGatherRow.holds Try.pinned (OpenSpec.ofChange fnExactBendGatherSpec)

/-- ITS FALSE NEIGHBOUR: 'it returns false'. Refute it at one input. -/
def fnExactBendGatherWrong : ChangeSpec := { name := "fnExactBendGather", fn := fun _ => fun
  | [d1, d2] => { results := [.lit (.bool false)], args := [d1, d2] }
  | _ => none }
def FnExactBendGatherWrongFalsely : Prop := fnExactBendGatherRow.holds Try.pinned (OpenSpec.ofChange fnExactBendGatherWrong)

/-- 'laws.FnExactMuteGather': WHATEVER THE INPUT: true; the input reads as it did. -/
def fnExactMuteGatherSpec : ChangeSpec := { name := "fnExactMuteGather", fn := fun _ => fun
  | [d1, d2] => { results := [.lit (.bool true)], args := [d1, d2] }
  | _ => none }
def fnExactMuteGatherRow : OpenClaim := { program := "ytbdmdpaggnaneab", sum := "3856fe29416e2780df3a85c7750748bea4ce5d4b43163baa544fae3c390860c8", func := "loop.example/g01231/laws.FnExactMuteGather", spec := "fnExactMuteGather", inPlace := ["math.Float64bits", "math.Float64frombits"], apart := false }
def FnExactMuteGatherSaid : Prop := fnExactMuteGatherRow.holds Try.pinned (OpenSpec.ofChange fnExactMuteGatherSpec)

/-- ITS FALSE NEIGHBOUR: 'it returns false'. Refute it at one input. -/
def fnExactMuteGatherWrong : ChangeSpec := { name := "fnExactMuteGather", fn := fun _ => fun
  | [d1, d2] => { results := [.lit (.bool false)], args := [d1, d2] }
  | _ => none }
def FnExactMuteGatherWrongFalsely : Prop := fnExactMuteGatherRow.holds Try.pinned (OpenSpec.ofChange fnExactMuteGatherWrong)

/-- 'laws.FnExactMuteStretch': WHATEVER THE INPUT: true; the input reads as it did. -/
def fnExactMuteStretchSpec : ChangeSpec := { name := "fnExactMuteStretch", fn := fun _ => fun
  | [d1, d2, d3] => { results := [.lit (.bool true)], args := [d1, d2, d3] }
  | _ => none }
def fnExactMuteStretchRow : OpenClaim := { program := "ytbdmdpaggnaneab", sum := "3856fe29416e2780df3a85c7750748bea4ce5d4b43163baa544fae3c390860c8", func := "loop.example/g01231/laws.FnExactMuteStretch", spec := "fnExactMuteStretch", inPlace := ["math.sqrt", "math.Float64bits", "math.Float64frombits"], unfollowed := true, recurses := true, apart := false }
def FnExactMuteStretchSaid : Prop := fnExactMuteStretchRow.holds Try.pinned (OpenSpec.ofChange fnExactMuteStretchSpec)

/-- ITS FALSE NEIGHBOUR: 'it returns false'. Refute it at one input. -/
def fnExactMuteStretchWrong : ChangeSpec := { name := "fnExactMuteStretch", fn := fun _ => fun
  | [d1, d2, d3] => { results := [.lit (.bool false)], args := [d1, d2, d3] }
  | _ => none }
def FnExactMuteStretchWrongFalsely : Prop := fnExactMuteStretchRow.holds Try.pinned (OpenSpec.ofChange fnExactMuteStretchWrong)

/-- 'laws.FnExactShiftGather': WHATEVER THE INPUT: true; the input reads as it did. -/
def fnExactShiftGatherSpec : ChangeSpec := { name := "fnExactShiftGather", fn := fun _ => fun
  | [d1, d2] => { results := [.lit (.bool true)], args := [d1, d2] }
  | _ => none }
def fnExactShiftGatherRow : OpenClaim := { program := "ytbdmdpaggnaneab", sum := "3856fe29416e2780df3a85c7750748bea4ce5d4b43163baa544fae3c390860c8", func := "loop.example/g01231/laws.FnExactShiftGather", spec := "fnExactShiftGather", inPlace := ["math.Float64bits", "math.Float64frombits"], apart := false }
def FnExactShiftGatherSaid : Prop := fnExactShiftGatherRow.holds Try.pinned (OpenSpec.ofChange fnExactShiftGatherSpec)

/-- ITS FALSE NEIGHBOUR: 'it returns false'. Refute it at one input. -/
def fnExactShiftGatherWrong : ChangeSpec := { name := "fnExactShiftGather", fn := fun _ => fun
  | [d1, d2] => { results := [.lit (.bool false)], args := [d1, d2] }
  | _ => none }
def FnExactShiftGatherWrongFalsely : Prop := fnExactShiftGatherRow.holds Try.pinned (OpenSpec.ofChange fnExactShiftGatherWrong)

/-- 'laws.FnExactSortGather': WHATEVER THE INPUT: true; the input reads as it did. -/
def fnExactSortGatherSpec : ChangeSpec := { name := "fnExactSortGather", fn := fun _ => fun
  | [d] => { results := [.lit (.bool true)], args := [d] }
  | _ => none }
def fnExactSortGatherRow : OpenClaim := { program := "ytbdmdpaggnaneab", sum := "3856fe29416e2780df3a85c7750748bea4ce5d4b43163baa544fae3c390860c8", func := "loop.example/g01231/laws.FnExactSortGather", spec := "fnExactSortGather", inPlace := ["math.Float64bits", "math.Float64frombits"], unfollowed := true, recurses := true, apart := false }
def FnExactSortGatherSaid : Prop := fnExactSortGatherRow.holds Try.pinned (OpenSpec.ofChange fnExactSortGatherSpec)

/-- ITS FALSE NEIGHBOUR: 'it returns false'. Refute it at one input. -/
def fnExactSortGatherWrong : ChangeSpec := { name := "fnExactSortGather", fn := fun _ => fun
  | [d] => { results := [.lit (.bool false)], args := [d] }
  | _ => none }
def FnExactSortGatherWrongFalsely : Prop := fnExactSortGatherRow.holds Try.pinned (OpenSpec.ofChange fnExactSortGatherWrong)

/-- 'laws.FnExactKeepPlaces': WHATEVER THE INPUT: true; the input reads as it did. -/
def fnExactKeepPlacesSpec : ChangeSpec := { name := "fnExactKeepPlaces", fn := fun _ => fun
  | [d1, d2, d3] => { results := [.lit (.bool true)], args := [d1, d2, d3] }
  | _ => none }
def fnExactKeepPlacesRow : OpenClaim := { program := "ytbdmdpaggnaneab", sum := "3856fe29416e2780df3a85c7750748bea4ce5d4b43163baa544fae3c390860c8", func := "loop.example/g01231/laws.FnExactKeepPlaces", spec := "fnExactKeepPlaces", inPlace := ["math.Float64bits", "math.Float64frombits"], apart := false }
def FnExactKeepPlacesSaid : Prop := fnExactKeepPlacesRow.holds Try.pinned (OpenSpec.ofChange fnExactKeepPlacesSpec)

/-- ITS FALSE NEIGHBOUR: 'it returns false'. Refute it at one input. -/
def fnExactKeepPlacesWrong : ChangeSpec := { name := "fnExactKeepPlaces", fn := fun _ => fun
  | [d1, d2, d3] => { results := [.lit (.bool false)], args := [d1, d2, d3] }
  | _ => none }
def FnExactKeepPlacesWrongFalsely : Prop := fnExactKeepPlacesRow.holds Try.pinned (OpenSpec.ofChange fnExactKeepPlacesWrong)

/-- 'laws.FnExactMergeGathers': WHATEVER THE INPUT: true; the input reads as it did. -/
def fnExactMergeGathersSpec : ChangeSpec := { name := "fnExactMergeGathers", fn := fun _ => fun
  | [d1, d2] => { results := [.lit (.bool true)], args := [d1, d2] }
  | _ => none }
def fnExactMergeGathersRow : OpenClaim := { program := "ytbdmdpaggnaneab", sum := "3856fe29416e2780df3a85c7750748bea4ce5d4b43163baa544fae3c390860c8", func := "loop.example/g01231/laws.FnExactMergeGathers", spec := "fnExactMergeGathers", inPlace := ["math.Float64bits", "math.Float64frombits"], apart := false }
def FnExactMergeGathersSaid : Prop := fnExactMergeGathersRow.holds Try.pinned (OpenSpec.ofChange fnExactMergeGathersSpec)

/-- ITS FALSE NEIGHBOUR: 'it returns false'. Refute it at one input. -/
def fnExactMergeGathersWrong : ChangeSpec := { name := "fnExactMergeGathers", fn := fun _ => fun
  | [d1, d2] => { results := [.lit (.bool false)], args := [d1, d2] }
  | _ => none }
def FnExactMergeGathersWrongFalsely : Prop := fnExactMergeGathersRow.holds Try.pinned (OpenSpec.ofChange fnExactMergeGathersWrong)

/-- 'laws.FnExactNormGather': WHATEVER THE INPUT: true; the input reads as it did. -/
def fnExactNormGatherSpec : ChangeSpec := { name := "fnExactNormGather", fn := fun _ => fun
  | [d] => { results := [.lit (.bool true)], args := [d] }
  | _ => none }
def fnExactNormGatherRow : OpenClaim := { program := "ytbdmdpaggnaneab", sum := "3856fe29416e2780df3a85c7750748bea4ce5d4b43163baa544fae3c390860c8", func := "loop.example/g01231/laws.FnExactNormGather", spec := "fnExactNormGather", inPlace := ["math.Float64bits", "math.Float64frombits"], apart := false }
def FnExactNormGatherSaid : Prop := fnExactNormGatherRow.holds Try.pinned (OpenSpec.ofChange fnExactNormGatherSpec)

/-- ITS FALSE NEIGHBOUR: 'it returns false'. Refute it at one input. -/
def fnExactNormGatherWrong : ChangeSpec := { name := "fnExactNormGather", fn := fun _ => fun
  | [d] => { results := [.lit (.bool false)], args := [d] }
  | _ => none }
def FnExactNormGatherWrongFalsely : Prop := fnExactNormGatherRow.holds Try.pinned (OpenSpec.ofChange fnExactNormGatherWrong)

/- THE SECOND FORM. 'bulk': how many values and letters a reading holds, each counted each time it is reached (what is shared counts as often as it is met; a slice's spare places count too). A statement '..UptoSaid' is the law's where the arguments, and the package variables that the reading takes, are together of bulk at most 1048576: NARROWER than '..Said'. Prove '..Said' where nothing that the law and all that it calls make is longer than what came in: it says more and counts as full. Else prove '..UptoSaid'. A law counts once. -/
mutual
def uptoBulk {H : Type} : DataW H → Nat
  | .lit (.string bytes) => bytes.length + 1
  | .lit _ => 1
  | .nil => 1
  | .ptr d => uptoBulk d + 1
  | .slice elems spare => uptoBulkAll elems + uptoBulkAll spare + 1
  | .agg parts => uptoBulkAll parts + 1
  | .iface _ d => uptoBulk d + 1
  | .map entries => uptoBulkEntries entries + 1
  | .held _ => 1
def uptoBulkAll {H : Type} : List (DataW H) → Nat
  | [] => 0
  | d :: r => uptoBulk d + uptoBulkAll r
def uptoBulkEntries {H : Type} : List (Lit × DataW H) → Nat
  | [] => 0
  | x :: r => uptoBulkEntry x + uptoBulkEntries r
def uptoBulkEntry {H : Type} : Lit × DataW H → Nat
  | (.string bytes, d) => bytes.length + uptoBulk d + 1
  | (_, d) => uptoBulk d + 1
 end
def uptoSmall : (H : Type) → List (DataW H) → Bool := fun _ ds => decide (uptoBulkAll ds ≤ 1048576)
def OpenSpec.upto (s : _root_.Go.ChangeSpec) : _root_.Go.OpenSpec := { _root_.Go.OpenSpec.ofChange s with cond := some uptoSmall }

/-- 'laws.FnExactSameGather', WHERE WHAT IT READS IS OF BULK AT MOST 1048576: true; the input reads as it did. -/
def fnExactSameGatherUptoRow : OpenClaim := { program := "ytbdmdpaggnaneab", sum := "3856fe29416e2780df3a85c7750748bea4ce5d4b43163baa544fae3c390860c8", func := "loop.example/g01231/laws.FnExactSameGather", spec := "fnExactSameGather", inPlace := ["math.Float32bits"], unfollowed := true, recurses := true, apart := false, narrowed := true }
def FnExactSameGatherUptoSaid : Prop := fnExactSameGatherUptoRow.holds Try.pinned (OpenSpec.upto fnExactSameGatherSpec)

/-- 'laws.FnExactFlatGather', WHERE WHAT IT READS IS OF BULK AT MOST 1048576: true; the input reads as it did. -/
def fnExactFlatGatherUptoRow : OpenClaim := { program := "ytbdmdpaggnaneab", sum := "3856fe29416e2780df3a85c7750748bea4ce5d4b43163baa544fae3c390860c8", func := "loop.example/g01231/laws.FnExactFlatGather", spec := "fnExactFlatGather", inPlace := ["math.Float64bits", "math.Float64frombits"], apart := false, narrowed := true }
def FnExactFlatGatherUptoSaid : Prop := fnExactFlatGatherUptoRow.holds Try.pinned (OpenSpec.upto fnExactFlatGatherSpec)

/-- 'laws.FnExactAddEvent', WHERE WHAT IT READS IS OF BULK AT MOST 1048576: true; the input reads as it did. -/
def fnExactAddEventUptoRow : OpenClaim := { program := "ytbdmdpaggnaneab", sum := "3856fe29416e2780df3a85c7750748bea4ce5d4b43163baa544fae3c390860c8", func := "loop.example/g01231/laws.FnExactAddEvent", spec := "fnExactAddEvent", inPlace := ["math.sqrt", "math.archFloor", "math.Float64bits", "math.Float64frombits", "math.archTrunc"], unfollowed := true, recurses := true, apart := false, narrowed := true }
def FnExactAddEventUptoSaid : Prop := fnExactAddEventUptoRow.holds Try.pinned (OpenSpec.upto fnExactAddEventSpec)

/-- 'laws.FnExactCorrectGather', WHERE WHAT IT READS IS OF BULK AT MOST 1048576: true; the input reads as it did. -/
def fnExactCorrectGatherUptoRow : OpenClaim := { program := "ytbdmdpaggnaneab", sum := "3856fe29416e2780df3a85c7750748bea4ce5d4b43163baa544fae3c390860c8", func := "loop.example/g01231/laws.FnExactCorrectGather", spec := "fnExactCorrectGather", inPlace := ["math.sqrt", "math.archFloor", "math.Float64bits", "math.Float64frombits", "math.archTrunc"], unfollowed := true, recurses := true, apart := false, narrowed := true }
def FnExactCorrectGatherUptoSaid : Prop := fnExactCorrectGatherUptoRow.holds Try.pinned (OpenSpec.upto fnExactCorrectGatherSpec)

/-- 'laws.FnExactBendGather', WHERE WHAT IT READS IS OF BULK AT MOST 1048576: true; the input reads as it did. -/
def fnExactBendGatherUptoRow : OpenClaim := { program := "ytbdmdpaggnaneab", sum := "3856fe29416e2780df3a85c7750748bea4ce5d4b43163baa544fae3c390860c8", func := "loop.example/g01231/laws.FnExactBendGather", spec := "fnExactBendGather", inPlace := ["math.sqrt", "math.archFloor", "math.Float64bits", "math.Float64frombits", "math.archTrunc"], unfollowed := true, recurses := true, apart := false, narrowed := true }
def FnExactBendGatherUptoSaid : Prop := fnExactBendGatherUptoRow.holds Try.pinned (OpenSpec.upto fnExactBendGatherSpec)

/-- 'laws.FnExactMuteGather', WHERE WHAT IT READS IS OF BULK AT MOST 1048576: true; the input reads as it did. -/
def fnExactMuteGatherUptoRow : OpenClaim := { program := "ytbdmdpaggnaneab", sum := "3856fe29416e2780df3a85c7750748bea4ce5d4b43163baa544fae3c390860c8", func := "loop.example/g01231/laws.FnExactMuteGather", spec := "fnExactMuteGather", inPlace := ["math.Float64bits", "math.Float64frombits"], apart := false, narrowed := true }
def FnExactMuteGatherUptoSaid : Prop := fnExactMuteGatherUptoRow.holds Try.pinned (OpenSpec.upto fnExactMuteGatherSpec)

/-- 'laws.FnExactMuteStretch', WHERE WHAT IT READS IS OF BULK AT MOST 1048576: true; the input reads as it did. -/
def fnExactMuteStretchUptoRow : OpenClaim := { program := "ytbdmdpaggnaneab", sum := "3856fe29416e2780df3a85c7750748bea4ce5d4b43163baa544fae3c390860c8", func := "loop.example/g01231/laws.FnExactMuteStretch", spec := "fnExactMuteStretch", inPlace := ["math.sqrt", "math.Float64bits", "math.Float64frombits"], unfollowed := true, recurses := true, apart := false, narrowed := true }
def FnExactMuteStretchUptoSaid : Prop := fnExactMuteStretchUptoRow.holds Try.pinned (OpenSpec.upto fnExactMuteStretchSpec)

/-- 'laws.FnExactShiftGather', WHERE WHAT IT READS IS OF BULK AT MOST 1048576: true; the input reads as it did. -/
def fnExactShiftGatherUptoRow : OpenClaim := { program := "ytbdmdpaggnaneab", sum := "3856fe29416e2780df3a85c7750748bea4ce5d4b43163baa544fae3c390860c8", func := "loop.example/g01231/laws.FnExactShiftGather", spec := "fnExactShiftGather", inPlace := ["math.Float64bits", "math.Float64frombits"], apart := false, narrowed := true }
def FnExactShiftGatherUptoSaid : Prop := fnExactShiftGatherUptoRow.holds Try.pinned (OpenSpec.upto fnExactShiftGatherSpec)

/-- 'laws.FnExactSortGather', WHERE WHAT IT READS IS OF BULK AT MOST 1048576: true; the input reads as it did. -/
def fnExactSortGatherUptoRow : OpenClaim := { program := "ytbdmdpaggnaneab", sum := "3856fe29416e2780df3a85c7750748bea4ce5d4b43163baa544fae3c390860c8", func := "loop.example/g01231/laws.FnExactSortGather", spec := "fnExactSortGather", inPlace := ["math.Float64bits", "math.Float64frombits"], unfollowed := true, recurses := true, apart := false, narrowed := true }
def FnExactSortGatherUptoSaid : Prop := fnExactSortGatherUptoRow.holds Try.pinned (OpenSpec.upto fnExactSortGatherSpec)

/-- 'laws.FnExactKeepPlaces', WHERE WHAT IT READS IS OF BULK AT MOST 1048576: true; the input reads as it did. -/
def fnExactKeepPlacesUptoRow : OpenClaim := { program := "ytbdmdpaggnaneab", sum := "3856fe29416e2780df3a85c7750748bea4ce5d4b43163baa544fae3c390860c8", func := "loop.example/g01231/laws.FnExactKeepPlaces", spec := "fnExactKeepPlaces", inPlace := ["math.Float64bits", "math.Float64frombits"], apart := false, narrowed := true }
def FnExactKeepPlacesUptoSaid : Prop := fnExactKeepPlacesUptoRow.holds Try.pinned (OpenSpec.upto fnExactKeepPlacesSpec)

/-- 'laws.FnExactMergeGathers', WHERE WHAT IT READS IS OF BULK AT MOST 1048576: true; the input reads as it did. -/
def fnExactMergeGathersUptoRow : OpenClaim := { program := "ytbdmdpaggnaneab", sum := "3856fe29416e2780df3a85c7750748bea4ce5d4b43163baa544fae3c390860c8", func := "loop.example/g01231/laws.FnExactMergeGathers", spec := "fnExactMergeGathers", inPlace := ["math.Float64bits", "math.Float64frombits"], apart := false, narrowed := true }
def FnExactMergeGathersUptoSaid : Prop := fnExactMergeGathersUptoRow.holds Try.pinned (OpenSpec.upto fnExactMergeGathersSpec)

/-- 'laws.FnExactNormGather', WHERE WHAT IT READS IS OF BULK AT MOST 1048576: true; the input reads as it did. -/
def fnExactNormGatherUptoRow : OpenClaim := { program := "ytbdmdpaggnaneab", sum := "3856fe29416e2780df3a85c7750748bea4ce5d4b43163baa544fae3c390860c8", func := "loop.example/g01231/laws.FnExactNormGather", spec := "fnExactNormGather", inPlace := ["math.Float64bits", "math.Float64frombits"], apart := false, narrowed := true }
def FnExactNormGatherUptoSaid : Prop := fnExactNormGatherUptoRow.holds Try.pinned (OpenSpec.upto fnExactNormGatherSpec)

end Rows
end Go.Proofs.Ytbdmdpaggnaneab
