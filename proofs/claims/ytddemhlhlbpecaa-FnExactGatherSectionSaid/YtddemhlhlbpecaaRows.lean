/-
  No cell of these rows narrows 'for every input' (looked for: loops, veiled, ifaces, maps, wideKeys, modest, calm, conditions, laid).
  DERIVED. THE GIVEN ROWS OF THIS SEAT. 12 by the template 'for every input the law returns true; each argument reads behind the call as it read before'; 0 by the template 'total and deterministic' (their statements: YtddemhlhlbpecaaTotals.lean).
  GIVEN WITH THE SEED: the statements are not yours to turn. If you find one false, say at which input.
  Laid BY PROGRAM, IN A SANDBOX (cutbox-rows.mjs): the forced cells as the released guide's own fill.sh prints them over the translation 482e0021476f098f… (all of the seat's roots in one cut). By AI agents, Wed Nov 11 2026. No macro, syntax, notation, axiom, sorry.
-/
import Derived.Test.YtddemhlhlbpecaaChecked
import GoSem.Claim
import GoSem.ClaimJoined
import GoSem.ClaimMapViews
import Derived.JoinedTies
import Derived.KernelRfl
namespace Go.Proofs.Ytddemhlhlbpecaa
/- THE CELL 'sum', in the pinned program and in every row, IS THE sha256 OF THE DUMP (.gsa) THAT YtddemhlhlbpecaaProg.lean LOADS. Nothing in Lean hashes anything: it is a label: what it is worth is what the hold of that sum in a sandbox is worth. -/
noncomputable def Try.pinned : Pinned := { name := "ytddemhlhlbpecaa", sum := "482e0021476f098fc7a0d2535ddc57832dabe726f4783fd330b9d0cd7573b22e", checked := Try.checked }
namespace Rows
def none {H : Type} : Left H := { results := [], args := [] }

/-- 'laws.FnExactLengthsOf': WHATEVER THE INPUT: true; the input reads as it did. -/
def fnExactLengthsOfSpec : ChangeSpec := { name := "fnExactLengthsOf", fn := fun _ => fun
  | [d1, d2, d3, d4] => { results := [.lit (.bool true)], args := [d1, d2, d3, d4] }
  | _ => none }
def fnExactLengthsOfRow : OpenClaim := { program := "ytddemhlhlbpecaa", sum := "482e0021476f098fc7a0d2535ddc57832dabe726f4783fd330b9d0cd7573b22e", func := "loop.example/g01231/laws.FnExactLengthsOf", spec := "fnExactLengthsOf", inPlace := ["math.sqrt", "math.archFloor", "math.Float64bits", "math.Float64frombits", "math.archTrunc"], apart := false }
def FnExactLengthsOfSaid : Prop := fnExactLengthsOfRow.holds Try.pinned (OpenSpec.ofChange fnExactLengthsOfSpec)

/-- ITS FALSE NEIGHBOUR: 'it returns false'. Refute it at one input. -/
def fnExactLengthsOfWrong : ChangeSpec := { name := "fnExactLengthsOf", fn := fun _ => fun
  | [d1, d2, d3, d4] => { results := [.lit (.bool false)], args := [d1, d2, d3, d4] }
  | _ => none }
def FnExactLengthsOfWrongFalsely : Prop := fnExactLengthsOfRow.holds Try.pinned (OpenSpec.ofChange fnExactLengthsOfWrong)

/-- 'laws.FnExactTimeAlong': WHATEVER THE INPUT: true; the input reads as it did. -/
def fnExactTimeAlongSpec : ChangeSpec := { name := "fnExactTimeAlong", fn := fun _ => fun
  | [d1, d2, d3] => { results := [.lit (.bool true)], args := [d1, d2, d3] }
  | _ => none }
def fnExactTimeAlongRow : OpenClaim := { program := "ytddemhlhlbpecaa", sum := "482e0021476f098fc7a0d2535ddc57832dabe726f4783fd330b9d0cd7573b22e", func := "loop.example/g01231/laws.FnExactTimeAlong", spec := "fnExactTimeAlong", inPlace := ["math.sqrt", "math.archFloor", "math.Float64bits", "math.Float64frombits", "math.archTrunc"], apart := false }
def FnExactTimeAlongSaid : Prop := fnExactTimeAlongRow.holds Try.pinned (OpenSpec.ofChange fnExactTimeAlongSpec)

/-- ITS FALSE NEIGHBOUR: 'it returns false'. Refute it at one input. -/
def fnExactTimeAlongWrong : ChangeSpec := { name := "fnExactTimeAlong", fn := fun _ => fun
  | [d1, d2, d3] => { results := [.lit (.bool false)], args := [d1, d2, d3] }
  | _ => none }
def FnExactTimeAlongWrongFalsely : Prop := fnExactTimeAlongRow.holds Try.pinned (OpenSpec.ofChange fnExactTimeAlongWrong)

/-- 'laws.FnExactAddSections': WHATEVER THE INPUT: true; the input reads as it did. -/
def fnExactAddSectionsSpec : ChangeSpec := { name := "fnExactAddSections", fn := fun _ => fun
  | [d1, d2] => { results := [.lit (.bool true)], args := [d1, d2] }
  | _ => none }
def fnExactAddSectionsRow : OpenClaim := { program := "ytddemhlhlbpecaa", sum := "482e0021476f098fc7a0d2535ddc57832dabe726f4783fd330b9d0cd7573b22e", func := "loop.example/g01231/laws.FnExactAddSections", spec := "fnExactAddSections", unfollowed := true, recurses := true, apart := false }
def FnExactAddSectionsSaid : Prop := fnExactAddSectionsRow.holds Try.pinned (OpenSpec.ofChange fnExactAddSectionsSpec)

/-- ITS FALSE NEIGHBOUR: 'it returns false'. Refute it at one input. -/
def fnExactAddSectionsWrong : ChangeSpec := { name := "fnExactAddSections", fn := fun _ => fun
  | [d1, d2] => { results := [.lit (.bool false)], args := [d1, d2] }
  | _ => none }
def FnExactAddSectionsWrongFalsely : Prop := fnExactAddSectionsRow.holds Try.pinned (OpenSpec.ofChange fnExactAddSectionsWrong)

/-- 'laws.FnExactSpreadSection': WHATEVER THE INPUT: true; the input reads as it did. -/
def fnExactSpreadSectionSpec : ChangeSpec := { name := "fnExactSpreadSection", fn := fun _ => fun
  | [d1, d2] => { results := [.lit (.bool true)], args := [d1, d2] }
  | _ => none }
def fnExactSpreadSectionRow : OpenClaim := { program := "ytddemhlhlbpecaa", sum := "482e0021476f098fc7a0d2535ddc57832dabe726f4783fd330b9d0cd7573b22e", func := "loop.example/g01231/laws.FnExactSpreadSection", spec := "fnExactSpreadSection", inPlace := ["math.sqrt", "math.archFloor", "math.Float64bits", "math.Float64frombits", "math.archTrunc"], unfollowed := true, recurses := true, apart := false }
def FnExactSpreadSectionSaid : Prop := fnExactSpreadSectionRow.holds Try.pinned (OpenSpec.ofChange fnExactSpreadSectionSpec)

/-- ITS FALSE NEIGHBOUR: 'it returns false'. Refute it at one input. -/
def fnExactSpreadSectionWrong : ChangeSpec := { name := "fnExactSpreadSection", fn := fun _ => fun
  | [d1, d2] => { results := [.lit (.bool false)], args := [d1, d2] }
  | _ => none }
def FnExactSpreadSectionWrongFalsely : Prop := fnExactSpreadSectionRow.holds Try.pinned (OpenSpec.ofChange fnExactSpreadSectionWrong)

/-- 'laws.FnExactGatherSection': WHATEVER THE INPUT: true; the input reads as it did. -/
def fnExactGatherSectionSpec : ChangeSpec := { name := "fnExactGatherSection", fn := fun _ => fun
  | [d1, d2] => { results := [.lit (.bool true)], args := [d1, d2] }
  | _ => none }
def fnExactGatherSectionRow : OpenClaim := { program := "ytddemhlhlbpecaa", sum := "482e0021476f098fc7a0d2535ddc57832dabe726f4783fd330b9d0cd7573b22e", func := "loop.example/g01231/laws.FnExactGatherSection", spec := "fnExactGatherSection", inPlace := ["math.sqrt", "math.archFloor", "math.Float64bits", "math.Float64frombits", "math.archTrunc"], unfollowed := true, recurses := true, apart := false }
def FnExactGatherSectionSaid : Prop := fnExactGatherSectionRow.holds Try.pinned (OpenSpec.ofChange fnExactGatherSectionSpec)

/-- ITS FALSE NEIGHBOUR: 'it returns false'. Refute it at one input. -/
def fnExactGatherSectionWrong : ChangeSpec := { name := "fnExactGatherSection", fn := fun _ => fun
  | [d1, d2] => { results := [.lit (.bool false)], args := [d1, d2] }
  | _ => none }
def FnExactGatherSectionWrongFalsely : Prop := fnExactGatherSectionRow.holds Try.pinned (OpenSpec.ofChange fnExactGatherSectionWrong)

/-- 'laws.FnExactNormGather': WHATEVER THE INPUT: true; the input reads as it did. -/
def fnExactNormGatherSpec : ChangeSpec := { name := "fnExactNormGather", fn := fun _ => fun
  | [d] => { results := [.lit (.bool true)], args := [d] }
  | _ => none }
def fnExactNormGatherRow : OpenClaim := { program := "ytddemhlhlbpecaa", sum := "482e0021476f098fc7a0d2535ddc57832dabe726f4783fd330b9d0cd7573b22e", func := "loop.example/g01231/laws.FnExactNormGather", spec := "fnExactNormGather", inPlace := ["math.Float64bits", "math.Float64frombits"], apart := false }
def FnExactNormGatherSaid : Prop := fnExactNormGatherRow.holds Try.pinned (OpenSpec.ofChange fnExactNormGatherSpec)

/-- ITS FALSE NEIGHBOUR: 'it returns false'. Refute it at one input. -/
def fnExactNormGatherWrong : ChangeSpec := { name := "fnExactNormGather", fn := fun _ => fun
  | [d] => { results := [.lit (.bool false)], args := [d] }
  | _ => none }
def FnExactNormGatherWrongFalsely : Prop := fnExactNormGatherRow.holds Try.pinned (OpenSpec.ofChange fnExactNormGatherWrong)

/-- 'laws.FnExactAddEvent': WHATEVER THE INPUT: true; the input reads as it did. -/
def fnExactAddEventSpec : ChangeSpec := { name := "fnExactAddEvent", fn := fun _ => fun
  | [d1, d2, d3, d4] => { results := [.lit (.bool true)], args := [d1, d2, d3, d4] }
  | _ => none }
def fnExactAddEventRow : OpenClaim := { program := "ytddemhlhlbpecaa", sum := "482e0021476f098fc7a0d2535ddc57832dabe726f4783fd330b9d0cd7573b22e", func := "loop.example/g01231/laws.FnExactAddEvent", spec := "fnExactAddEvent", inPlace := ["math.sqrt", "math.archFloor", "math.Float64bits", "math.Float64frombits", "math.archTrunc"], unfollowed := true, recurses := true, apart := false }
def FnExactAddEventSaid : Prop := fnExactAddEventRow.holds Try.pinned (OpenSpec.ofChange fnExactAddEventSpec)

/-- ITS FALSE NEIGHBOUR: 'it returns false'. Refute it at one input. -/
def fnExactAddEventWrong : ChangeSpec := { name := "fnExactAddEvent", fn := fun _ => fun
  | [d1, d2, d3, d4] => { results := [.lit (.bool false)], args := [d1, d2, d3, d4] }
  | _ => none }
def FnExactAddEventWrongFalsely : Prop := fnExactAddEventRow.holds Try.pinned (OpenSpec.ofChange fnExactAddEventWrong)

/-- 'laws.FnExactSortGather': WHATEVER THE INPUT: true; the input reads as it did. -/
def fnExactSortGatherSpec : ChangeSpec := { name := "fnExactSortGather", fn := fun _ => fun
  | [d] => { results := [.lit (.bool true)], args := [d] }
  | _ => none }
def fnExactSortGatherRow : OpenClaim := { program := "ytddemhlhlbpecaa", sum := "482e0021476f098fc7a0d2535ddc57832dabe726f4783fd330b9d0cd7573b22e", func := "loop.example/g01231/laws.FnExactSortGather", spec := "fnExactSortGather", inPlace := ["math.Float64bits", "math.Float64frombits"], unfollowed := true, recurses := true, apart := false }
def FnExactSortGatherSaid : Prop := fnExactSortGatherRow.holds Try.pinned (OpenSpec.ofChange fnExactSortGatherSpec)

/-- ITS FALSE NEIGHBOUR: 'it returns false'. Refute it at one input. -/
def fnExactSortGatherWrong : ChangeSpec := { name := "fnExactSortGather", fn := fun _ => fun
  | [d] => { results := [.lit (.bool false)], args := [d] }
  | _ => none }
def FnExactSortGatherWrongFalsely : Prop := fnExactSortGatherRow.holds Try.pinned (OpenSpec.ofChange fnExactSortGatherWrong)

/-- 'laws.FnExactKeepPlaces': WHATEVER THE INPUT: true; the input reads as it did. -/
def fnExactKeepPlacesSpec : ChangeSpec := { name := "fnExactKeepPlaces", fn := fun _ => fun
  | [d1, d2, d3] => { results := [.lit (.bool true)], args := [d1, d2, d3] }
  | _ => none }
def fnExactKeepPlacesRow : OpenClaim := { program := "ytddemhlhlbpecaa", sum := "482e0021476f098fc7a0d2535ddc57832dabe726f4783fd330b9d0cd7573b22e", func := "loop.example/g01231/laws.FnExactKeepPlaces", spec := "fnExactKeepPlaces", inPlace := ["math.Float64bits", "math.Float64frombits"], apart := false }
def FnExactKeepPlacesSaid : Prop := fnExactKeepPlacesRow.holds Try.pinned (OpenSpec.ofChange fnExactKeepPlacesSpec)

/-- ITS FALSE NEIGHBOUR: 'it returns false'. Refute it at one input. -/
def fnExactKeepPlacesWrong : ChangeSpec := { name := "fnExactKeepPlaces", fn := fun _ => fun
  | [d1, d2, d3] => { results := [.lit (.bool false)], args := [d1, d2, d3] }
  | _ => none }
def FnExactKeepPlacesWrongFalsely : Prop := fnExactKeepPlacesRow.holds Try.pinned (OpenSpec.ofChange fnExactKeepPlacesWrong)

/-- 'laws.FnExactMergeGathers': WHATEVER THE INPUT: true; the input reads as it did. -/
def fnExactMergeGathersSpec : ChangeSpec := { name := "fnExactMergeGathers", fn := fun _ => fun
  | [d1, d2] => { results := [.lit (.bool true)], args := [d1, d2] }
  | _ => none }
def fnExactMergeGathersRow : OpenClaim := { program := "ytddemhlhlbpecaa", sum := "482e0021476f098fc7a0d2535ddc57832dabe726f4783fd330b9d0cd7573b22e", func := "loop.example/g01231/laws.FnExactMergeGathers", spec := "fnExactMergeGathers", inPlace := ["math.Float64bits", "math.Float64frombits"], apart := false }
def FnExactMergeGathersSaid : Prop := fnExactMergeGathersRow.holds Try.pinned (OpenSpec.ofChange fnExactMergeGathersSpec)

/-- ITS FALSE NEIGHBOUR: 'it returns false'. Refute it at one input. -/
def fnExactMergeGathersWrong : ChangeSpec := { name := "fnExactMergeGathers", fn := fun _ => fun
  | [d1, d2] => { results := [.lit (.bool false)], args := [d1, d2] }
  | _ => none }
def FnExactMergeGathersWrongFalsely : Prop := fnExactMergeGathersRow.holds Try.pinned (OpenSpec.ofChange fnExactMergeGathersWrong)

/-- 'laws.FnExactSameGround': WHATEVER THE INPUT: true; the input reads as it did. -/
def fnExactSameGroundSpec : ChangeSpec := { name := "fnExactSameGround", fn := fun _ => fun
  | [d1, d2] => { results := [.lit (.bool true)], args := [d1, d2] }
  | _ => none }
def fnExactSameGroundRow : OpenClaim := { program := "ytddemhlhlbpecaa", sum := "482e0021476f098fc7a0d2535ddc57832dabe726f4783fd330b9d0cd7573b22e", func := "loop.example/g01231/laws.FnExactSameGround", spec := "fnExactSameGround", inPlace := ["math.Float32bits"], apart := false }
def FnExactSameGroundSaid : Prop := fnExactSameGroundRow.holds Try.pinned (OpenSpec.ofChange fnExactSameGroundSpec)

/-- ITS FALSE NEIGHBOUR: 'it returns false'. Refute it at one input. -/
def fnExactSameGroundWrong : ChangeSpec := { name := "fnExactSameGround", fn := fun _ => fun
  | [d1, d2] => { results := [.lit (.bool false)], args := [d1, d2] }
  | _ => none }
def FnExactSameGroundWrongFalsely : Prop := fnExactSameGroundRow.holds Try.pinned (OpenSpec.ofChange fnExactSameGroundWrong)

/-- 'laws.FnExactTurnGround': WHATEVER THE INPUT: true; the input reads as it did. -/
def fnExactTurnGroundSpec : ChangeSpec := { name := "fnExactTurnGround", fn := fun _ => fun
  | [d1, d2] => { results := [.lit (.bool true)], args := [d1, d2] }
  | _ => none }
def fnExactTurnGroundRow : OpenClaim := { program := "ytddemhlhlbpecaa", sum := "482e0021476f098fc7a0d2535ddc57832dabe726f4783fd330b9d0cd7573b22e", func := "loop.example/g01231/laws.FnExactTurnGround", spec := "fnExactTurnGround", inPlace := ["math.Float64bits", "math.Float64frombits"], apart := false }
def FnExactTurnGroundSaid : Prop := fnExactTurnGroundRow.holds Try.pinned (OpenSpec.ofChange fnExactTurnGroundSpec)

/-- ITS FALSE NEIGHBOUR: 'it returns false'. Refute it at one input. -/
def fnExactTurnGroundWrong : ChangeSpec := { name := "fnExactTurnGround", fn := fun _ => fun
  | [d1, d2] => { results := [.lit (.bool false)], args := [d1, d2] }
  | _ => none }
def FnExactTurnGroundWrongFalsely : Prop := fnExactTurnGroundRow.holds Try.pinned (OpenSpec.ofChange fnExactTurnGroundWrong)

/- THE SECOND FORM. 'bulk': how many values and letters a reading holds, each counted each time it is reached (what is shared counts as often as it is met; a slice's spare places count too). A statement '..UptoSaid' is the law's where the arguments, and the package variables that the reading takes, are together of bulk at most 1048576: NARROWER than '..Said'. Prove '..Said' where nothing that the law and all that it calls make is longer than what came in: it says more and counts as full. Else prove '..UptoSaid'. A law counts once. -/
mutual
def uptoBulk {H : Type} : DataW H → Nat
  | .lit (.string bytes) => bytes.length + 1
  | .lit _ => 1
  | .nil => 1
  | .ptr d => uptoBulk d + 1
  | .slice elems spare => uptoBulkAll elems + uptoBulkAll spare + 1
  | .agg parts => uptoBulkAll parts + 1
  | .iface _ d => uptoBulk d + 1
  | .map entries => uptoBulkEntries entries + 1
  | .held _ => 1
def uptoBulkAll {H : Type} : List (DataW H) → Nat
  | [] => 0
  | d :: r => uptoBulk d + uptoBulkAll r
def uptoBulkEntries {H : Type} : List (Lit × DataW H) → Nat
  | [] => 0
  | x :: r => uptoBulkEntry x + uptoBulkEntries r
def uptoBulkEntry {H : Type} : Lit × DataW H → Nat
  | (.string bytes, d) => bytes.length + uptoBulk d + 1
  | (_, d) => uptoBulk d + 1
 end
def uptoSmall : (H : Type) → List (DataW H) → Bool := fun _ ds => decide (uptoBulkAll ds ≤ 1048576)
def OpenSpec.upto (s : _root_.Go.ChangeSpec) : _root_.Go.OpenSpec := { _root_.Go.OpenSpec.ofChange s with cond := some uptoSmall }

/-- 'laws.FnExactLengthsOf', WHERE WHAT IT READS IS OF BULK AT MOST 1048576: true; the input reads as it did. -/
def fnExactLengthsOfUptoRow : OpenClaim := { program := "ytddemhlhlbpecaa", sum := "482e0021476f098fc7a0d2535ddc57832dabe726f4783fd330b9d0cd7573b22e", func := "loop.example/g01231/laws.FnExactLengthsOf", spec := "fnExactLengthsOf", inPlace := ["math.sqrt", "math.archFloor", "math.Float64bits", "math.Float64frombits", "math.archTrunc"], apart := false, narrowed := true }
def FnExactLengthsOfUptoSaid : Prop := fnExactLengthsOfUptoRow.holds Try.pinned (OpenSpec.upto fnExactLengthsOfSpec)

/-- 'laws.FnExactTimeAlong', WHERE WHAT IT READS IS OF BULK AT MOST 1048576: true; the input reads as it did. -/
def fnExactTimeAlongUptoRow : OpenClaim := { program := "ytddemhlhlbpecaa", sum := "482e0021476f098fc7a0d2535ddc57832dabe726f4783fd330b9d0cd7573b22e", func := "loop.example/g01231/laws.FnExactTimeAlong", spec := "fnExactTimeAlong", inPlace := ["math.sqrt", "math.archFloor", "math.Float64bits", "math.Float64frombits", "math.archTrunc"], apart := false, narrowed := true }
def FnExactTimeAlongUptoSaid : Prop := fnExactTimeAlongUptoRow.holds Try.pinned (OpenSpec.upto fnExactTimeAlongSpec)

/-- 'laws.FnExactAddSections', WHERE WHAT IT READS IS OF BULK AT MOST 1048576: true; the input reads as it did. -/
def fnExactAddSectionsUptoRow : OpenClaim := { program := "ytddemhlhlbpecaa", sum := "482e0021476f098fc7a0d2535ddc57832dabe726f4783fd330b9d0cd7573b22e", func := "loop.example/g01231/laws.FnExactAddSections", spec := "fnExactAddSections", unfollowed := true, recurses := true, apart := false, narrowed := true }
def FnExactAddSectionsUptoSaid : Prop := fnExactAddSectionsUptoRow.holds Try.pinned (OpenSpec.upto fnExactAddSectionsSpec)

/-- 'laws.FnExactSpreadSection', WHERE WHAT IT READS IS OF BULK AT MOST 1048576: true; the input reads as it did. -/
def fnExactSpreadSectionUptoRow : OpenClaim := { program := "ytddemhlhlbpecaa", sum := "482e0021476f098fc7a0d2535ddc57832dabe726f4783fd330b9d0cd7573b22e", func := "loop.example/g01231/laws.FnExactSpreadSection", spec := "fnExactSpreadSection", inPlace := ["math.sqrt", "math.archFloor", "math.Float64bits", "math.Float64frombits", "math.archTrunc"], unfollowed := true, recurses := true, apart := false, narrowed := true }
def FnExactSpreadSectionUptoSaid : Prop := fnExactSpreadSectionUptoRow.holds Try.pinned (OpenSpec.upto fnExactSpreadSectionSpec)

/-- 'laws.FnExactGatherSection', WHERE WHAT IT READS IS OF BULK AT MOST 1048576: true; the input reads as it did. -/
def fnExactGatherSectionUptoRow : OpenClaim := { program := "ytddemhlhlbpecaa", sum := "482e0021476f098fc7a0d2535ddc57832dabe726f4783fd330b9d0cd7573b22e", func := "loop.example/g01231/laws.FnExactGatherSection", spec := "fnExactGatherSection", inPlace := ["math.sqrt", "math.archFloor", "math.Float64bits", "math.Float64frombits", "math.archTrunc"], unfollowed := true, recurses := true, apart := false, narrowed := true }
def FnExactGatherSectionUptoSaid : Prop := fnExactGatherSectionUptoRow.holds Try.pinned (OpenSpec.upto fnExactGatherSectionSpec)

/-- 'laws.FnExactNormGather', WHERE WHAT IT READS IS OF BULK AT MOST 1048576: true; the input reads as it did. -/
def fnExactNormGatherUptoRow : OpenClaim := { program := "ytddemhlhlbpecaa", sum := "482e0021476f098fc7a0d2535ddc57832dabe726f4783fd330b9d0cd7573b22e", func := "loop.example/g01231/laws.FnExactNormGather", spec := "fnExactNormGather", inPlace := ["math.Float64bits", "math.Float64frombits"], apart := false, narrowed := true }
def FnExactNormGatherUptoSaid : Prop := fnExactNormGatherUptoRow.holds Try.pinned (OpenSpec.upto fnExactNormGatherSpec)

/-- 'laws.FnExactAddEvent', WHERE WHAT IT READS IS OF BULK AT MOST 1048576: true; the input reads as it did. -/
def fnExactAddEventUptoRow : OpenClaim := { program := "ytddemhlhlbpecaa", sum := "482e0021476f098fc7a0d2535ddc57832dabe726f4783fd330b9d0cd7573b22e", func := "loop.example/g01231/laws.FnExactAddEvent", spec := "fnExactAddEvent", inPlace := ["math.sqrt", "math.archFloor", "math.Float64bits", "math.Float64frombits", "math.archTrunc"], unfollowed := true, recurses := true, apart := false, narrowed := true }
def FnExactAddEventUptoSaid : Prop := fnExactAddEventUptoRow.holds Try.pinned (OpenSpec.upto fnExactAddEventSpec)

/-- 'laws.FnExactSortGather', WHERE WHAT IT READS IS OF BULK AT MOST 1048576: true; the input reads as it did. -/
def fnExactSortGatherUptoRow : OpenClaim := { program := "ytddemhlhlbpecaa", sum := "482e0021476f098fc7a0d2535ddc57832dabe726f4783fd330b9d0cd7573b22e", func := "loop.example/g01231/laws.FnExactSortGather", spec := "fnExactSortGather", inPlace := ["math.Float64bits", "math.Float64frombits"], unfollowed := true, recurses := true, apart := false, narrowed := true }
def FnExactSortGatherUptoSaid : Prop := fnExactSortGatherUptoRow.holds Try.pinned (OpenSpec.upto fnExactSortGatherSpec)

/-- 'laws.FnExactKeepPlaces', WHERE WHAT IT READS IS OF BULK AT MOST 1048576: true; the input reads as it did. -/
def fnExactKeepPlacesUptoRow : OpenClaim := { program := "ytddemhlhlbpecaa", sum := "482e0021476f098fc7a0d2535ddc57832dabe726f4783fd330b9d0cd7573b22e", func := "loop.example/g01231/laws.FnExactKeepPlaces", spec := "fnExactKeepPlaces", inPlace := ["math.Float64bits", "math.Float64frombits"], apart := false, narrowed := true }
def FnExactKeepPlacesUptoSaid : Prop := fnExactKeepPlacesUptoRow.holds Try.pinned (OpenSpec.upto fnExactKeepPlacesSpec)

/-- 'laws.FnExactMergeGathers', WHERE WHAT IT READS IS OF BULK AT MOST 1048576: true; the input reads as it did. -/
def fnExactMergeGathersUptoRow : OpenClaim := { program := "ytddemhlhlbpecaa", sum := "482e0021476f098fc7a0d2535ddc57832dabe726f4783fd330b9d0cd7573b22e", func := "loop.example/g01231/laws.FnExactMergeGathers", spec := "fnExactMergeGathers", inPlace := ["math.Float64bits", "math.Float64frombits"], apart := false, narrowed := true }
def FnExactMergeGathersUptoSaid : Prop := fnExactMergeGathersUptoRow.holds Try.pinned (OpenSpec.upto fnExactMergeGathersSpec)

/-- 'laws.FnExactSameGround', WHERE WHAT IT READS IS OF BULK AT MOST 1048576: true; the input reads as it did. -/
def fnExactSameGroundUptoRow : OpenClaim := { program := "ytddemhlhlbpecaa", sum := "482e0021476f098fc7a0d2535ddc57832dabe726f4783fd330b9d0cd7573b22e", func := "loop.example/g01231/laws.FnExactSameGround", spec := "fnExactSameGround", inPlace := ["math.Float32bits"], apart := false, narrowed := true }
def FnExactSameGroundUptoSaid : Prop := fnExactSameGroundUptoRow.holds Try.pinned (OpenSpec.upto fnExactSameGroundSpec)

/-- 'laws.FnExactTurnGround', WHERE WHAT IT READS IS OF BULK AT MOST 1048576: true; the input reads as it did. -/
def fnExactTurnGroundUptoRow : OpenClaim := { program := "ytddemhlhlbpecaa", sum := "482e0021476f098fc7a0d2535ddc57832dabe726f4783fd330b9d0cd7573b22e", func := "loop.example/g01231/laws.FnExactTurnGround", spec := "fnExactTurnGround", inPlace := ["math.Float64bits", "math.Float64frombits"], apart := false, narrowed := true }
def FnExactTurnGroundUptoSaid : Prop := fnExactTurnGroundUptoRow.holds Try.pinned (OpenSpec.upto fnExactTurnGroundSpec)

end Rows
end Go.Proofs.Ytddemhlhlbpecaa
