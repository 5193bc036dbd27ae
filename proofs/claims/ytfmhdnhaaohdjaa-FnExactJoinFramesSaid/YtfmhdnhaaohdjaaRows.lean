/-
  No cell of these rows narrows 'for every input' (looked for: loops, veiled, ifaces, maps, wideKeys, modest, calm, conditions, laid).
  DERIVED. THE GIVEN ROWS OF THIS SEAT. 12 by the template 'for every input the law returns true; each argument reads behind the call as it read before'; 0 by the template 'total and deterministic' (their statements: YtfmhdnhaaohdjaaTotals.lean).
  GIVEN WITH THE SEED: the statements are not yours to turn. If you find one false, say at which input.
  Laid BY PROGRAM, IN A SANDBOX (cutbox-rows.mjs): the forced cells as the released guide's own fill.sh prints them over the translation c6cd43789f2ff672… (all of the seat's roots in one cut). By AI agents, Wed Nov 11 2026. No macro, syntax, notation, axiom, sorry.
-/
import Derived.Test.YtfmhdnhaaohdjaaChecked
import GoSem.Claim
import GoSem.ClaimJoined
import GoSem.ClaimMapViews
import Derived.JoinedTies
import Derived.KernelRfl
namespace Go.Proofs.Ytfmhdnhaaohdjaa
/- THE CELL 'sum', in the pinned program and in every row, IS THE sha256 OF THE DUMP (.gsa) THAT YtfmhdnhaaohdjaaProg.lean LOADS. Nothing in Lean hashes anything: it is a label: what it is worth is what the hold of that sum in a sandbox is worth. -/
noncomputable def Try.pinned : Pinned := { name := "ytfmhdnhaaohdjaa", sum := "c6cd43789f2ff672ac215581a88a1a213251973560c18eb01b5aa685aae6c2af", checked := Try.checked }
namespace Rows
def none {H : Type} : Left H := { results := [], args := [] }

/-- 'laws.FnExactValidFrame': WHATEVER THE INPUT: true; the input reads as it did. -/
def fnExactValidFrameSpec : ChangeSpec := { name := "fnExactValidFrame", fn := fun _ => fun
  | [d] => { results := [.lit (.bool true)], args := [d] }
  | _ => none }
def fnExactValidFrameRow : OpenClaim := { program := "ytfmhdnhaaohdjaa", sum := "c6cd43789f2ff672ac215581a88a1a213251973560c18eb01b5aa685aae6c2af", func := "loop.example/g01231/laws.FnExactValidFrame", spec := "fnExactValidFrame", apart := false }
def FnExactValidFrameSaid : Prop := fnExactValidFrameRow.holds Try.pinned (OpenSpec.ofChange fnExactValidFrameSpec)

/-- ITS FALSE NEIGHBOUR: 'it returns false'. Refute it at one input. -/
def fnExactValidFrameWrong : ChangeSpec := { name := "fnExactValidFrame", fn := fun _ => fun
  | [d] => { results := [.lit (.bool false)], args := [d] }
  | _ => none }
def FnExactValidFrameWrongFalsely : Prop := fnExactValidFrameRow.holds Try.pinned (OpenSpec.ofChange fnExactValidFrameWrong)

/-- 'laws.FnExactAreFrames': WHATEVER THE INPUT: true; the input reads as it did. -/
def fnExactAreFramesSpec : ChangeSpec := { name := "fnExactAreFrames", fn := fun _ => fun
  | [d] => { results := [.lit (.bool true)], args := [d] }
  | _ => none }
def fnExactAreFramesRow : OpenClaim := { program := "ytfmhdnhaaohdjaa", sum := "c6cd43789f2ff672ac215581a88a1a213251973560c18eb01b5aa685aae6c2af", func := "loop.example/g01231/laws.FnExactAreFrames", spec := "fnExactAreFrames", apart := false }
def FnExactAreFramesSaid : Prop := fnExactAreFramesRow.holds Try.pinned (OpenSpec.ofChange fnExactAreFramesSpec)

/-- ITS FALSE NEIGHBOUR: 'it returns false'. Refute it at one input. -/
def fnExactAreFramesWrong : ChangeSpec := { name := "fnExactAreFrames", fn := fun _ => fun
  | [d] => { results := [.lit (.bool false)], args := [d] }
  | _ => none }
def FnExactAreFramesWrongFalsely : Prop := fnExactAreFramesRow.holds Try.pinned (OpenSpec.ofChange fnExactAreFramesWrong)

/-- 'laws.FnExactLateFrames': WHATEVER THE INPUT: true; the input reads as it did. -/
def fnExactLateFramesSpec : ChangeSpec := { name := "fnExactLateFrames", fn := fun _ => fun
  | [d] => { results := [.lit (.bool true)], args := [d] }
  | _ => none }
def fnExactLateFramesRow : OpenClaim := { program := "ytfmhdnhaaohdjaa", sum := "c6cd43789f2ff672ac215581a88a1a213251973560c18eb01b5aa685aae6c2af", func := "loop.example/g01231/laws.FnExactLateFrames", spec := "fnExactLateFrames", apart := false }
def FnExactLateFramesSaid : Prop := fnExactLateFramesRow.holds Try.pinned (OpenSpec.ofChange fnExactLateFramesSpec)

/-- ITS FALSE NEIGHBOUR: 'it returns false'. Refute it at one input. -/
def fnExactLateFramesWrong : ChangeSpec := { name := "fnExactLateFrames", fn := fun _ => fun
  | [d] => { results := [.lit (.bool false)], args := [d] }
  | _ => none }
def FnExactLateFramesWrongFalsely : Prop := fnExactLateFramesRow.holds Try.pinned (OpenSpec.ofChange fnExactLateFramesWrong)

/-- 'laws.FnExactStationsOf': WHATEVER THE INPUT: true; the input reads as it did. -/
def fnExactStationsOfSpec : ChangeSpec := { name := "fnExactStationsOf", fn := fun _ => fun
  | [d] => { results := [.lit (.bool true)], args := [d] }
  | _ => none }
def fnExactStationsOfRow : OpenClaim := { program := "ytfmhdnhaaohdjaa", sum := "c6cd43789f2ff672ac215581a88a1a213251973560c18eb01b5aa685aae6c2af", func := "loop.example/g01231/laws.FnExactStationsOf", spec := "fnExactStationsOf", apart := false }
def FnExactStationsOfSaid : Prop := fnExactStationsOfRow.holds Try.pinned (OpenSpec.ofChange fnExactStationsOfSpec)

/-- ITS FALSE NEIGHBOUR: 'it returns false'. Refute it at one input. -/
def fnExactStationsOfWrong : ChangeSpec := { name := "fnExactStationsOf", fn := fun _ => fun
  | [d] => { results := [.lit (.bool false)], args := [d] }
  | _ => none }
def FnExactStationsOfWrongFalsely : Prop := fnExactStationsOfRow.holds Try.pinned (OpenSpec.ofChange fnExactStationsOfWrong)

/-- 'laws.FnExactSplitFrame': WHATEVER THE INPUT: true; the input reads as it did. -/
def fnExactSplitFrameSpec : ChangeSpec := { name := "fnExactSplitFrame", fn := fun _ => fun
  | [d1, d2] => { results := [.lit (.bool true)], args := [d1, d2] }
  | _ => none }
def fnExactSplitFrameRow : OpenClaim := { program := "ytfmhdnhaaohdjaa", sum := "c6cd43789f2ff672ac215581a88a1a213251973560c18eb01b5aa685aae6c2af", func := "loop.example/g01231/laws.FnExactSplitFrame", spec := "fnExactSplitFrame", apart := false }
def FnExactSplitFrameSaid : Prop := fnExactSplitFrameRow.holds Try.pinned (OpenSpec.ofChange fnExactSplitFrameSpec)

/-- ITS FALSE NEIGHBOUR: 'it returns false'. Refute it at one input. -/
def fnExactSplitFrameWrong : ChangeSpec := { name := "fnExactSplitFrame", fn := fun _ => fun
  | [d1, d2] => { results := [.lit (.bool false)], args := [d1, d2] }
  | _ => none }
def FnExactSplitFrameWrongFalsely : Prop := fnExactSplitFrameRow.holds Try.pinned (OpenSpec.ofChange fnExactSplitFrameWrong)

/-- 'laws.FnExactSortFrames': WHATEVER THE INPUT: true; the input reads as it did. -/
def fnExactSortFramesSpec : ChangeSpec := { name := "fnExactSortFrames", fn := fun _ => fun
  | [d] => { results := [.lit (.bool true)], args := [d] }
  | _ => none }
def fnExactSortFramesRow : OpenClaim := { program := "ytfmhdnhaaohdjaa", sum := "c6cd43789f2ff672ac215581a88a1a213251973560c18eb01b5aa685aae6c2af", func := "loop.example/g01231/laws.FnExactSortFrames", spec := "fnExactSortFrames", unfollowed := true, recurses := true, apart := false }
def FnExactSortFramesSaid : Prop := fnExactSortFramesRow.holds Try.pinned (OpenSpec.ofChange fnExactSortFramesSpec)

/-- ITS FALSE NEIGHBOUR: 'it returns false'. Refute it at one input. -/
def fnExactSortFramesWrong : ChangeSpec := { name := "fnExactSortFrames", fn := fun _ => fun
  | [d] => { results := [.lit (.bool false)], args := [d] }
  | _ => none }
def FnExactSortFramesWrongFalsely : Prop := fnExactSortFramesRow.holds Try.pinned (OpenSpec.ofChange fnExactSortFramesWrong)

/-- 'laws.FnExactOfStation': WHATEVER THE INPUT: true; the input reads as it did. -/
def fnExactOfStationSpec : ChangeSpec := { name := "fnExactOfStation", fn := fun _ => fun
  | [d1, d2] => { results := [.lit (.bool true)], args := [d1, d2] }
  | _ => none }
def fnExactOfStationRow : OpenClaim := { program := "ytfmhdnhaaohdjaa", sum := "c6cd43789f2ff672ac215581a88a1a213251973560c18eb01b5aa685aae6c2af", func := "loop.example/g01231/laws.FnExactOfStation", spec := "fnExactOfStation", unfollowed := true, recurses := true, apart := false }
def FnExactOfStationSaid : Prop := fnExactOfStationRow.holds Try.pinned (OpenSpec.ofChange fnExactOfStationSpec)

/-- ITS FALSE NEIGHBOUR: 'it returns false'. Refute it at one input. -/
def fnExactOfStationWrong : ChangeSpec := { name := "fnExactOfStation", fn := fun _ => fun
  | [d1, d2] => { results := [.lit (.bool false)], args := [d1, d2] }
  | _ => none }
def FnExactOfStationWrongFalsely : Prop := fnExactOfStationRow.holds Try.pinned (OpenSpec.ofChange fnExactOfStationWrong)

/-- 'laws.FnExactGapsOf': WHATEVER THE INPUT: true; the input reads as it did. -/
def fnExactGapsOfSpec : ChangeSpec := { name := "fnExactGapsOf", fn := fun _ => fun
  | [d1, d2] => { results := [.lit (.bool true)], args := [d1, d2] }
  | _ => none }
def fnExactGapsOfRow : OpenClaim := { program := "ytfmhdnhaaohdjaa", sum := "c6cd43789f2ff672ac215581a88a1a213251973560c18eb01b5aa685aae6c2af", func := "loop.example/g01231/laws.FnExactGapsOf", spec := "fnExactGapsOf", unfollowed := true, recurses := true, apart := false }
def FnExactGapsOfSaid : Prop := fnExactGapsOfRow.holds Try.pinned (OpenSpec.ofChange fnExactGapsOfSpec)

/-- ITS FALSE NEIGHBOUR: 'it returns false'. Refute it at one input. -/
def fnExactGapsOfWrong : ChangeSpec := { name := "fnExactGapsOf", fn := fun _ => fun
  | [d1, d2] => { results := [.lit (.bool false)], args := [d1, d2] }
  | _ => none }
def FnExactGapsOfWrongFalsely : Prop := fnExactGapsOfRow.holds Try.pinned (OpenSpec.ofChange fnExactGapsOfWrong)

/-- 'laws.FnExactFillFrames': WHATEVER THE INPUT: true; the input reads as it did. -/
def fnExactFillFramesSpec : ChangeSpec := { name := "fnExactFillFrames", fn := fun _ => fun
  | [d1, d2, d3, d4] => { results := [.lit (.bool true)], args := [d1, d2, d3, d4] }
  | _ => none }
def fnExactFillFramesRow : OpenClaim := { program := "ytfmhdnhaaohdjaa", sum := "c6cd43789f2ff672ac215581a88a1a213251973560c18eb01b5aa685aae6c2af", func := "loop.example/g01231/laws.FnExactFillFrames", spec := "fnExactFillFrames", unfollowed := true, recurses := true, apart := false }
def FnExactFillFramesSaid : Prop := fnExactFillFramesRow.holds Try.pinned (OpenSpec.ofChange fnExactFillFramesSpec)

/-- ITS FALSE NEIGHBOUR: 'it returns false'. Refute it at one input. -/
def fnExactFillFramesWrong : ChangeSpec := { name := "fnExactFillFrames", fn := fun _ => fun
  | [d1, d2, d3, d4] => { results := [.lit (.bool false)], args := [d1, d2, d3, d4] }
  | _ => none }
def FnExactFillFramesWrongFalsely : Prop := fnExactFillFramesRow.holds Try.pinned (OpenSpec.ofChange fnExactFillFramesWrong)

/-- 'laws.FnExactSpanOf': WHATEVER THE INPUT: true; the input reads as it did. -/
def fnExactSpanOfSpec : ChangeSpec := { name := "fnExactSpanOf", fn := fun _ => fun
  | [d1, d2] => { results := [.lit (.bool true)], args := [d1, d2] }
  | _ => none }
def fnExactSpanOfRow : OpenClaim := { program := "ytfmhdnhaaohdjaa", sum := "c6cd43789f2ff672ac215581a88a1a213251973560c18eb01b5aa685aae6c2af", func := "loop.example/g01231/laws.FnExactSpanOf", spec := "fnExactSpanOf", unfollowed := true, recurses := true, apart := false }
def FnExactSpanOfSaid : Prop := fnExactSpanOfRow.holds Try.pinned (OpenSpec.ofChange fnExactSpanOfSpec)

/-- ITS FALSE NEIGHBOUR: 'it returns false'. Refute it at one input. -/
def fnExactSpanOfWrong : ChangeSpec := { name := "fnExactSpanOf", fn := fun _ => fun
  | [d1, d2] => { results := [.lit (.bool false)], args := [d1, d2] }
  | _ => none }
def FnExactSpanOfWrongFalsely : Prop := fnExactSpanOfRow.holds Try.pinned (OpenSpec.ofChange fnExactSpanOfWrong)

/-- 'laws.FnExactSumStations': WHATEVER THE INPUT: true; the input reads as it did. -/
def fnExactSumStationsSpec : ChangeSpec := { name := "fnExactSumStations", fn := fun _ => fun
  | [d1, d2, d3] => { results := [.lit (.bool true)], args := [d1, d2, d3] }
  | _ => none }
def fnExactSumStationsRow : OpenClaim := { program := "ytfmhdnhaaohdjaa", sum := "c6cd43789f2ff672ac215581a88a1a213251973560c18eb01b5aa685aae6c2af", func := "loop.example/g01231/laws.FnExactSumStations", spec := "fnExactSumStations", unfollowed := true, recurses := true, apart := false }
def FnExactSumStationsSaid : Prop := fnExactSumStationsRow.holds Try.pinned (OpenSpec.ofChange fnExactSumStationsSpec)

/-- ITS FALSE NEIGHBOUR: 'it returns false'. Refute it at one input. -/
def fnExactSumStationsWrong : ChangeSpec := { name := "fnExactSumStations", fn := fun _ => fun
  | [d1, d2, d3] => { results := [.lit (.bool false)], args := [d1, d2, d3] }
  | _ => none }
def FnExactSumStationsWrongFalsely : Prop := fnExactSumStationsRow.holds Try.pinned (OpenSpec.ofChange fnExactSumStationsWrong)

/-- 'laws.FnExactJoinFrames': WHATEVER THE INPUT: true; the input reads as it did. -/
def fnExactJoinFramesSpec : ChangeSpec := { name := "fnExactJoinFrames", fn := fun _ => fun
  | [d1, d2] => { results := [.lit (.bool true)], args := [d1, d2] }
  | _ => none }
def fnExactJoinFramesRow : OpenClaim := { program := "ytfmhdnhaaohdjaa", sum := "c6cd43789f2ff672ac215581a88a1a213251973560c18eb01b5aa685aae6c2af", func := "loop.example/g01231/laws.FnExactJoinFrames", spec := "fnExactJoinFrames", apart := false }
def FnExactJoinFramesSaid : Prop := fnExactJoinFramesRow.holds Try.pinned (OpenSpec.ofChange fnExactJoinFramesSpec)

/-- ITS FALSE NEIGHBOUR: 'it returns false'. Refute it at one input. -/
def fnExactJoinFramesWrong : ChangeSpec := { name := "fnExactJoinFrames", fn := fun _ => fun
  | [d1, d2] => { results := [.lit (.bool false)], args := [d1, d2] }
  | _ => none }
def FnExactJoinFramesWrongFalsely : Prop := fnExactJoinFramesRow.holds Try.pinned (OpenSpec.ofChange fnExactJoinFramesWrong)

/- THE SECOND FORM. 'bulk': how many values and letters a reading holds, each counted each time it is reached (what is shared counts as often as it is met; a slice's spare places count too). A statement '..UptoSaid' is the law's where the arguments, and the package variables that the reading takes, are together of bulk at most 1048576: NARROWER than '..Said'. Prove '..Said' where nothing that the law and all that it calls make is longer than what came in: it says more and counts as full. Else prove '..UptoSaid'. A law counts once. -/
mutual
def uptoBulk {H : Type} : DataW H → Nat
  | .lit (.string bytes) => bytes.length + 1
  | .lit _ => 1
  | .nil => 1
  | .ptr d => uptoBulk d + 1
  | .slice elems spare => uptoBulkAll elems + uptoBulkAll spare + 1
  | .agg parts => uptoBulkAll parts + 1
  | .iface _ d => uptoBulk d + 1
  | .map entries => uptoBulkEntries entries + 1
  | .held _ => 1
def uptoBulkAll {H : Type} : List (DataW H) → Nat
  | [] => 0
  | d :: r => uptoBulk d + uptoBulkAll r
def uptoBulkEntries {H : Type} : List (Lit × DataW H) → Nat
  | [] => 0
  | x :: r => uptoBulkEntry x + uptoBulkEntries r
def uptoBulkEntry {H : Type} : Lit × DataW H → Nat
  | (.string bytes, d) => bytes.length + uptoBulk d + 1
  | (_, d) => uptoBulk d + 1
 end
def uptoSmall : (H : Type) → List (DataW H) → Bool := fun _ ds => decide (uptoBulkAll ds ≤ 1048576)
def OpenSpec.upto (s : _root_.Go.ChangeSpec) : _root_.Go.OpenSpec := { _root_.Go.OpenSpec.ofChange s with cond := some uptoSmall }

/-- 'laws.FnExactValidFrame', WHERE WHAT IT READS IS OF BULK AT MOST 1048576: true; the input reads as it did. -/
def fnExactValidFrameUptoRow : OpenClaim := { program := "ytfmhdnhaaohdjaa", sum := "c6cd43789f2ff672ac215581a88a1a213251973560c18eb01b5aa685aae6c2af", func := "loop.example/g01231/laws.FnExactValidFrame", spec := "fnExactValidFrame", apart := false, narrowed := true }
def FnExactValidFrameUptoSaid : Prop := fnExactValidFrameUptoRow.holds Try.pinned (OpenSpec.upto fnExactValidFrameSpec)

/-- 'laws.FnExactAreFrames', WHERE WHAT IT READS IS OF BULK AT MOST 1048576: true; the input reads as it did. -/
def fnExactAreFramesUptoRow : OpenClaim := { program := "ytfmhdnhaaohdjaa", sum := "c6cd43789f2ff672ac215581a88a1a213251973560c18eb01b5aa685aae6c2af", func := "loop.example/g01231/laws.FnExactAreFrames", spec := "fnExactAreFrames", apart := false, narrowed := true }
def FnExactAreFramesUptoSaid : Prop := fnExactAreFramesUptoRow.holds Try.pinned (OpenSpec.upto fnExactAreFramesSpec)

/-- 'laws.FnExactLateFrames', WHERE WHAT IT READS IS OF BULK AT MOST 1048576: true; the input reads as it did. -/
def fnExactLateFramesUptoRow : OpenClaim := { program := "ytfmhdnhaaohdjaa", sum := "c6cd43789f2ff672ac215581a88a1a213251973560c18eb01b5aa685aae6c2af", func := "loop.example/g01231/laws.FnExactLateFrames", spec := "fnExactLateFrames", apart := false, narrowed := true }
def FnExactLateFramesUptoSaid : Prop := fnExactLateFramesUptoRow.holds Try.pinned (OpenSpec.upto fnExactLateFramesSpec)

/-- 'laws.FnExactStationsOf', WHERE WHAT IT READS IS OF BULK AT MOST 1048576: true; the input reads as it did. -/
def fnExactStationsOfUptoRow : OpenClaim := { program := "ytfmhdnhaaohdjaa", sum := "c6cd43789f2ff672ac215581a88a1a213251973560c18eb01b5aa685aae6c2af", func := "loop.example/g01231/laws.FnExactStationsOf", spec := "fnExactStationsOf", apart := false, narrowed := true }
def FnExactStationsOfUptoSaid : Prop := fnExactStationsOfUptoRow.holds Try.pinned (OpenSpec.upto fnExactStationsOfSpec)

/-- 'laws.FnExactSplitFrame', WHERE WHAT IT READS IS OF BULK AT MOST 1048576: true; the input reads as it did. -/
def fnExactSplitFrameUptoRow : OpenClaim := { program := "ytfmhdnhaaohdjaa", sum := "c6cd43789f2ff672ac215581a88a1a213251973560c18eb01b5aa685aae6c2af", func := "loop.example/g01231/laws.FnExactSplitFrame", spec := "fnExactSplitFrame", apart := false, narrowed := true }
def FnExactSplitFrameUptoSaid : Prop := fnExactSplitFrameUptoRow.holds Try.pinned (OpenSpec.upto fnExactSplitFrameSpec)

/-- 'laws.FnExactSortFrames', WHERE WHAT IT READS IS OF BULK AT MOST 1048576: true; the input reads as it did. -/
def fnExactSortFramesUptoRow : OpenClaim := { program := "ytfmhdnhaaohdjaa", sum := "c6cd43789f2ff672ac215581a88a1a213251973560c18eb01b5aa685aae6c2af", func := "loop.example/g01231/laws.FnExactSortFrames", spec := "fnExactSortFrames", unfollowed := true, recurses := true, apart := false, narrowed := true }
def FnExactSortFramesUptoSaid : Prop := fnExactSortFramesUptoRow.holds Try.pinned (OpenSpec.upto fnExactSortFramesSpec)

/-- 'laws.FnExactOfStation', WHERE WHAT IT READS IS OF BULK AT MOST 1048576: true; the input reads as it did. -/
def fnExactOfStationUptoRow : OpenClaim := { program := "ytfmhdnhaaohdjaa", sum := "c6cd43789f2ff672ac215581a88a1a213251973560c18eb01b5aa685aae6c2af", func := "loop.example/g01231/laws.FnExactOfStation", spec := "fnExactOfStation", unfollowed := true, recurses := true, apart := false, narrowed := true }
def FnExactOfStationUptoSaid : Prop := fnExactOfStationUptoRow.holds Try.pinned (OpenSpec.upto fnExactOfStationSpec)

/-- 'laws.FnExactGapsOf', WHERE WHAT IT READS IS OF BULK AT MOST 1048576: true; the input reads as it did. -/
def fnExactGapsOfUptoRow : OpenClaim := { program := "ytfmhdnhaaohdjaa", sum := "c6cd43789f2ff672ac215581a88a1a213251973560c18eb01b5aa685aae6c2af", func := "loop.example/g01231/laws.FnExactGapsOf", spec := "fnExactGapsOf", unfollowed := true, recurses := true, apart := false, narrowed := true }
def FnExactGapsOfUptoSaid : Prop := fnExactGapsOfUptoRow.holds Try.pinned (OpenSpec.upto fnExactGapsOfSpec)

/-- 'laws.FnExactFillFrames', WHERE WHAT IT READS IS OF BULK AT MOST 1048576: true; the input reads as it did. -/
def fnExactFillFramesUptoRow : OpenClaim := { program := "ytfmhdnhaaohdjaa", sum := "c6cd43789f2ff672ac215581a88a1a213251973560c18eb01b5aa685aae6c2af", func := "loop.example/g01231/laws.FnExactFillFrames", spec := "fnExactFillFrames", unfollowed := true, recurses := true, apart := false, narrowed := true }
def FnExactFillFramesUptoSaid : Prop := fnExactFillFramesUptoRow.holds Try.pinned (OpenSpec.upto fnExactFillFramesSpec)

/-- 'laws.FnExactSpanOf', WHERE WHAT IT READS IS OF BULK AT MOST 1048576: true; the input reads as it did. -/
def fnExactSpanOfUptoRow : OpenClaim := { program := "ytfmhdnhaaohdjaa", sum := "c6cd43789f2ff672ac215581a88a1a213251973560c18eb01b5aa685aae6c2af", func := "loop.example/g01231/laws.FnExactSpanOf", spec := "fnExactSpanOf", unfollowed := true, recurses := true, apart := false, narrowed := true }
def FnExactSpanOfUptoSaid : Prop := fnExactSpanOfUptoRow.holds Try.pinned (OpenSpec.upto fnExactSpanOfSpec)

/-- 'laws.FnExactSumStations', WHERE WHAT IT READS IS OF BULK AT MOST 1048576: true; the input reads as it did. -/
def fnExactSumStationsUptoRow : OpenClaim := { program := "ytfmhdnhaaohdjaa", sum := "c6cd43789f2ff672ac215581a88a1a213251973560c18eb01b5aa685aae6c2af", func := "loop.example/g01231/laws.FnExactSumStations", spec := "fnExactSumStations", unfollowed := true, recurses := true, apart := false, narrowed := true }
def FnExactSumStationsUptoSaid : Prop := fnExactSumStationsUptoRow.holds Try.pinned (OpenSpec.upto fnExactSumStationsSpec)

/-- 'laws.FnExactJoinFrames', WHERE WHAT IT READS IS OF BULK AT MOST 1048576: true; the input reads as it did. -/
def fnExactJoinFramesUptoRow : OpenClaim := { program := "ytfmhdnhaaohdjaa", sum := "c6cd43789f2ff672ac215581a88a1a213251973560c18eb01b5aa685aae6c2af", func := "loop.example/g01231/laws.FnExactJoinFrames", spec := "fnExactJoinFrames", apart := false, narrowed := true }
def FnExactJoinFramesUptoSaid : Prop := fnExactJoinFramesUptoRow.holds Try.pinned (OpenSpec.upto fnExactJoinFramesSpec)

end Rows
end Go.Proofs.Ytfmhdnhaaohdjaa
