/-
  No cell of these rows narrows 'for every input' (looked for: loops, veiled, ifaces, maps, wideKeys, modest, calm, conditions, laid).
  DERIVED. THE GIVEN ROWS OF THIS SEAT. 12 by the template 'for every input the law returns true; each argument reads behind the call as it read before'; 0 by the template 'total and deterministic' (their statements: YtmhfnchpkeeckaaTotals.lean).
  GIVEN WITH THE SEED: the statements are not yours to turn. If you find one false, say at which input.
  Laid BY PROGRAM, IN A SANDBOX (cutbox-rows.mjs): the forced cells as the released guide's own fill.sh prints them over the translation 89d7ba04385f3e7a… (all of the seat's roots in one cut). By AI agents, Wed Nov 11 2026. No macro, syntax, notation, axiom, sorry.
-/
import Derived.Test.YtmhfnchpkeeckaaChecked
import GoSem.Claim
import GoSem.ClaimJoined
import GoSem.ClaimMapViews
import Derived.JoinedTies
import Derived.KernelRfl
namespace Go.Proofs.Ytmhfnchpkeeckaa
/- THE CELL 'sum', in the pinned program and in every row, IS THE sha256 OF THE DUMP (.gsa) THAT YtmhfnchpkeeckaaProg.lean LOADS. Nothing in Lean hashes anything: it is a label: what it is worth is what the hold of that sum in a sandbox is worth. -/
noncomputable def Try.pinned : Pinned := { name := "ytmhfnchpkeeckaa", sum := "89d7ba04385f3e7af7a889a5781021d0bec7c5e3a61b8e68133169f5dd3d64b1", checked := Try.checked }
namespace Rows
def none {H : Type} : Left H := { results := [], args := [] }

/-- 'laws.FnExactValidSection': WHATEVER THE INPUT: true; the input reads as it did. -/
def fnExactValidSectionSpec : ChangeSpec := { name := "fnExactValidSection", fn := fun _ => fun
  | [d] => { results := [.lit (.bool true)], args := [d] }
  | _ => none }
def fnExactValidSectionRow : OpenClaim := { program := "ytmhfnchpkeeckaa", sum := "89d7ba04385f3e7af7a889a5781021d0bec7c5e3a61b8e68133169f5dd3d64b1", func := "loop.example/g01231/laws.FnExactValidSection", spec := "fnExactValidSection", apart := false }
def FnExactValidSectionSaid : Prop := fnExactValidSectionRow.holds Try.pinned (OpenSpec.ofChange fnExactValidSectionSpec)

/-- ITS FALSE NEIGHBOUR: 'it returns false'. Refute it at one input. -/
def fnExactValidSectionWrong : ChangeSpec := { name := "fnExactValidSection", fn := fun _ => fun
  | [d] => { results := [.lit (.bool false)], args := [d] }
  | _ => none }
def FnExactValidSectionWrongFalsely : Prop := fnExactValidSectionRow.holds Try.pinned (OpenSpec.ofChange fnExactValidSectionWrong)

/-- 'laws.FnExactSameSection': WHATEVER THE INPUT: true; the input reads as it did. -/
def fnExactSameSectionSpec : ChangeSpec := { name := "fnExactSameSection", fn := fun _ => fun
  | [d1, d2] => { results := [.lit (.bool true)], args := [d1, d2] }
  | _ => none }
def fnExactSameSectionRow : OpenClaim := { program := "ytmhfnchpkeeckaa", sum := "89d7ba04385f3e7af7a889a5781021d0bec7c5e3a61b8e68133169f5dd3d64b1", func := "loop.example/g01231/laws.FnExactSameSection", spec := "fnExactSameSection", inPlace := ["math.Float32bits"], unfollowed := true, recurses := true, apart := false }
def FnExactSameSectionSaid : Prop := fnExactSameSectionRow.holds Try.pinned (OpenSpec.ofChange fnExactSameSectionSpec)

/-- ITS FALSE NEIGHBOUR: 'it returns false'. Refute it at one input. -/
def fnExactSameSectionWrong : ChangeSpec := { name := "fnExactSameSection", fn := fun _ => fun
  | [d1, d2] => { results := [.lit (.bool false)], args := [d1, d2] }
  | _ => none }
def FnExactSameSectionWrongFalsely : Prop := fnExactSameSectionRow.holds Try.pinned (OpenSpec.ofChange fnExactSameSectionWrong)

/-- 'laws.FnExactFlatSection': WHATEVER THE INPUT: true; the input reads as it did. -/
def fnExactFlatSectionSpec : ChangeSpec := { name := "fnExactFlatSection", fn := fun _ => fun
  | [d1, d2, d3] => { results := [.lit (.bool true)], args := [d1, d2, d3] }
  | _ => none }
def fnExactFlatSectionRow : OpenClaim := { program := "ytmhfnchpkeeckaa", sum := "89d7ba04385f3e7af7a889a5781021d0bec7c5e3a61b8e68133169f5dd3d64b1", func := "loop.example/g01231/laws.FnExactFlatSection", spec := "fnExactFlatSection", apart := false }
def FnExactFlatSectionSaid : Prop := fnExactFlatSectionRow.holds Try.pinned (OpenSpec.ofChange fnExactFlatSectionSpec)

/-- ITS FALSE NEIGHBOUR: 'it returns false'. Refute it at one input. -/
def fnExactFlatSectionWrong : ChangeSpec := { name := "fnExactFlatSection", fn := fun _ => fun
  | [d1, d2, d3] => { results := [.lit (.bool false)], args := [d1, d2, d3] }
  | _ => none }
def FnExactFlatSectionWrongFalsely : Prop := fnExactFlatSectionRow.holds Try.pinned (OpenSpec.ofChange fnExactFlatSectionWrong)

/-- 'laws.FnExactPutValue': WHATEVER THE INPUT: true; the input reads as it did. -/
def fnExactPutValueSpec : ChangeSpec := { name := "fnExactPutValue", fn := fun _ => fun
  | [d1, d2, d3, d4] => { results := [.lit (.bool true)], args := [d1, d2, d3, d4] }
  | _ => none }
def fnExactPutValueRow : OpenClaim := { program := "ytmhfnchpkeeckaa", sum := "89d7ba04385f3e7af7a889a5781021d0bec7c5e3a61b8e68133169f5dd3d64b1", func := "loop.example/g01231/laws.FnExactPutValue", spec := "fnExactPutValue", apart := false }
def FnExactPutValueSaid : Prop := fnExactPutValueRow.holds Try.pinned (OpenSpec.ofChange fnExactPutValueSpec)

/-- ITS FALSE NEIGHBOUR: 'it returns false'. Refute it at one input. -/
def fnExactPutValueWrong : ChangeSpec := { name := "fnExactPutValue", fn := fun _ => fun
  | [d1, d2, d3, d4] => { results := [.lit (.bool false)], args := [d1, d2, d3, d4] }
  | _ => none }
def FnExactPutValueWrongFalsely : Prop := fnExactPutValueRow.holds Try.pinned (OpenSpec.ofChange fnExactPutValueWrong)

/-- 'laws.FnExactAddSections': WHATEVER THE INPUT: true; the input reads as it did. -/
def fnExactAddSectionsSpec : ChangeSpec := { name := "fnExactAddSections", fn := fun _ => fun
  | [d1, d2] => { results := [.lit (.bool true)], args := [d1, d2] }
  | _ => none }
def fnExactAddSectionsRow : OpenClaim := { program := "ytmhfnchpkeeckaa", sum := "89d7ba04385f3e7af7a889a5781021d0bec7c5e3a61b8e68133169f5dd3d64b1", func := "loop.example/g01231/laws.FnExactAddSections", spec := "fnExactAddSections", unfollowed := true, recurses := true, apart := false }
def FnExactAddSectionsSaid : Prop := fnExactAddSectionsRow.holds Try.pinned (OpenSpec.ofChange fnExactAddSectionsSpec)

/-- ITS FALSE NEIGHBOUR: 'it returns false'. Refute it at one input. -/
def fnExactAddSectionsWrong : ChangeSpec := { name := "fnExactAddSections", fn := fun _ => fun
  | [d1, d2] => { results := [.lit (.bool false)], args := [d1, d2] }
  | _ => none }
def FnExactAddSectionsWrongFalsely : Prop := fnExactAddSectionsRow.holds Try.pinned (OpenSpec.ofChange fnExactAddSectionsWrong)

/-- 'laws.FnExactScaleSection': WHATEVER THE INPUT: true; the input reads as it did. -/
def fnExactScaleSectionSpec : ChangeSpec := { name := "fnExactScaleSection", fn := fun _ => fun
  | [d1, d2] => { results := [.lit (.bool true)], args := [d1, d2] }
  | _ => none }
def fnExactScaleSectionRow : OpenClaim := { program := "ytmhfnchpkeeckaa", sum := "89d7ba04385f3e7af7a889a5781021d0bec7c5e3a61b8e68133169f5dd3d64b1", func := "loop.example/g01231/laws.FnExactScaleSection", spec := "fnExactScaleSection", apart := false }
def FnExactScaleSectionSaid : Prop := fnExactScaleSectionRow.holds Try.pinned (OpenSpec.ofChange fnExactScaleSectionSpec)

/-- ITS FALSE NEIGHBOUR: 'it returns false'. Refute it at one input. -/
def fnExactScaleSectionWrong : ChangeSpec := { name := "fnExactScaleSection", fn := fun _ => fun
  | [d1, d2] => { results := [.lit (.bool false)], args := [d1, d2] }
  | _ => none }
def FnExactScaleSectionWrongFalsely : Prop := fnExactScaleSectionRow.holds Try.pinned (OpenSpec.ofChange fnExactScaleSectionWrong)

/-- 'laws.FnExactSectionDot': WHATEVER THE INPUT: true; the input reads as it did. -/
def fnExactSectionDotSpec : ChangeSpec := { name := "fnExactSectionDot", fn := fun _ => fun
  | [d1, d2] => { results := [.lit (.bool true)], args := [d1, d2] }
  | _ => none }
def fnExactSectionDotRow : OpenClaim := { program := "ytmhfnchpkeeckaa", sum := "89d7ba04385f3e7af7a889a5781021d0bec7c5e3a61b8e68133169f5dd3d64b1", func := "loop.example/g01231/laws.FnExactSectionDot", spec := "fnExactSectionDot", apart := false }
def FnExactSectionDotSaid : Prop := fnExactSectionDotRow.holds Try.pinned (OpenSpec.ofChange fnExactSectionDotSpec)

/-- ITS FALSE NEIGHBOUR: 'it returns false'. Refute it at one input. -/
def fnExactSectionDotWrong : ChangeSpec := { name := "fnExactSectionDot", fn := fun _ => fun
  | [d1, d2] => { results := [.lit (.bool false)], args := [d1, d2] }
  | _ => none }
def FnExactSectionDotWrongFalsely : Prop := fnExactSectionDotRow.holds Try.pinned (OpenSpec.ofChange fnExactSectionDotWrong)

/-- 'laws.FnExactSpreadSection': WHATEVER THE INPUT: true; the input reads as it did. -/
def fnExactSpreadSectionSpec : ChangeSpec := { name := "fnExactSpreadSection", fn := fun _ => fun
  | [d1, d2] => { results := [.lit (.bool true)], args := [d1, d2] }
  | _ => none }
def fnExactSpreadSectionRow : OpenClaim := { program := "ytmhfnchpkeeckaa", sum := "89d7ba04385f3e7af7a889a5781021d0bec7c5e3a61b8e68133169f5dd3d64b1", func := "loop.example/g01231/laws.FnExactSpreadSection", spec := "fnExactSpreadSection", inPlace := ["math.sqrt", "math.archFloor", "math.Float64bits", "math.Float64frombits", "math.archTrunc"], unfollowed := true, recurses := true, apart := false }
def FnExactSpreadSectionSaid : Prop := fnExactSpreadSectionRow.holds Try.pinned (OpenSpec.ofChange fnExactSpreadSectionSpec)

/-- ITS FALSE NEIGHBOUR: 'it returns false'. Refute it at one input. -/
def fnExactSpreadSectionWrong : ChangeSpec := { name := "fnExactSpreadSection", fn := fun _ => fun
  | [d1, d2] => { results := [.lit (.bool false)], args := [d1, d2] }
  | _ => none }
def FnExactSpreadSectionWrongFalsely : Prop := fnExactSpreadSectionRow.holds Try.pinned (OpenSpec.ofChange fnExactSpreadSectionWrong)

/-- 'laws.FnExactGatherSection': WHATEVER THE INPUT: true; the input reads as it did. -/
def fnExactGatherSectionSpec : ChangeSpec := { name := "fnExactGatherSection", fn := fun _ => fun
  | [d1, d2] => { results := [.lit (.bool true)], args := [d1, d2] }
  | _ => none }
def fnExactGatherSectionRow : OpenClaim := { program := "ytmhfnchpkeeckaa", sum := "89d7ba04385f3e7af7a889a5781021d0bec7c5e3a61b8e68133169f5dd3d64b1", func := "loop.example/g01231/laws.FnExactGatherSection", spec := "fnExactGatherSection", inPlace := ["math.sqrt", "math.archFloor", "math.Float64bits", "math.Float64frombits", "math.archTrunc"], unfollowed := true, recurses := true, apart := false }
def FnExactGatherSectionSaid : Prop := fnExactGatherSectionRow.holds Try.pinned (OpenSpec.ofChange fnExactGatherSectionSpec)

/-- ITS FALSE NEIGHBOUR: 'it returns false'. Refute it at one input. -/
def fnExactGatherSectionWrong : ChangeSpec := { name := "fnExactGatherSection", fn := fun _ => fun
  | [d1, d2] => { results := [.lit (.bool false)], args := [d1, d2] }
  | _ => none }
def FnExactGatherSectionWrongFalsely : Prop := fnExactGatherSectionRow.holds Try.pinned (OpenSpec.ofChange fnExactGatherSectionWrong)

/-- 'laws.FnExactEdgeSection': WHATEVER THE INPUT: true; the input reads as it did. -/
def fnExactEdgeSectionSpec : ChangeSpec := { name := "fnExactEdgeSection", fn := fun _ => fun
  | [d] => { results := [.lit (.bool true)], args := [d] }
  | _ => none }
def fnExactEdgeSectionRow : OpenClaim := { program := "ytmhfnchpkeeckaa", sum := "89d7ba04385f3e7af7a889a5781021d0bec7c5e3a61b8e68133169f5dd3d64b1", func := "loop.example/g01231/laws.FnExactEdgeSection", spec := "fnExactEdgeSection", unfollowed := true, recurses := true, apart := false }
def FnExactEdgeSectionSaid : Prop := fnExactEdgeSectionRow.holds Try.pinned (OpenSpec.ofChange fnExactEdgeSectionSpec)

/-- ITS FALSE NEIGHBOUR: 'it returns false'. Refute it at one input. -/
def fnExactEdgeSectionWrong : ChangeSpec := { name := "fnExactEdgeSection", fn := fun _ => fun
  | [d] => { results := [.lit (.bool false)], args := [d] }
  | _ => none }
def FnExactEdgeSectionWrongFalsely : Prop := fnExactEdgeSectionRow.holds Try.pinned (OpenSpec.ofChange fnExactEdgeSectionWrong)

/-- 'laws.FnExactSmoothSection': WHATEVER THE INPUT: true; the input reads as it did. -/
def fnExactSmoothSectionSpec : ChangeSpec := { name := "fnExactSmoothSection", fn := fun _ => fun
  | [d1, d2] => { results := [.lit (.bool true)], args := [d1, d2] }
  | _ => none }
def fnExactSmoothSectionRow : OpenClaim := { program := "ytmhfnchpkeeckaa", sum := "89d7ba04385f3e7af7a889a5781021d0bec7c5e3a61b8e68133169f5dd3d64b1", func := "loop.example/g01231/laws.FnExactSmoothSection", spec := "fnExactSmoothSection", unfollowed := true, recurses := true, apart := false }
def FnExactSmoothSectionSaid : Prop := fnExactSmoothSectionRow.holds Try.pinned (OpenSpec.ofChange fnExactSmoothSectionSpec)

/-- ITS FALSE NEIGHBOUR: 'it returns false'. Refute it at one input. -/
def fnExactSmoothSectionWrong : ChangeSpec := { name := "fnExactSmoothSection", fn := fun _ => fun
  | [d1, d2] => { results := [.lit (.bool false)], args := [d1, d2] }
  | _ => none }
def FnExactSmoothSectionWrongFalsely : Prop := fnExactSmoothSectionRow.holds Try.pinned (OpenSpec.ofChange fnExactSmoothSectionWrong)

/-- 'laws.FnExactStrongCell': WHATEVER THE INPUT: true; the input reads as it did. -/
def fnExactStrongCellSpec : ChangeSpec := { name := "fnExactStrongCell", fn := fun _ => fun
  | [d] => { results := [.lit (.bool true)], args := [d] }
  | _ => none }
def fnExactStrongCellRow : OpenClaim := { program := "ytmhfnchpkeeckaa", sum := "89d7ba04385f3e7af7a889a5781021d0bec7c5e3a61b8e68133169f5dd3d64b1", func := "loop.example/g01231/laws.FnExactStrongCell", spec := "fnExactStrongCell", inPlace := ["math.Float64bits", "math.Float64frombits"], apart := false }
def FnExactStrongCellSaid : Prop := fnExactStrongCellRow.holds Try.pinned (OpenSpec.ofChange fnExactStrongCellSpec)

/-- ITS FALSE NEIGHBOUR: 'it returns false'. Refute it at one input. -/
def fnExactStrongCellWrong : ChangeSpec := { name := "fnExactStrongCell", fn := fun _ => fun
  | [d] => { results := [.lit (.bool false)], args := [d] }
  | _ => none }
def FnExactStrongCellWrongFalsely : Prop := fnExactStrongCellRow.holds Try.pinned (OpenSpec.ofChange fnExactStrongCellWrong)

/- THE SECOND FORM. 'bulk': how many values and letters a reading holds, each counted each time it is reached (what is shared counts as often as it is met; a slice's spare places count too). A statement '..UptoSaid' is the law's where the arguments, and the package variables that the reading takes, are together of bulk at most 1048576: NARROWER than '..Said'. Prove '..Said' where nothing that the law and all that it calls make is longer than what came in: it says more and counts as full. Else prove '..UptoSaid'. A law counts once. -/
mutual
def uptoBulk {H : Type} : DataW H → Nat
  | .lit (.string bytes) => bytes.length + 1
  | .lit _ => 1
  | .nil => 1
  | .ptr d => uptoBulk d + 1
  | .slice elems spare => uptoBulkAll elems + uptoBulkAll spare + 1
  | .agg parts => uptoBulkAll parts + 1
  | .iface _ d => uptoBulk d + 1
  | .map entries => uptoBulkEntries entries + 1
  | .held _ => 1
def uptoBulkAll {H : Type} : List (DataW H) → Nat
  | [] => 0
  | d :: r => uptoBulk d + uptoBulkAll r
def uptoBulkEntries {H : Type} : List (Lit × DataW H) → Nat
  | [] => 0
  | x :: r => uptoBulkEntry x + uptoBulkEntries r
def uptoBulkEntry {H : Type} : Lit × DataW H → Nat
  | (.string bytes, d) => bytes.length + uptoBulk d + 1
  | (_, d) => uptoBulk d + 1
 end
def uptoSmall : (H : Type) → List (DataW H) → Bool := fun _ ds => decide (uptoBulkAll ds ≤ 1048576)
def OpenSpec.upto (s : _root_.Go.ChangeSpec) : _root_.Go.OpenSpec := { _root_.Go.OpenSpec.ofChange s with cond := some uptoSmall }

/-- 'laws.FnExactValidSection', WHERE WHAT IT READS IS OF BULK AT MOST 1048576: true; the input reads as it did. -/
def fnExactValidSectionUptoRow : OpenClaim := { program := "ytmhfnchpkeeckaa", sum := "89d7ba04385f3e7af7a889a5781021d0bec7c5e3a61b8e68133169f5dd3d64b1", func := "loop.example/g01231/laws.FnExactValidSection", spec := "fnExactValidSection", apart := false, narrowed := true }
def FnExactValidSectionUptoSaid : Prop := fnExactValidSectionUptoRow.holds Try.pinned (OpenSpec.upto fnExactValidSectionSpec)

/-- 'laws.FnExactSameSection', WHERE WHAT IT READS IS OF BULK AT MOST 1048576: true; the input reads as it did. -/
def fnExactSameSectionUptoRow : OpenClaim := { program := "ytmhfnchpkeeckaa", sum := "89d7ba04385f3e7af7a889a5781021d0bec7c5e3a61b8e68133169f5dd3d64b1", func := "loop.example/g01231/laws.FnExactSameSection", spec := "fnExactSameSection", inPlace := ["math.Float32bits"], unfollowed := true, recurses := true, apart := false, narrowed := true }
def FnExactSameSectionUptoSaid : Prop := fnExactSameSectionUptoRow.holds Try.pinned (OpenSpec.upto fnExactSameSectionSpec)

/-- 'laws.FnExactFlatSection', WHERE WHAT IT READS IS OF BULK AT MOST 1048576: true; the input reads as it did. -/
def fnExactFlatSectionUptoRow : OpenClaim := { program := "ytmhfnchpkeeckaa", sum := "89d7ba04385f3e7af7a889a5781021d0bec7c5e3a61b8e68133169f5dd3d64b1", func := "loop.example/g01231/laws.FnExactFlatSection", spec := "fnExactFlatSection", apart := false, narrowed := true }
def FnExactFlatSectionUptoSaid : Prop := fnExactFlatSectionUptoRow.holds Try.pinned (OpenSpec.upto fnExactFlatSectionSpec)

/-- 'laws.FnExactPutValue', WHERE WHAT IT READS IS OF BULK AT MOST 1048576: true; the input reads as it did. -/
def fnExactPutValueUptoRow : OpenClaim := { program := "ytmhfnchpkeeckaa", sum := "89d7ba04385f3e7af7a889a5781021d0bec7c5e3a61b8e68133169f5dd3d64b1", func := "loop.example/g01231/laws.FnExactPutValue", spec := "fnExactPutValue", apart := false, narrowed := true }
def FnExactPutValueUptoSaid : Prop := fnExactPutValueUptoRow.holds Try.pinned (OpenSpec.upto fnExactPutValueSpec)

/-- 'laws.FnExactAddSections', WHERE WHAT IT READS IS OF BULK AT MOST 1048576: true; the input reads as it did. -/
def fnExactAddSectionsUptoRow : OpenClaim := { program := "ytmhfnchpkeeckaa", sum := "89d7ba04385f3e7af7a889a5781021d0bec7c5e3a61b8e68133169f5dd3d64b1", func := "loop.example/g01231/laws.FnExactAddSections", spec := "fnExactAddSections", unfollowed := true, recurses := true, apart := false, narrowed := true }
def FnExactAddSectionsUptoSaid : Prop := fnExactAddSectionsUptoRow.holds Try.pinned (OpenSpec.upto fnExactAddSectionsSpec)

/-- 'laws.FnExactScaleSection', WHERE WHAT IT READS IS OF BULK AT MOST 1048576: true; the input reads as it did. -/
def fnExactScaleSectionUptoRow : OpenClaim := { program := "ytmhfnchpkeeckaa", sum := "89d7ba04385f3e7af7a889a5781021d0bec7c5e3a61b8e68133169f5dd3d64b1", func := "loop.example/g01231/laws.FnExactScaleSection", spec := "fnExactScaleSection", apart := false, narrowed := true }
def FnExactScaleSectionUptoSaid : Prop := fnExactScaleSectionUptoRow.holds Try.pinned (OpenSpec.upto fnExactScaleSectionSpec)

/-- 'laws.FnExactSectionDot', WHERE WHAT IT READS IS OF BULK AT MOST 1048576: true; the input reads as it did. -/
def fnExactSectionDotUptoRow : OpenClaim := { program := "ytmhfnchpkeeckaa", sum := "89d7ba04385f3e7af7a889a5781021d0bec7c5e3a61b8e68133169f5dd3d64b1", func := "loop.example/g01231/laws.FnExactSectionDot", spec := "fnExactSectionDot", apart := false, narrowed := true }
def FnExactSectionDotUptoSaid : Prop := fnExactSectionDotUptoRow.holds Try.pinned (OpenSpec.upto fnExactSectionDotSpec)

/-- 'laws.FnExactSpreadSection', WHERE WHAT IT READS IS OF BULK AT MOST 1048576: true; the input reads as it did. -/
def fnExactSpreadSectionUptoRow : OpenClaim := { program := "ytmhfnchpkeeckaa", sum := "89d7ba04385f3e7af7a889a5781021d0bec7c5e3a61b8e68133169f5dd3d64b1", func := "loop.example/g01231/laws.FnExactSpreadSection", spec := "fnExactSpreadSection", inPlace := ["math.sqrt", "math.archFloor", "math.Float64bits", "math.Float64frombits", "math.archTrunc"], unfollowed := true, recurses := true, apart := false, narrowed := true }
def FnExactSpreadSectionUptoSaid : Prop := fnExactSpreadSectionUptoRow.holds Try.pinned (OpenSpec.upto fnExactSpreadSectionSpec)

/-- 'laws.FnExactGatherSection', WHERE WHAT IT READS IS OF BULK AT MOST 1048576: true; the input reads as it did. -/
def fnExactGatherSectionUptoRow : OpenClaim := { program := "ytmhfnchpkeeckaa", sum := "89d7ba04385f3e7af7a889a5781021d0bec7c5e3a61b8e68133169f5dd3d64b1", func := "loop.example/g01231/laws.FnExactGatherSection", spec := "fnExactGatherSection", inPlace := ["math.sqrt", "math.archFloor", "math.Float64bits", "math.Float64frombits", "math.archTrunc"], unfollowed := true, recurses := true, apart := false, narrowed := true }
def FnExactGatherSectionUptoSaid : Prop := fnExactGatherSectionUptoRow.holds Try.pinned (OpenSpec.upto fnExactGatherSectionSpec)

/-- 'laws.FnExactEdgeSection', WHERE WHAT IT READS IS OF BULK AT MOST 1048576: true; the input reads as it did. -/
def fnExactEdgeSectionUptoRow : OpenClaim := { program := "ytmhfnchpkeeckaa", sum := "89d7ba04385f3e7af7a889a5781021d0bec7c5e3a61b8e68133169f5dd3d64b1", func := "loop.example/g01231/laws.FnExactEdgeSection", spec := "fnExactEdgeSection", unfollowed := true, recurses := true, apart := false, narrowed := true }
def FnExactEdgeSectionUptoSaid : Prop := fnExactEdgeSectionUptoRow.holds Try.pinned (OpenSpec.upto fnExactEdgeSectionSpec)

/-- 'laws.FnExactSmoothSection', WHERE WHAT IT READS IS OF BULK AT MOST 1048576: true; the input reads as it did. -/
def fnExactSmoothSectionUptoRow : OpenClaim := { program := "ytmhfnchpkeeckaa", sum := "89d7ba04385f3e7af7a889a5781021d0bec7c5e3a61b8e68133169f5dd3d64b1", func := "loop.example/g01231/laws.FnExactSmoothSection", spec := "fnExactSmoothSection", unfollowed := true, recurses := true, apart := false, narrowed := true }
def FnExactSmoothSectionUptoSaid : Prop := fnExactSmoothSectionUptoRow.holds Try.pinned (OpenSpec.upto fnExactSmoothSectionSpec)

/-- 'laws.FnExactStrongCell', WHERE WHAT IT READS IS OF BULK AT MOST 1048576: true; the input reads as it did. -/
def fnExactStrongCellUptoRow : OpenClaim := { program := "ytmhfnchpkeeckaa", sum := "89d7ba04385f3e7af7a889a5781021d0bec7c5e3a61b8e68133169f5dd3d64b1", func := "loop.example/g01231/laws.FnExactStrongCell", spec := "fnExactStrongCell", inPlace := ["math.Float64bits", "math.Float64frombits"], apart := false, narrowed := true }
def FnExactStrongCellUptoSaid : Prop := fnExactStrongCellUptoRow.holds Try.pinned (OpenSpec.upto fnExactStrongCellSpec)

end Rows
end Go.Proofs.Ytmhfnchpkeeckaa
