/-
  No cell of these rows narrows 'for every input' (looked for: loops, veiled, ifaces, maps, wideKeys, modest, calm, conditions, laid).
  DERIVED. THE GIVEN ROWS OF THIS SEAT. 10 by the template 'for every input the law returns true; each argument reads behind the call as it read before'; 0 by the template 'total and deterministic' (their statements: YtcjddnkebdjhoaaTotals.lean).
  GIVEN WITH THE SEED: the statements are not yours to turn. If you find one false, say at which input.
  Laid BY PROGRAM, IN A SANDBOX (cutbox-rows.mjs): the forced cells as the released guide's own fill.sh prints them over the translation 1ab13a0bfb98f949… (all of the seat's roots in one cut). By AI agents, Wed Nov 11 2026. No macro, syntax, notation, axiom, sorry.
-/
import Derived.Test.YtcjddnkebdjhoaaChecked
import GoSem.Claim
import GoSem.ClaimJoined
import GoSem.ClaimMapViews
import Derived.JoinedTies
import Derived.KernelRfl
namespace Go.Proofs.Ytcjddnkebdjhoaa
/- THE CELL 'sum', in the pinned program and in every row, IS THE sha256 OF THE DUMP (.gsa) THAT YtcjddnkebdjhoaaProg.lean LOADS. Nothing in Lean hashes anything: it is a label: what it is worth is what the hold of that sum in a sandbox is worth. -/
noncomputable def Try.pinned : Pinned := { name := "ytcjddnkebdjhoaa", sum := "1ab13a0bfb98f9497ed092bd61e1ecd41192379291e8d99cfbb552250f130cd9", checked := Try.checked }
namespace Rows
def none {H : Type} : Left H := { results := [], args := [] }

/-- 'laws.FnExactSmoothTrace': WHATEVER THE INPUT: true; the input reads as it did. -/
def fnExactSmoothTraceSpec : ChangeSpec := { name := "fnExactSmoothTrace", fn := fun _ => fun
  | [d1, d2] => { results := [.lit (.bool true)], args := [d1, d2] }
  | _ => none }
def fnExactSmoothTraceRow : OpenClaim := { program := "ytcjddnkebdjhoaa", sum := "1ab13a0bfb98f9497ed092bd61e1ecd41192379291e8d99cfbb552250f130cd9", func := "loop.example/g01231/laws.FnExactSmoothTrace", spec := "fnExactSmoothTrace", unfollowed := true, recurses := true, apart := false }
def FnExactSmoothTraceSaid : Prop := fnExactSmoothTraceRow.holds Try.pinned (OpenSpec.ofChange fnExactSmoothTraceSpec)

/-- ITS FALSE NEIGHBOUR: 'it returns false'. Refute it at one input. -/
def fnExactSmoothTraceWrong : ChangeSpec := { name := "fnExactSmoothTrace", fn := fun _ => fun
  | [d1, d2] => { results := [.lit (.bool false)], args := [d1, d2] }
  | _ => none }
def FnExactSmoothTraceWrongFalsely : Prop := fnExactSmoothTraceRow.holds Try.pinned (OpenSpec.ofChange fnExactSmoothTraceWrong)

/-- 'laws.FnExactRoughTrace': WHATEVER THE INPUT: true; the input reads as it did. -/
def fnExactRoughTraceSpec : ChangeSpec := { name := "fnExactRoughTrace", fn := fun _ => fun
  | [d1, d2] => { results := [.lit (.bool true)], args := [d1, d2] }
  | _ => none }
def fnExactRoughTraceRow : OpenClaim := { program := "ytcjddnkebdjhoaa", sum := "1ab13a0bfb98f9497ed092bd61e1ecd41192379291e8d99cfbb552250f130cd9", func := "loop.example/g01231/laws.FnExactRoughTrace", spec := "fnExactRoughTrace", unfollowed := true, recurses := true, apart := false }
def FnExactRoughTraceSaid : Prop := fnExactRoughTraceRow.holds Try.pinned (OpenSpec.ofChange fnExactRoughTraceSpec)

/-- ITS FALSE NEIGHBOUR: 'it returns false'. Refute it at one input. -/
def fnExactRoughTraceWrong : ChangeSpec := { name := "fnExactRoughTrace", fn := fun _ => fun
  | [d1, d2] => { results := [.lit (.bool false)], args := [d1, d2] }
  | _ => none }
def FnExactRoughTraceWrongFalsely : Prop := fnExactRoughTraceRow.holds Try.pinned (OpenSpec.ofChange fnExactRoughTraceWrong)

/-- 'laws.FnExactNotchTrace': WHATEVER THE INPUT: true; the input reads as it did. -/
def fnExactNotchTraceSpec : ChangeSpec := { name := "fnExactNotchTrace", fn := fun _ => fun
  | [d1, d2] => { results := [.lit (.bool true)], args := [d1, d2] }
  | _ => none }
def fnExactNotchTraceRow : OpenClaim := { program := "ytcjddnkebdjhoaa", sum := "1ab13a0bfb98f9497ed092bd61e1ecd41192379291e8d99cfbb552250f130cd9", func := "loop.example/g01231/laws.FnExactNotchTrace", spec := "fnExactNotchTrace", inPlace := ["math.Float64frombits", "math.Float64bits", "math.Float32frombits"], unfollowed := true, recurses := true, apart := false }
def FnExactNotchTraceSaid : Prop := fnExactNotchTraceRow.holds Try.pinned (OpenSpec.ofChange fnExactNotchTraceSpec)

/-- ITS FALSE NEIGHBOUR: 'it returns false'. Refute it at one input. -/
def fnExactNotchTraceWrong : ChangeSpec := { name := "fnExactNotchTrace", fn := fun _ => fun
  | [d1, d2] => { results := [.lit (.bool false)], args := [d1, d2] }
  | _ => none }
def FnExactNotchTraceWrongFalsely : Prop := fnExactNotchTraceRow.holds Try.pinned (OpenSpec.ofChange fnExactNotchTraceWrong)

/-- 'laws.FnExactDifferTrace': WHATEVER THE INPUT: true; the input reads as it did. -/
def fnExactDifferTraceSpec : ChangeSpec := { name := "fnExactDifferTrace", fn := fun _ => fun
  | [d] => { results := [.lit (.bool true)], args := [d] }
  | _ => none }
def fnExactDifferTraceRow : OpenClaim := { program := "ytcjddnkebdjhoaa", sum := "1ab13a0bfb98f9497ed092bd61e1ecd41192379291e8d99cfbb552250f130cd9", func := "loop.example/g01231/laws.FnExactDifferTrace", spec := "fnExactDifferTrace", unfollowed := true, recurses := true, apart := false }
def FnExactDifferTraceSaid : Prop := fnExactDifferTraceRow.holds Try.pinned (OpenSpec.ofChange fnExactDifferTraceSpec)

/-- ITS FALSE NEIGHBOUR: 'it returns false'. Refute it at one input. -/
def fnExactDifferTraceWrong : ChangeSpec := { name := "fnExactDifferTrace", fn := fun _ => fun
  | [d] => { results := [.lit (.bool false)], args := [d] }
  | _ => none }
def FnExactDifferTraceWrongFalsely : Prop := fnExactDifferTraceRow.holds Try.pinned (OpenSpec.ofChange fnExactDifferTraceWrong)

/-- 'laws.FnExactIntegrateTrace': WHATEVER THE INPUT: true; the input reads as it did. -/
def fnExactIntegrateTraceSpec : ChangeSpec := { name := "fnExactIntegrateTrace", fn := fun _ => fun
  | [d] => { results := [.lit (.bool true)], args := [d] }
  | _ => none }
def fnExactIntegrateTraceRow : OpenClaim := { program := "ytcjddnkebdjhoaa", sum := "1ab13a0bfb98f9497ed092bd61e1ecd41192379291e8d99cfbb552250f130cd9", func := "loop.example/g01231/laws.FnExactIntegrateTrace", spec := "fnExactIntegrateTrace", unfollowed := true, recurses := true, apart := false }
def FnExactIntegrateTraceSaid : Prop := fnExactIntegrateTraceRow.holds Try.pinned (OpenSpec.ofChange fnExactIntegrateTraceSpec)

/-- ITS FALSE NEIGHBOUR: 'it returns false'. Refute it at one input. -/
def fnExactIntegrateTraceWrong : ChangeSpec := { name := "fnExactIntegrateTrace", fn := fun _ => fun
  | [d] => { results := [.lit (.bool false)], args := [d] }
  | _ => none }
def FnExactIntegrateTraceWrongFalsely : Prop := fnExactIntegrateTraceRow.holds Try.pinned (OpenSpec.ofChange fnExactIntegrateTraceWrong)

/-- 'laws.FnExactMuteTrace': WHATEVER THE INPUT: true; the input reads as it did. -/
def fnExactMuteTraceSpec : ChangeSpec := { name := "fnExactMuteTrace", fn := fun _ => fun
  | [d1, d2, d3] => { results := [.lit (.bool true)], args := [d1, d2, d3] }
  | _ => none }
def fnExactMuteTraceRow : OpenClaim := { program := "ytcjddnkebdjhoaa", sum := "1ab13a0bfb98f9497ed092bd61e1ecd41192379291e8d99cfbb552250f130cd9", func := "loop.example/g01231/laws.FnExactMuteTrace", spec := "fnExactMuteTrace", apart := false }
def FnExactMuteTraceSaid : Prop := fnExactMuteTraceRow.holds Try.pinned (OpenSpec.ofChange fnExactMuteTraceSpec)

/-- ITS FALSE NEIGHBOUR: 'it returns false'. Refute it at one input. -/
def fnExactMuteTraceWrong : ChangeSpec := { name := "fnExactMuteTrace", fn := fun _ => fun
  | [d1, d2, d3] => { results := [.lit (.bool false)], args := [d1, d2, d3] }
  | _ => none }
def FnExactMuteTraceWrongFalsely : Prop := fnExactMuteTraceRow.holds Try.pinned (OpenSpec.ofChange fnExactMuteTraceWrong)

/-- 'laws.FnExactGainTrace': WHATEVER THE INPUT: true; the input reads as it did. -/
def fnExactGainTraceSpec : ChangeSpec := { name := "fnExactGainTrace", fn := fun _ => fun
  | [d1, d2] => { results := [.lit (.bool true)], args := [d1, d2] }
  | _ => none }
def fnExactGainTraceRow : OpenClaim := { program := "ytcjddnkebdjhoaa", sum := "1ab13a0bfb98f9497ed092bd61e1ecd41192379291e8d99cfbb552250f130cd9", func := "loop.example/g01231/laws.FnExactGainTrace", spec := "fnExactGainTrace", inPlace := ["math.sqrt"], unfollowed := true, recurses := true, apart := false }
def FnExactGainTraceSaid : Prop := fnExactGainTraceRow.holds Try.pinned (OpenSpec.ofChange fnExactGainTraceSpec)

/-- ITS FALSE NEIGHBOUR: 'it returns false'. Refute it at one input. -/
def fnExactGainTraceWrong : ChangeSpec := { name := "fnExactGainTrace", fn := fun _ => fun
  | [d1, d2] => { results := [.lit (.bool false)], args := [d1, d2] }
  | _ => none }
def FnExactGainTraceWrongFalsely : Prop := fnExactGainTraceRow.holds Try.pinned (OpenSpec.ofChange fnExactGainTraceWrong)

/-- 'laws.FnExactPickFirst': WHATEVER THE INPUT: true; the input reads as it did. -/
def fnExactPickFirstSpec : ChangeSpec := { name := "fnExactPickFirst", fn := fun _ => fun
  | [d1, d2, d3, d4] => { results := [.lit (.bool true)], args := [d1, d2, d3, d4] }
  | _ => none }
def fnExactPickFirstRow : OpenClaim := { program := "ytcjddnkebdjhoaa", sum := "1ab13a0bfb98f9497ed092bd61e1ecd41192379291e8d99cfbb552250f130cd9", func := "loop.example/g01231/laws.FnExactPickFirst", spec := "fnExactPickFirst", inPlace := ["math.Float64bits", "math.Float64frombits"], apart := false }
def FnExactPickFirstSaid : Prop := fnExactPickFirstRow.holds Try.pinned (OpenSpec.ofChange fnExactPickFirstSpec)

/-- ITS FALSE NEIGHBOUR: 'it returns false'. Refute it at one input. -/
def fnExactPickFirstWrong : ChangeSpec := { name := "fnExactPickFirst", fn := fun _ => fun
  | [d1, d2, d3, d4] => { results := [.lit (.bool false)], args := [d1, d2, d3, d4] }
  | _ => none }
def FnExactPickFirstWrongFalsely : Prop := fnExactPickFirstRow.holds Try.pinned (OpenSpec.ofChange fnExactPickFirstWrong)

/-- 'laws.FnExactWhiteAuto': WHATEVER THE INPUT: true; the input reads as it did. -/
def fnExactWhiteAutoSpec : ChangeSpec := { name := "fnExactWhiteAuto", fn := fun _ => fun
  | [d1, d2] => { results := [.lit (.bool true)], args := [d1, d2] }
  | _ => none }
def fnExactWhiteAutoRow : OpenClaim := { program := "ytcjddnkebdjhoaa", sum := "1ab13a0bfb98f9497ed092bd61e1ecd41192379291e8d99cfbb552250f130cd9", func := "loop.example/g01231/laws.FnExactWhiteAuto", spec := "fnExactWhiteAuto", inPlace := ["math.Float64bits", "math.Float64frombits"], apart := false }
def FnExactWhiteAutoSaid : Prop := fnExactWhiteAutoRow.holds Try.pinned (OpenSpec.ofChange fnExactWhiteAutoSpec)

/-- ITS FALSE NEIGHBOUR: 'it returns false'. Refute it at one input. -/
def fnExactWhiteAutoWrong : ChangeSpec := { name := "fnExactWhiteAuto", fn := fun _ => fun
  | [d1, d2] => { results := [.lit (.bool false)], args := [d1, d2] }
  | _ => none }
def FnExactWhiteAutoWrongFalsely : Prop := fnExactWhiteAutoRow.holds Try.pinned (OpenSpec.ofChange fnExactWhiteAutoWrong)

/-- 'laws.FnExactApplyFilter': WHATEVER THE INPUT: true; the input reads as it did. -/
def fnExactApplyFilterSpec : ChangeSpec := { name := "fnExactApplyFilter", fn := fun _ => fun
  | [d1, d2] => { results := [.lit (.bool true)], args := [d1, d2] }
  | _ => none }
def fnExactApplyFilterRow : OpenClaim := { program := "ytcjddnkebdjhoaa", sum := "1ab13a0bfb98f9497ed092bd61e1ecd41192379291e8d99cfbb552250f130cd9", func := "loop.example/g01231/laws.FnExactApplyFilter", spec := "fnExactApplyFilter", unfollowed := true, recurses := true, apart := false }
def FnExactApplyFilterSaid : Prop := fnExactApplyFilterRow.holds Try.pinned (OpenSpec.ofChange fnExactApplyFilterSpec)

/-- ITS FALSE NEIGHBOUR: 'it returns false'. Refute it at one input. -/
def fnExactApplyFilterWrong : ChangeSpec := { name := "fnExactApplyFilter", fn := fun _ => fun
  | [d1, d2] => { results := [.lit (.bool false)], args := [d1, d2] }
  | _ => none }
def FnExactApplyFilterWrongFalsely : Prop := fnExactApplyFilterRow.holds Try.pinned (OpenSpec.ofChange fnExactApplyFilterWrong)

/- THE SECOND FORM. 'bulk': how many values and letters a reading holds, each counted each time it is reached (what is shared counts as often as it is met; a slice's spare places count too). A statement '..UptoSaid' is the law's where the arguments, and the package variables that the reading takes, are together of bulk at most 1048576: NARROWER than '..Said'. Prove '..Said' where nothing that the law and all that it calls make is longer than what came in: it says more and counts as full. Else prove '..UptoSaid'. A law counts once. -/
mutual
def uptoBulk {H : Type} : DataW H → Nat
  | .lit (.string bytes) => bytes.length + 1
  | .lit _ => 1
  | .nil => 1
  | .ptr d => uptoBulk d + 1
  | .slice elems spare => uptoBulkAll elems + uptoBulkAll spare + 1
  | .agg parts => uptoBulkAll parts + 1
  | .iface _ d => uptoBulk d + 1
  | .map entries => uptoBulkEntries entries + 1
  | .held _ => 1
def uptoBulkAll {H : Type} : List (DataW H) → Nat
  | [] => 0
  | d :: r => uptoBulk d + uptoBulkAll r
def uptoBulkEntries {H : Type} : List (Lit × DataW H) → Nat
  | [] => 0
  | x :: r => uptoBulkEntry x + uptoBulkEntries r
def uptoBulkEntry {H : Type} : Lit × DataW H → Nat
  | (.string bytes, d) => bytes.length + uptoBulk d + 1
  | (_, d) => uptoBulk d + 1
 end
def uptoSmall : (H : Type) → List (DataW H) → Bool := fun _ ds => decide (uptoBulkAll ds ≤ 1048576)
def OpenSpec.upto (s : _root_.Go.ChangeSpec) : _root_.Go.OpenSpec := { _root_.Go.OpenSpec.ofChange s with cond := some uptoSmall }

/-- 'laws.FnExactSmoothTrace', WHERE WHAT IT READS IS OF BULK AT MOST 1048576: true; the input reads as it did. -/
def fnExactSmoothTraceUptoRow : OpenClaim := { program := "ytcjddnkebdjhoaa", sum := "1ab13a0bfb98f9497ed092bd61e1ecd41192379291e8d99cfbb552250f130cd9", func := "loop.example/g01231/laws.FnExactSmoothTrace", spec := "fnExactSmoothTrace", unfollowed := true, recurses := true, apart := false, narrowed := true }
def FnExactSmoothTraceUptoSaid : Prop := fnExactSmoothTraceUptoRow.holds Try.pinned (OpenSpec.upto fnExactSmoothTraceSpec)

/-- 'laws.FnExactRoughTrace', WHERE WHAT IT READS IS OF BULK AT MOST 1048576: true; the input reads as it did. -/
def fnExactRoughTraceUptoRow : OpenClaim := { program := "ytcjddnkebdjhoaa", sum := "1ab13a0bfb98f9497ed092bd61e1ecd41192379291e8d99cfbb552250f130cd9", func := "loop.example/g01231/laws.FnExactRoughTrace", spec := "fnExactRoughTrace", unfollowed := true, recurses := true, apart := false, narrowed := true }
def FnExactRoughTraceUptoSaid : Prop := fnExactRoughTraceUptoRow.holds Try.pinned (OpenSpec.upto fnExactRoughTraceSpec)

/-- 'laws.FnExactNotchTrace', WHERE WHAT IT READS IS OF BULK AT MOST 1048576: true; the input reads as it did. -/
def fnExactNotchTraceUptoRow : OpenClaim := { program := "ytcjddnkebdjhoaa", sum := "1ab13a0bfb98f9497ed092bd61e1ecd41192379291e8d99cfbb552250f130cd9", func := "loop.example/g01231/laws.FnExactNotchTrace", spec := "fnExactNotchTrace", inPlace := ["math.Float64frombits", "math.Float64bits", "math.Float32frombits"], unfollowed := true, recurses := true, apart := false, narrowed := true }
def FnExactNotchTraceUptoSaid : Prop := fnExactNotchTraceUptoRow.holds Try.pinned (OpenSpec.upto fnExactNotchTraceSpec)

/-- 'laws.FnExactDifferTrace', WHERE WHAT IT READS IS OF BULK AT MOST 1048576: true; the input reads as it did. -/
def fnExactDifferTraceUptoRow : OpenClaim := { program := "ytcjddnkebdjhoaa", sum := "1ab13a0bfb98f9497ed092bd61e1ecd41192379291e8d99cfbb552250f130cd9", func := "loop.example/g01231/laws.FnExactDifferTrace", spec := "fnExactDifferTrace", unfollowed := true, recurses := true, apart := false, narrowed := true }
def FnExactDifferTraceUptoSaid : Prop := fnExactDifferTraceUptoRow.holds Try.pinned (OpenSpec.upto fnExactDifferTraceSpec)

/-- 'laws.FnExactIntegrateTrace', WHERE WHAT IT READS IS OF BULK AT MOST 1048576: true; the input reads as it did. -/
def fnExactIntegrateTraceUptoRow : OpenClaim := { program := "ytcjddnkebdjhoaa", sum := "1ab13a0bfb98f9497ed092bd61e1ecd41192379291e8d99cfbb552250f130cd9", func := "loop.example/g01231/laws.FnExactIntegrateTrace", spec := "fnExactIntegrateTrace", unfollowed := true, recurses := true, apart := false, narrowed := true }
def FnExactIntegrateTraceUptoSaid : Prop := fnExactIntegrateTraceUptoRow.holds Try.pinned (OpenSpec.upto fnExactIntegrateTraceSpec)

/-- 'laws.FnExactMuteTrace', WHERE WHAT IT READS IS OF BULK AT MOST 1048576: true; the input reads as it did. -/
def fnExactMuteTraceUptoRow : OpenClaim := { program := "ytcjddnkebdjhoaa", sum := "1ab13a0bfb98f9497ed092bd61e1ecd41192379291e8d99cfbb552250f130cd9", func := "loop.example/g01231/laws.FnExactMuteTrace", spec := "fnExactMuteTrace", apart := false, narrowed := true }
def FnExactMuteTraceUptoSaid : Prop := fnExactMuteTraceUptoRow.holds Try.pinned (OpenSpec.upto fnExactMuteTraceSpec)

/-- 'laws.FnExactGainTrace', WHERE WHAT IT READS IS OF BULK AT MOST 1048576: true; the input reads as it did. -/
def fnExactGainTraceUptoRow : OpenClaim := { program := "ytcjddnkebdjhoaa", sum := "1ab13a0bfb98f9497ed092bd61e1ecd41192379291e8d99cfbb552250f130cd9", func := "loop.example/g01231/laws.FnExactGainTrace", spec := "fnExactGainTrace", inPlace := ["math.sqrt"], unfollowed := true, recurses := true, apart := false, narrowed := true }
def FnExactGainTraceUptoSaid : Prop := fnExactGainTraceUptoRow.holds Try.pinned (OpenSpec.upto fnExactGainTraceSpec)

/-- 'laws.FnExactPickFirst', WHERE WHAT IT READS IS OF BULK AT MOST 1048576: true; the input reads as it did. -/
def fnExactPickFirstUptoRow : OpenClaim := { program := "ytcjddnkebdjhoaa", sum := "1ab13a0bfb98f9497ed092bd61e1ecd41192379291e8d99cfbb552250f130cd9", func := "loop.example/g01231/laws.FnExactPickFirst", spec := "fnExactPickFirst", inPlace := ["math.Float64bits", "math.Float64frombits"], apart := false, narrowed := true }
def FnExactPickFirstUptoSaid : Prop := fnExactPickFirstUptoRow.holds Try.pinned (OpenSpec.upto fnExactPickFirstSpec)

/-- 'laws.FnExactWhiteAuto', WHERE WHAT IT READS IS OF BULK AT MOST 1048576: true; the input reads as it did. -/
def fnExactWhiteAutoUptoRow : OpenClaim := { program := "ytcjddnkebdjhoaa", sum := "1ab13a0bfb98f9497ed092bd61e1ecd41192379291e8d99cfbb552250f130cd9", func := "loop.example/g01231/laws.FnExactWhiteAuto", spec := "fnExactWhiteAuto", inPlace := ["math.Float64bits", "math.Float64frombits"], apart := false, narrowed := true }
def FnExactWhiteAutoUptoSaid : Prop := fnExactWhiteAutoUptoRow.holds Try.pinned (OpenSpec.upto fnExactWhiteAutoSpec)

/-- 'laws.FnExactApplyFilter', WHERE WHAT IT READS IS OF BULK AT MOST 1048576: true; the input reads as it did. -/
def fnExactApplyFilterUptoRow : OpenClaim := { program := "ytcjddnkebdjhoaa", sum := "1ab13a0bfb98f9497ed092bd61e1ecd41192379291e8d99cfbb552250f130cd9", func := "loop.example/g01231/laws.FnExactApplyFilter", spec := "fnExactApplyFilter", unfollowed := true, recurses := true, apart := false, narrowed := true }
def FnExactApplyFilterUptoSaid : Prop := fnExactApplyFilterUptoRow.holds Try.pinned (OpenSpec.upto fnExactApplyFilterSpec)

end Rows
end Go.Proofs.Ytcjddnkebdjhoaa
