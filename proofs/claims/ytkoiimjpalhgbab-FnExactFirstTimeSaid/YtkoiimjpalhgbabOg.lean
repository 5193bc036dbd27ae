/- A law's argument that is a ground, at this program's types. No condition. -/
import Derived.Test.YtkoiimjpalhgbabGr
namespace Go.Proofs.Ytkoiimjpalhgbab
open Go.RowKit Go.ChangeShapes Go.WideShapes

set_option maxRecDepth 20000 in
theorem open_gr {H : Type} {enc : TypeId × Value → H} {b0 : Nat} {r : Reach} {v : Value} {d : DataW H} {ps : List MemPlace} {w : World} (hval : Value.okWide Try.prog w r b0 25 v)
    (hd : DataW.Trod enc Try.prog w 0 (fun _ => true) true 25 v d ps) (hlt : ∀ x ∈ ps, x.block < w.heap.size) :
    ∃ A n c L s d, v = .agg #[.slice A n c, .float .f32 s, .float .f32 d] ∧ n ≤ maxLen ∧ RdL w A n L ∧ s < 4294967296 ∧ d < 4294967296 :=
  open_ground Try.underlying25 (by kernel_rfl) (by kernel_rfl) Try.underlying22 ⟨Try.underlying23, Try.underlying23⟩ Try.underlying103 (by kernel_rfl)
    ⟨rfl, rfl, rfl, rfl⟩ ⟨by kernel_rfl, by kernel_rfl, by kernel_rfl, by kernel_rfl⟩ ⟨Try.underlying23, Try.underlying23, Try.underlying23, Try.underlying23⟩ hval hd hlt
end Go.Proofs.Ytkoiimjpalhgbab
