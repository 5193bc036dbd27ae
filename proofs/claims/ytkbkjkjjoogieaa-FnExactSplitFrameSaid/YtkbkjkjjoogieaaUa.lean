/- Contracts: coefficients, surfaces, hardnesses, on both sides. Condition: the list is read. -/
import Derived.Test.YtkbkjkjjoogieaaTx
import Derived.Test.YtkbkjkjjoogieaaTr
namespace Go.Proofs.Ytkbkjkjjoogieaa
open Go.RowKit Ieee






set_option maxRecDepth 20000 in
set_option maxHeartbeats 400000 in
theorem c_isPositive {w : World} {x : Nat} {X : Option Nat} (fx : Fl .f32 x X) :
    Calls Try.prog 99 #[.float .f32 x] w fun e w' => e = .returned (.bool (fabove X)) ∧ Dr w w' := by
  have hg := fx.ogt0
  cases hF : ffin .f32 X
  all_goals
    go_enter Try.func99, Try.ntmps99
    go_wp2_with (go_at_call 125; refine Calls.mono (c_impl_IsFinite fx _) ?_; rw [hF]; rintro e w' ⟨rfl, n, rfl⟩)
    go_ret
    exact ⟨retb (by simp [fabove, hF]), _, rfl⟩




end Go.Proofs.Ytkbkjkjjoogieaa
