/- Contracts: coefficients, surfaces, hardnesses, on both sides. Condition: the list is read. -/
import Derived.Test.YtcjddnkebdjhoacTx
import Derived.Test.YtcjddnkebdjhoacTr
namespace Go.Proofs.Ytcjddnkebdjhoac
open Go.RowKit Ieee



set_option maxRecDepth 20000 in
set_option maxHeartbeats 400000 in
theorem c_isSurface {w : World} {x : Nat} {X : Option Nat} (fx : Fl .f32 x X) :
    Calls Try.prog 124 #[.float .f32 x] w fun e w' => e = .returned (.bool (fsurf X)) ∧ w = w' := by
  have h1 := fl_fm1.ole fx
  have h2 := fx.ole fl_fu
  cases hA : fle32 fm1 X
  all_goals
    rw [hA] at h1
    go_enter Try.func124, Try.ntmps124
    go_wp2_with (fail)
    go_ret
    exact ⟨retb (by simp [fsurf, hA]), rfl⟩

set_option maxRecDepth 20000 in
set_option maxHeartbeats 400000 in
theorem c_l03Surface {w : World} {x : Nat} {X : Option Nat} (fx : Fl .f32 x X) :
    Calls Try.prog 122 #[.float .f32 x] w fun e w' => e = .returned (.bool (fsurf X)) ∧ w = w' := by
  have h1 := fx.oge fl_fm1
  rw [← fle_ge] at h1
  have h2 := fx.ole fl_fu
  cases hA : fle32 fm1 X
  all_goals
    rw [hA] at h1
    go_enter Try.func122, Try.ntmps122
    go_wp2_with (fail)
    go_ret
    exact ⟨retb (by simp [fsurf, hA]), rfl⟩






end Go.Proofs.Ytcjddnkebdjhoac
