/- Contracts of single numbers of chapter 2: roots, what is above 0, ways, finite results. No condition but that floats are 32 bits. -/
import Derived.Test.YtkoiimjpalhgbabGm
import Derived.Test.YtkoiimjpalhgbabC1
namespace Go.Proofs.Ytkoiimjpalhgbab
open Go.RowKit Ieee

set_option maxRecDepth 20000 in
set_option maxHeartbeats 400000 in
theorem c_l01Sqrt {x : Nat} {X : Option Nat} (h : Fl .f32 x X) (w : World) :
    Calls Try.prog 68 #[.float .f32 x] w fun e w' => ∃ r, e = .returned (.float .f32 r) ∧ Fl .f32 r (froot X) ∧ Dr w w' := by
  have hf := fits_root h
  go_enter Try.func68, Try.ntmps68
  go_wp2_with (first | (apply upon_wide s_f32 Try.underlying34; (first | assumption | exact Fl.const (of_decide_eq_true (by kernel_rfl))); intro r n hr) | (go_at_call 108; refine Calls.mono (c_Sqrt (by assumption) _) ?_; rintro e w' ⟨r, rfl, hr, n, rfl⟩) | (apply upon_narrow s_f64 Try.underlying23; (first | assumption | exact Fl.const (of_decide_eq_true (by kernel_rfl))); assumption; intro r n hr) | go_in)
  go_ret
  exact ⟨_, rfl, by assumption, _, rfl⟩
set_option maxRecDepth 20000 in
set_option maxHeartbeats 400000 in
theorem c_RootNumber {x : Nat} {X : Option Nat} (h : Fl .f32 x X) (w : World) :
    Calls Try.prog 85 #[.float .f32 x] w fun e w' => ∃ r, e = .returned (.float .f32 r) ∧ Fl .f32 r (froot X) ∧ Dr w w' := by
  have hf := fits_root h
  go_enter Try.func85, Try.ntmps85
  go_wp2_with (first | (apply upon_wide s_f32 Try.underlying34; (first | assumption | exact Fl.const (of_decide_eq_true (by kernel_rfl))); intro r n hr) | (go_at_call 108; refine Calls.mono (c_Sqrt (by assumption) _) ?_; rintro e w' ⟨r, rfl, hr, n, rfl⟩) | (apply upon_narrow s_f64 Try.underlying23; (first | assumption | exact Fl.const (of_decide_eq_true (by kernel_rfl))); assumption; intro r n hr) | go_in)
  go_ret
  exact ⟨_, rfl, by assumption, _, rfl⟩
set_option maxRecDepth 20000 in
set_option maxHeartbeats 400000 in
theorem c_l02Above {x : Nat} {X : Option Nat} (h : Fl .f32 x X) (w : World) :
    Calls Try.prog 66 #[.float .f32 x] w fun e w' => e = .returned (.bool (fabove X)) ∧ Dr w w' := by
  have hg := h.ogt0
  cases hF : ffin .f32 X
  all_goals
    go_enter Try.func66, Try.ntmps66
    go_wp2_with (first | (go_at_call 62; refine Calls.mono (c_l01Finite h _) ?_; rw [hF]; rintro e w' ⟨rfl, n, rfl⟩))
    go_ret
    exact ⟨retb (by simp [fabove, hF]), _, rfl⟩
set_option maxRecDepth 20000 in
set_option maxHeartbeats 400000 in
theorem c_isPositive {x : Nat} {X : Option Nat} (h : Fl .f32 x X) (w : World) :
    Calls Try.prog 70 #[.float .f32 x] w fun e w' => e = .returned (.bool (fabove X)) ∧ Dr w w' := by
  have hg := h.ogt0
  cases hF : ffin .f32 X
  all_goals
    go_enter Try.func70, Try.ntmps70
    go_wp2_with (first | (go_at_call 69; refine Calls.mono (c_impl_IsFinite h _) ?_; rw [hF]; rintro e w' ⟨rfl, n, rfl⟩))
    go_ret
    exact ⟨retb (by simp [fabove, hF]), _, rfl⟩
set_option maxRecDepth 20000 in
set_option maxHeartbeats 400000 in
theorem c_l02Way {x : Nat} {X : Option Nat} (h : Fl .f32 x X) (w : World) :
    Calls Try.prog 60 #[.float .f32 x] w fun e w' => e = .returned (.bool (fway X)) ∧ Dr w w' := by
  have hg := h.oge0
  cases hF : ffin .f32 X
  all_goals
    go_enter Try.func60, Try.ntmps60
    go_wp2_with (first | (go_at_call 62; refine Calls.mono (c_l01Finite h _) ?_; rw [hF]; rintro e w' ⟨rfl, n, rfl⟩))
    go_ret
    exact ⟨retb (by simp [fway, hF]), _, rfl⟩
set_option maxRecDepth 20000 in
set_option maxHeartbeats 400000 in
theorem c_isDistance {x : Nat} {X : Option Nat} (h : Fl .f32 x X) (w : World) :
    Calls Try.prog 64 #[.float .f32 x] w fun e w' => e = .returned (.bool (fway X)) ∧ Dr w w' := by
  have hg := h.oge0
  cases hF : ffin .f32 X
  all_goals
    go_enter Try.func64, Try.ntmps64
    go_wp2_with (first | (go_at_call 69; refine Calls.mono (c_impl_IsFinite h _) ?_; rw [hF]; rintro e w' ⟨rfl, n, rfl⟩))
    go_ret
    exact ⟨retb (by simp [fway, hF]), _, rfl⟩
/-- A number that is returned with its success. -/
def NumR (e : Ending) (X : Option Nat) (ok : Bool) : Prop := ∃ r, e = .returned (.tuple #[.float .f32 r, .bool ok]) ∧ Fl .f32 r X
set_option maxRecDepth 20000 in
set_option maxHeartbeats 400000 in
theorem c_l02Number {x : Nat} {X : Option Nat} (h : Fl .f32 x X) (w : World) :
    Calls Try.prog 67 #[.float .f32 x] w fun e w' => ∃ r, e = .returned (.tuple #[.float .f32 r, .bool (ffin .f32 X)]) ∧ Fl .f32 r (numX X) ∧ Dr w w' := by
  cases hF : ffin .f32 X
  all_goals
    go_enter Try.func67, Try.ntmps67
    go_wp2_with (first | (go_at_call 62; refine Calls.mono (c_l01Finite h _) ?_; rw [hF]; rintro e w' ⟨rfl, n, rfl⟩))
    go_ret2
    exact ⟨_, rfl, by simp [numX, hF]; first | exact h | exact fl_fz, _, rfl⟩
set_option maxRecDepth 20000 in
set_option maxHeartbeats 400000 in
theorem c_finiteNumber {x : Nat} {X : Option Nat} (h : Fl .f32 x X) (w : World) :
    Calls Try.prog 71 #[.float .f32 x] w fun e w' => ∃ r, e = .returned (.tuple #[.float .f32 r, .bool (ffin .f32 X)]) ∧ Fl .f32 r (numX X) ∧ Dr w w' := by
  cases hF : ffin .f32 X
  all_goals
    go_enter Try.func71, Try.ntmps71
    go_wp2_with (first | (go_at_call 69; refine Calls.mono (c_impl_IsFinite h _) ?_; rw [hF]; rintro e w' ⟨rfl, n, rfl⟩))
    go_ret2
    exact ⟨_, rfl, by simp [numX, hF]; first | exact h | exact fl_fz, _, rfl⟩
end Go.Proofs.Ytkoiimjpalhgbab
