/- Curves and gradients of chapter 2: contracts of both sides. No condition but that floats are 32 bits. -/
import Derived.Test.YtkoiimjpalhgbabG1
import Derived.Deep.RegionWith
namespace Go.Proofs.Ytkoiimjpalhgbab
open Go.RowKit Ieee

theorem tri (a b c : Bool) : a = false ∨ (a = true ∧ b = false) ∨ (a = true ∧ b = true ∧ c = false) ∨ (a = true ∧ b = true ∧ c = true) := by cases a <;> cases b <;> cases c <;> simp
def fsq2 (a b : Option Nat) : Option Nat := froot (fop .add .f32 (fop .mul .f32 a a) (fop .mul .f32 b b))
def curveOk (A B C : Option Nat) : Bool := ffin .f32 A && ffin .f32 B && fabove C
def curveRaw (A B C : Option Nat) : Option Nat := fsq2 A (fop .quo .f32 B C)
def tellX (ok : Bool) (raw : Option Nat) : Option Nat := if ok then numX raw else fz
def tellOk (ok : Bool) (raw : Option Nat) : Bool := ok && ffin .f32 raw

set_option linter.unusedSimpArgs false in
set_option maxRecDepth 20000 in
set_option maxHeartbeats 400000 in
theorem c_spec_CurveTime {a b c : Nat} {A B C : Option Nat} (ha : Fl .f32 a A) (hb : Fl .f32 b B) (hc : Fl .f32 c C) (w : World) :
    Calls Try.prog 25 #[.float .f32 a, .float .f32 b, .float .f32 c] w fun e w' => ∃ r, e = .returned (.tuple #[.float .f32 r, .bool (tellOk (curveOk A B C) (curveRaw A B C))]) ∧ Fl .f32 r (tellX (curveOk A B C) (curveRaw A B C)) ∧ Dr w w' := by
  rcases tri (ffin .f32 A) (ffin .f32 B) (fabove C) with hA | ⟨hA, hB⟩ | ⟨hA, hB, hC⟩ | ⟨hA, hB, hC⟩
  all_goals
    rw [show curveOk A B C = _ from by unfold curveOk; first | rw [hA, hB, hC] | rw [hA, hB] | rw [hA]]
    simp only [tellOk, tellX, Bool.and_false, Bool.and_true, Bool.false_and, Bool.true_and, if_true, if_false, Bool.false_eq_true]
    go_enter Try.func25, Try.ntmps25
    go_wp2_with (first
      | (go_at_call 62; refine Calls.mono (c_l01Finite (by assumption) _) ?_; (first | rw [hA] | rw [hB]); rintro e w' ⟨rfl, n, rfl⟩)
      | (go_at_call 66; refine Calls.mono (c_l02Above hc _) ?_; rw [hC]; rintro e w' ⟨rfl, n, rfl⟩)
      | (go_at_call 68; refine Calls.mono (c_l01Sqrt (by assumption) _) ?_; rintro e w' ⟨r9, rfl, hr9, n, rfl⟩)
      | (go_at_call 67; refine Calls.mono (c_l02Number (by assumption) _) ?_; rintro e w' ⟨r8, rfl, hr8, n, rfl⟩)
      | (apply upon_fop rfl; (first | assumption | exact Fl.const (of_decide_eq_true (by kernel_rfl))); (first | assumption | exact Fl.const (of_decide_eq_true (by kernel_rfl))); intro r n hr))
    go_ret2
    first | exact ⟨_, rfl, fl_fz, _, rfl⟩ | exact ⟨_, rfl, by assumption, _, rfl⟩
set_option linter.unusedSimpArgs false in
set_option maxRecDepth 20000 in
set_option maxHeartbeats 400000 in
theorem c_rootOfSquares {a b : Nat} {A B : Option Nat} (ha : Fl .f32 a A) (hb : Fl .f32 b B) (w : World) :
    Calls Try.prog 72 #[.float .f32 a, .float .f32 b] w fun e w' => ∃ r, e = .returned (.float .f32 r) ∧ Fl .f32 r (fsq2 A B) ∧ Dr w w' := by
  go_enter Try.func72, Try.ntmps72
  go_wp2_with (first | (go_at_call 82; go_in) | (go_at_call 85; refine Calls.mono (c_RootNumber (by assumption) _) ?_; rintro e w' ⟨r9, rfl, hr9, n, rfl⟩) | (apply upon_fop rfl; (first | assumption | exact Fl.const (of_decide_eq_true (by kernel_rfl))); (first | assumption | exact Fl.const (of_decide_eq_true (by kernel_rfl))); intro r n hr))
  go_ret
  exact ⟨_, rfl, by assumption, _, rfl⟩
set_option linter.unusedSimpArgs false in
set_option maxRecDepth 20000 in
set_option maxHeartbeats 400000 in
theorem c_impl_CurveTime {a b c : Nat} {A B C : Option Nat} (ha : Fl .f32 a A) (hb : Fl .f32 b B) (hc : Fl .f32 c C) (w : World) :
    Calls Try.prog 26 #[.float .f32 a, .float .f32 b, .float .f32 c] w fun e w' => ∃ r, e = .returned (.tuple #[.float .f32 r, .bool (tellOk (curveOk A B C) (curveRaw A B C))]) ∧ Fl .f32 r (tellX (curveOk A B C) (curveRaw A B C)) ∧ Dr w w' := by
  rcases tri (ffin .f32 A) (ffin .f32 B) (fabove C) with hA | ⟨hA, hB⟩ | ⟨hA, hB, hC⟩ | ⟨hA, hB, hC⟩
  all_goals
    rw [show curveOk A B C = _ from by unfold curveOk; first | rw [hA, hB, hC] | rw [hA, hB] | rw [hA]]
    simp only [tellOk, tellX, Bool.and_false, Bool.and_true, Bool.false_and, Bool.true_and, if_true, if_false, Bool.false_eq_true]
    go_enter Try.func26, Try.ntmps26
    go_wp2_with (first
      | (go_at_call 69; refine Calls.mono (c_impl_IsFinite (by assumption) _) ?_; (first | rw [hA] | rw [hB]); rintro e w' ⟨rfl, n, rfl⟩)
      | (go_at_call 70; refine Calls.mono (c_isPositive hc _) ?_; rw [hC]; rintro e w' ⟨rfl, n, rfl⟩)
      | (go_at_call 72; refine Calls.mono (c_rootOfSquares ha (by assumption) _) ?_; rintro e w' ⟨r9, rfl, hr9, n, rfl⟩)
      | (go_at_call 71; refine Calls.mono (c_finiteNumber (by assumption) _) ?_; rintro e w' ⟨r8, rfl, hr8, n, rfl⟩)
      | (apply upon_fop rfl; (first | assumption | exact Fl.const (of_decide_eq_true (by kernel_rfl))); (first | assumption | exact Fl.const (of_decide_eq_true (by kernel_rfl))); intro r n hr))
    go_ret2
    first | exact ⟨_, rfl, fl_fz, _, rfl⟩ | exact ⟨_, rfl, by assumption, _, rfl⟩
def gradOk (A B C : Option Nat) : Bool := fabove A && fabove B && fway C
def gradRound (A B C : Option Nat) : Option Nat := fsq2 (fop .mul .f32 k32half C) (fop .quo .f32 A B)
def gradDepth (A B C : Option Nat) : Option Nat := fop .sub .f32 (gradRound A B C) (fop .quo .f32 A B)
def gradSlow (A B C : Option Nat) : Option Nat := fop .quo .f32 fu (fop .mul .f32 B (gradRound A B C))
set_option linter.unusedSimpArgs false in
set_option maxRecDepth 20000 in
set_option maxHeartbeats 400000 in
theorem c_l02Gradient {a b c : Nat} {A B C : Option Nat} (ha : Fl .f32 a A) (hb : Fl .f32 b B) (hc : Fl .f32 c C) (w : World) :
    Calls Try.prog 86 #[.float .f32 a, .float .f32 b, .float .f32 c] w fun e w' => e = .returned (.bool (gradOk A B C)) ∧ Dr w w' := by
  cases hA : fabove A <;> cases hB : fabove B
  all_goals
    go_enter Try.func86, Try.ntmps86
    go_wp2_with (first
      | (go_at_call 66; refine Calls.mono (c_l02Above (by assumption) _) ?_; (first | rw [hA] | rw [hB]); rintro e w' ⟨rfl, n, rfl⟩)
      | (go_at_call 60; refine Calls.mono (c_l02Way hc _) ?_; rintro e w' ⟨rfl, n, rfl⟩))
    go_ret
    exact ⟨retb (by simp [gradOk, hA, hB]), _, rfl⟩
set_option linter.unusedSimpArgs false in
set_option maxRecDepth 20000 in
set_option maxHeartbeats 400000 in
theorem c_isGradient {a b c : Nat} {A B C : Option Nat} (ha : Fl .f32 a A) (hb : Fl .f32 b B) (hc : Fl .f32 c C) (w : World) :
    Calls Try.prog 88 #[.float .f32 a, .float .f32 b, .float .f32 c] w fun e w' => e = .returned (.bool (gradOk A B C)) ∧ Dr w w' := by
  cases hA : fabove A <;> cases hB : fabove B
  all_goals
    go_enter Try.func88, Try.ntmps88
    go_wp2_with (first
      | (go_at_call 70; refine Calls.mono (c_isPositive (by assumption) _) ?_; (first | rw [hA] | rw [hB]); rintro e w' ⟨rfl, n, rfl⟩)
      | (go_at_call 64; refine Calls.mono (c_isDistance hc _) ?_; rintro e w' ⟨rfl, n, rfl⟩))
    go_ret
    exact ⟨retb (by simp [gradOk, hA, hB]), _, rfl⟩
set_option linter.unusedSimpArgs false in
set_option maxRecDepth 20000 in
set_option maxHeartbeats 400000 in
theorem c_l02Round {a b c : Nat} {A B C : Option Nat} (ha : Fl .f32 a A) (hb : Fl .f32 b B) (hc : Fl .f32 c C) (w : World) :
    Calls Try.prog 87 #[.float .f32 a, .float .f32 b, .float .f32 c] w fun e w' => ∃ r, e = .returned (.float .f32 r) ∧ Fl .f32 r (gradRound A B C) ∧ Dr w w' := by
  go_enter Try.func87, Try.ntmps87
  go_wp2_with (first
      | (go_at_call 68; refine Calls.mono (c_l01Sqrt (by assumption) _) ?_; rintro e w' ⟨r9, rfl, hr9, n, rfl⟩)
      | (apply upon_fop rfl; (first | assumption | exact Fl.const (of_decide_eq_true (by kernel_rfl))); (first | assumption | exact Fl.const (of_decide_eq_true (by kernel_rfl))); intro r n hr))
  go_ret
  exact ⟨_, rfl, by assumption, _, rfl⟩
set_option linter.unusedSimpArgs false in
set_option maxRecDepth 20000 in
set_option maxHeartbeats 400000 in
theorem c_turnRadius {a b c : Nat} {A B C : Option Nat} (ha : Fl .f32 a A) (hb : Fl .f32 b B) (hc : Fl .f32 c C) (w : World) :
    Calls Try.prog 89 #[.float .f32 a, .float .f32 b, .float .f32 c] w fun e w' => ∃ r, e = .returned (.float .f32 r) ∧ Fl .f32 r (gradRound A B C) ∧ Dr w w' := by
  have hh : gradRound A B C = fsq2 (fop .quo .f32 C (fl .f32 1073741824)) (fop .quo .f32 A B) := by unfold gradRound; rw [← fop_half]; rfl
  have HH := Lib.hid hh
  clear hh
  go_enter Try.func89, Try.ntmps89
  go_wp2_with (first
      | (go_at_call 72; refine Calls.mono (c_rootOfSquares (A := fop .quo .f32 C (fl .f32 1073741824)) (by assumption) (by assumption) _) ?_; rintro e w' ⟨r9, rfl, hr9, n, rfl⟩)
      | (apply upon_fop rfl; (first | assumption | exact Fl.const (of_decide_eq_true (by kernel_rfl))); (first | assumption | exact Fl.const (of_decide_eq_true (by kernel_rfl))); intro r n hr))
  go_ret
  exact ⟨_, rfl, by rw [HH.out]; assumption, _, rfl⟩
end Go.Proofs.Ytkoiimjpalhgbab
