/- The law FnExactGradientDepth: every call returns true and leaves the memory as it was, whatever the arguments. No condition. -/
import Derived.Test.YtkoiimjpalhgbabLaw
import Derived.Test.YtkoiimjpalhgbabCu
namespace Go.Proofs.Ytkoiimjpalhgbab
open Go.RowKit Ieee

set_option linter.unusedSimpArgs false in
set_option maxRecDepth 20000 in
set_option maxHeartbeats 400000 in
theorem c_spec_GradientDepth {a b c : Nat} {A B C : Option Nat} (ha : Fl .f32 a A) (hb : Fl .f32 b B) (hc : Fl .f32 c C) (w : World) :
    Calls Try.prog 40 #[.float .f32 a, .float .f32 b, .float .f32 c] w fun e w' => ∃ r, e = .returned (.tuple #[.float .f32 r, .bool (tellOk (gradOk A B C) (gradDepth A B C))]) ∧ Fl .f32 r (tellX (gradOk A B C) (gradDepth A B C)) ∧ Dr w w' := by
  cases hA : gradOk A B C
  all_goals
    simp only [Bool.and_true, Bool.true_and, Bool.false_and, Bool.and_false, tellOk, tellX, if_true, if_false, Bool.false_eq_true]
    go_enter Try.func40, Try.ntmps40
    go_wp2_with (first
      | (go_at_call 86; refine Calls.mono (c_l02Gradient ha hb hc _) ?_; rw [hA]; rintro e w' ⟨rfl, n, rfl⟩)
      | (go_at_call 87; refine Calls.mono (c_l02Round ha hb hc _) ?_; rintro e w' ⟨r9, rfl, hr9, n, rfl⟩)
      | (go_at_call 67; refine Calls.mono (c_l02Number (by assumption) _) ?_; rintro e w' ⟨r8, rfl, hr8, n, rfl⟩)
      | (apply upon_fop rfl; (first | assumption | exact Fl.const (of_decide_eq_true (by kernel_rfl))); (first | assumption | exact Fl.const (of_decide_eq_true (by kernel_rfl))); intro r n hr))
    go_ret2
    first | exact ⟨_, rfl, fl_fz, _, rfl⟩ | exact ⟨_, rfl, by assumption, _, rfl⟩

set_option linter.unusedSimpArgs false in
set_option maxRecDepth 20000 in
set_option maxHeartbeats 400000 in
theorem c_impl_GradientDepth {a b c : Nat} {A B C : Option Nat} (ha : Fl .f32 a A) (hb : Fl .f32 b B) (hc : Fl .f32 c C) (w : World) :
    Calls Try.prog 41 #[.float .f32 a, .float .f32 b, .float .f32 c] w fun e w' => ∃ r, e = .returned (.tuple #[.float .f32 r, .bool (tellOk (gradOk A B C) (gradDepth A B C))]) ∧ Fl .f32 r (tellX (gradOk A B C) (gradDepth A B C)) ∧ Dr w w' := by
  cases hA : gradOk A B C
  all_goals
    simp only [Bool.and_true, Bool.true_and, Bool.false_and, Bool.and_false, tellOk, tellX, if_true, if_false, Bool.false_eq_true]
    go_enter Try.func41, Try.ntmps41
    go_wp2_with (first
      | (go_at_call 88; refine Calls.mono (c_isGradient ha hb hc _) ?_; rw [hA]; rintro e w' ⟨rfl, n, rfl⟩)
      | (go_at_call 89; refine Calls.mono (c_turnRadius ha hb hc _) ?_; rintro e w' ⟨r9, rfl, hr9, n, rfl⟩)
      | (go_at_call 71; refine Calls.mono (c_finiteNumber (by assumption) _) ?_; rintro e w' ⟨r8, rfl, hr8, n, rfl⟩)
      | (apply upon_fop rfl; (first | assumption | exact Fl.const (of_decide_eq_true (by kernel_rfl))); (first | assumption | exact Fl.const (of_decide_eq_true (by kernel_rfl))); intro r n hr) | go_in)
    go_ret2
    first | exact ⟨_, rfl, fl_fz, _, rfl⟩ | exact ⟨_, rfl, by assumption, _, rfl⟩

set_option linter.unusedSimpArgs false in
set_option maxRecDepth 20000 in
set_option maxHeartbeats 400000 in
theorem w_FnExactGradientDepth {a b c : Nat} (ha : a < 4294967296) (hb : b < 4294967296) (hc : c < 4294967296) {w : World} :
    Calls Try.prog 11 #[.float .f32 a, .float .f32 b, .float .f32 c] w fun e w' => e = .returned (.bool true) ∧ Below w.heap.size w w' := by
  have fa := Fl.of32 ha
  have fb := Fl.of32 hb
  have fc := Fl.of32 hc
  generalize fl .f32 a = A at fa
  generalize fl .f32 b = B at fb
  generalize fl .f32 c = C at fc
  go_enter Try.func11, Try.ntmps11
  go_wp2_with (first | (go_at_call 40; refine Calls.mono (c_spec_GradientDepth fa fb fc _) ?_; rintro e w' ⟨r1, rfl, hr1, n1, rfl⟩) | (go_at_call 41; refine Calls.mono (c_impl_GradientDepth fa fb fc _) ?_; rintro e w' ⟨r2, rfl, hr2, n2, rfl⟩) | (apply upon_wide s_f32 Try.underlying34; (first | assumption | exact Fl.const (of_decide_eq_true (by kernel_rfl))); intro r n hr) | (go_at_call 19; refine Calls.mono (c_sameFloat (by assumption) (by assumption) _) ?_; rintro e w' ⟨rfl, n3, rfl⟩))
  go_ret
  exact ⟨rfl, Dr.below ⟨_, rfl⟩⟩
set_option maxRecDepth 20000 in
open Go.ChangeShapes Go.WideShapes Go.ChangeAt Go.ChangeMaps in
theorem FnExactGradientDepth_holds : Rows.FnExactGradientDepthSaid :=
  OpenClaim.holds_of_wide 11 Try.f11 rfl rfl rfl rfl rfl rfl rfl ⟨rfl, rfl, rfl, rfl, rfl⟩ rfl rfl rfl rfl rfl (by kernel_rfl) Try.func11 (by kernel_rfl)
    (of_decide_eq_true (by kernel_rfl)) (by unfold Func.isWrapper; first | (rw [if_pos (by decide +kernel)]; kernel_rfl) | (rw [if_neg (by decide +kernel)]; exact ⟨rfl, rfl⟩))
    (fun os started H enc _ => law_lifted os started H enc 11 Try.f11 Rows.fnExactGradientDepthSpec (by kernel_rfl) Try.func11
      (ChangeSpec.witness6 (enc := enc) (C := Try.checked) false ⟨#[], #[.float .f32 0, .float .f32 0, .float .f32 0], []⟩ 8 (by kernel_rfl) (by kernel_rfl) (by kernel_rfl) (by kernel_rfl))
      (by rw [Try.params11]; intro t ht; simp at ht; subst ht <;> exact ⟨by kernel_rfl, of_decide_eq_true (by kernel_rfl)⟩) rfl 4 (by kernel_rfl) Try.underlying4
      (by intro ds hds; rw [Try.params11] at hds; match ds, hds with | [_, _, _], _ => rfl)
      (by
        intro W base args ds ps hval hA hlt
        rw [Try.params11] at hA hval
        obtain ⟨v0, v1, v2, d0, d1, d2, p0, p1, p2, rfl, rfl, rfl, h0, h1, h2⟩ := trodAll_three hA
        obtain ⟨a0, rfl, rfl, rfl, k0⟩ := open_float Try.underlying23 (hval 0 23 v0 rfl rfl) h0
        obtain ⟨a1, rfl, rfl, rfl, k1⟩ := open_float Try.underlying23 (hval 1 23 v1 rfl rfl) h1
        obtain ⟨a2, rfl, rfl, rfl, k2⟩ := open_float Try.underlying23 (hval 2 23 v2 rfl rfl) h2
        exact w_FnExactGradientDepth (w := W) (wf32 k0) (wf32 k1) (wf32 k2)))

end Go.Proofs.Ytkoiimjpalhgbab
