/- The law FnExactCurveTime: every call returns true and leaves the memory as it was, whatever the arguments. No condition. -/
import Derived.Test.YtkoiimjpalhgbabLaw
import Derived.Test.YtkoiimjpalhgbabCu
namespace Go.Proofs.Ytkoiimjpalhgbab
open Go.RowKit Ieee

set_option linter.unusedSimpArgs false in
set_option maxRecDepth 20000 in
set_option maxHeartbeats 400000 in
theorem w_FnExactCurveTime {a b c : Nat} (ha : a < 4294967296) (hb : b < 4294967296) (hc : c < 4294967296) {w : World} :
    Calls Try.prog 6 #[.float .f32 a, .float .f32 b, .float .f32 c] w fun e w' => e = .returned (.bool true) ∧ Below w.heap.size w w' := by
  have fa := Fl.of32 ha
  have fb := Fl.of32 hb
  have fc := Fl.of32 hc
  generalize fl .f32 a = A at fa
  generalize fl .f32 b = B at fb
  generalize fl .f32 c = C at fc
  go_enter Try.func6, Try.ntmps6
  go_wp2_with (first | (go_at_call 25; refine Calls.mono (c_spec_CurveTime fa fb fc _) ?_; rintro e w' ⟨r1, rfl, hr1, n1, rfl⟩) | (go_at_call 26; refine Calls.mono (c_impl_CurveTime fa fb fc _) ?_; rintro e w' ⟨r2, rfl, hr2, n2, rfl⟩) | (apply upon_wide s_f32 Try.underlying34; (first | assumption | exact Fl.const (of_decide_eq_true (by kernel_rfl))); intro r n hr) | (go_at_call 19; refine Calls.mono (c_sameFloat (by assumption) (by assumption) _) ?_; rintro e w' ⟨rfl, n3, rfl⟩))
  go_ret
  exact ⟨rfl, Dr.below ⟨_, rfl⟩⟩
set_option maxRecDepth 20000 in
open Go.ChangeShapes Go.WideShapes Go.ChangeAt Go.ChangeMaps in
theorem FnExactCurveTime_holds : Rows.FnExactCurveTimeSaid :=
  OpenClaim.holds_of_wide 6 Try.f6 rfl rfl rfl rfl rfl rfl rfl ⟨rfl, rfl, rfl, rfl, rfl⟩ rfl rfl rfl rfl rfl (by kernel_rfl) Try.func6 (by kernel_rfl)
    (of_decide_eq_true (by kernel_rfl)) (by unfold Func.isWrapper; first | (rw [if_pos (by decide +kernel)]; kernel_rfl) | (rw [if_neg (by decide +kernel)]; exact ⟨rfl, rfl⟩))
    (fun os started H enc _ => law_lifted os started H enc 6 Try.f6 Rows.fnExactCurveTimeSpec (by kernel_rfl) Try.func6
      (ChangeSpec.witness6 (enc := enc) (C := Try.checked) false ⟨#[], #[.float .f32 0, .float .f32 0, .float .f32 0], []⟩ 8 (by kernel_rfl) (by kernel_rfl) (by kernel_rfl) (by kernel_rfl))
      (by rw [Try.params6]; intro t ht; simp at ht; subst ht <;> exact ⟨by kernel_rfl, of_decide_eq_true (by kernel_rfl)⟩) rfl 4 (by kernel_rfl) Try.underlying4
      (by intro ds hds; rw [Try.params6] at hds; match ds, hds with | [_, _, _], _ => rfl)
      (by
        intro W base args ds ps hval hA hlt
        rw [Try.params6] at hA hval
        obtain ⟨v0, v1, v2, d0, d1, d2, p0, p1, p2, rfl, rfl, rfl, h0, h1, h2⟩ := trodAll_three hA
        obtain ⟨a0, rfl, rfl, rfl, k0⟩ := open_float Try.underlying23 (hval 0 23 v0 rfl rfl) h0
        obtain ⟨a1, rfl, rfl, rfl, k1⟩ := open_float Try.underlying23 (hval 1 23 v1 rfl rfl) h1
        obtain ⟨a2, rfl, rfl, rfl, k2⟩ := open_float Try.underlying23 (hval 2 23 v2 rfl rfl) h2
        exact w_FnExactCurveTime (w := W) (wf32 k0) (wf32 k1) (wf32 k2)))

end Go.Proofs.Ytkoiimjpalhgbab
