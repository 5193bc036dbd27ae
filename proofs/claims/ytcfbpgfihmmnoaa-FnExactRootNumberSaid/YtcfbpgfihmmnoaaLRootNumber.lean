/- The law FnExactRootNumber: every call of the law returns true and leaves the memory that was there as it was, whatever the argument. No condition. -/
import Derived.Test.YtcfbpgfihmmnoaaLaw
import Derived.Test.YtcfbpgfihmmnoaaSq
namespace Go.Proofs.Ytcfbpgfihmmnoaa
open Go.RowKit Ieee

set_option maxHeartbeats 800000 in
theorem w_FnExactRootNumber {a : Nat} (ha : a < 4294967296) {w : World} :
    Calls Try.prog 10 #[.float .f32 a] w fun e w' => e = .returned (.bool true) ∧ Below w.heap.size w w' := by
  have fa := Fl.of32 ha
  have hf := fits_root fa
  go_enter Try.func10, Try.ntmps10
  go_wp2_with (first | (apply upon_wide s_f32 Try.underlying29; (first | assumption | exact Fl.const (of_decide_eq_true (by kernel_rfl))); intro r n hr) | (go_at_call 41; refine Calls.mono (c_Sqrt (by assumption) _) ?_; rintro e w' ⟨r, rfl, hr, n, rfl⟩) | (apply upon_narrow s_f64 Try.underlying22; (first | assumption | exact Fl.const (of_decide_eq_true (by kernel_rfl))); assumption; intro r n hr) | (go_at_call 19; refine Calls.mono (c_sameFloat (by assumption) (by assumption) _) ?_; rintro e w' ⟨rfl, n3, rfl⟩) | go_in)
  go_ret
  exact ⟨rfl, Dr.below ⟨_, rfl⟩⟩
open Go.ChangeShapes Go.WideShapes Go.ChangeAt Go.ChangeMaps in
theorem FnExactRootNumber_holds : Rows.FnExactRootNumberSaid :=
  OpenClaim.holds_of_wide 10 Try.f10 rfl rfl rfl rfl rfl rfl rfl ⟨rfl, rfl, rfl, rfl, rfl⟩ rfl rfl rfl rfl rfl (by kernel_rfl) Try.func10 (by kernel_rfl)
    (of_decide_eq_true (by kernel_rfl)) (by unfold Func.isWrapper; first | (rw [if_pos (by decide +kernel)]; kernel_rfl) | (rw [if_neg (by decide +kernel)]; exact ⟨rfl, rfl⟩))
    (fun os started H enc _ => law_lifted os started H enc 10 Try.f10 Rows.fnExactRootNumberSpec (by kernel_rfl) Try.func10
      (ChangeSpec.witness6 (enc := enc) (C := Try.checked) false ⟨#[], #[.float .f32 0], []⟩ 8 (by kernel_rfl) (by kernel_rfl) (by kernel_rfl) (by kernel_rfl))
      (by rw [Try.params10]; intro t ht; simp at ht; subst ht <;> exact ⟨by kernel_rfl, of_decide_eq_true (by kernel_rfl)⟩) rfl 4 (by kernel_rfl) Try.underlying4
      (by intro ds hds; rw [Try.params10] at hds; match ds, hds with | [_], _ => rfl)
      (by
        intro W base args ds ps hval hA hlt
        rw [Try.params10] at hA hval
        obtain ⟨v0, d0, rfl, rfl, h0⟩ := trodAll_one hA
        obtain ⟨a0, rfl, rfl, rfl, k0⟩ := open_float Try.underlying22 (hval 0 22 v0 rfl rfl) h0
        exact w_FnExactRootNumber (w := W) (wf32 k0)))

end Go.Proofs.Ytcfbpgfihmmnoaa
