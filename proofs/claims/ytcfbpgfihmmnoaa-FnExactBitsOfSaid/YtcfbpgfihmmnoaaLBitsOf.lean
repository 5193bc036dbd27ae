/- The law FnExactBitsOf: every call returns true and leaves the memory as it was, whatever the arguments. No condition. -/
import Derived.Test.YtcfbpgfihmmnoaaLaw
import Derived.Test.YtcfbpgfihmmnoaaC1
namespace Go.Proofs.Ytcfbpgfihmmnoaa
open Go.RowKit Ieee

set_option maxHeartbeats 400000 in
theorem w_FnExactBitsOf (a : Nat) (ha : a < 4294967296) (w : World) :
    Calls Try.prog 5 #[.float .f32 a] w fun e w' => e = .returned (.bool true) ∧ Below w.heap.size w w' := by
  have fa := Fl.of32 ha
  go_enter Try.func5, Try.ntmps5
  go_wp2_with (first | (go_at_call 31; refine Calls.mono (c_spec_l01Bits (by assumption) _) ?_; rintro e w' ⟨rfl, rfl⟩) | (go_at_call 16; refine Calls.mono (c_impl_BitsOf (by assumption) _) ?_; rintro e w' ⟨rfl, rfl⟩) | go_in)
  go_ret
  exact ⟨rfl, Below.refl _ _⟩
open Go.ChangeShapes Go.WideShapes Go.ChangeAt Go.ChangeMaps in
theorem FnExactBitsOf_holds : Rows.FnExactBitsOfSaid :=
  OpenClaim.holds_of_wide 5 Try.f5 rfl rfl rfl rfl rfl rfl rfl ⟨rfl, rfl, rfl, rfl, rfl⟩ rfl rfl rfl rfl rfl (by kernel_rfl) Try.func5 (by kernel_rfl)
    (of_decide_eq_true (by kernel_rfl)) (by unfold Func.isWrapper; first | (rw [if_pos (by decide +kernel)]; kernel_rfl) | (rw [if_neg (by decide +kernel)]; exact ⟨rfl, rfl⟩))
    (fun os started H enc _ => law_lifted os started H enc 5 Try.f5 Rows.fnExactBitsOfSpec (by kernel_rfl) Try.func5
      (ChangeSpec.witness6 (enc := enc) (C := Try.checked) false ⟨#[], #[.float .f32 0], []⟩ 8 (by kernel_rfl) (by kernel_rfl) (by kernel_rfl) (by kernel_rfl))
      (by rw [Try.params5]; intro t ht; simp at ht; subst ht <;> exact ⟨by kernel_rfl, of_decide_eq_true (by kernel_rfl)⟩) rfl 4 (by kernel_rfl) Try.underlying4
      (by intro ds hds; rw [Try.params5] at hds; match ds, hds with | [_], _ => rfl)
      (by
        intro W base args ds ps hval hA hlt
        rw [Try.params5] at hA hval
        obtain ⟨v0, d0, rfl, rfl, h0⟩ := trodAll_one hA
        obtain ⟨a0, rfl, rfl, rfl, k0⟩ := open_float Try.underlying22 (hval 0 22 v0 rfl rfl) h0
        exact w_FnExactBitsOf a0 (wf32 k0) W))

end Go.Proofs.Ytcfbpgfihmmnoaa
