/- The law FnExactFlushNumber: every call returns true and leaves the memory as it was, whatever the arguments. No condition. -/
import Derived.Test.YtcfbpgfihmmnoaaLaw
import Derived.Test.YtcfbpgfihmmnoaaC1
namespace Go.Proofs.Ytcfbpgfihmmnoaa
open Go.RowKit Ieee

set_option maxHeartbeats 400000 in
theorem w_FnExactFlushNumber (a : Nat) (ha : a < 4294967296) (w : World) :
    Calls Try.prog 9 #[.float .f32 a] w fun e w' => e = .returned (.bool true) ∧ Below w.heap.size w w' := by
  have fa := Fl.of32 ha
  go_enter Try.func9, Try.ntmps9
  go_wp2_with (first | (go_at_call 38; refine Calls.mono (c_spec_l01Flush fa _) ?_; rintro e w' ⟨r1, rfl, hr1, n1, rfl⟩) | (go_at_call 25; refine Calls.mono (c_impl_FlushNumber fa _) ?_; rintro e w' ⟨r2, rfl, hr2, n2, rfl⟩) | (apply upon_wide s_f32 Try.underlying29; (first | assumption | exact Fl.const (of_decide_eq_true (by kernel_rfl))); intro r n hr) | (go_at_call 19; refine Calls.mono (c_sameFloat (by assumption) (by assumption) _) ?_; rintro e w' ⟨rfl, n3, rfl⟩) | go_in)
  go_ret
  exact ⟨rfl, Dr.below ⟨_, rfl⟩⟩
open Go.ChangeShapes Go.WideShapes Go.ChangeAt Go.ChangeMaps in
theorem FnExactFlushNumber_holds : Rows.FnExactFlushNumberSaid :=
  OpenClaim.holds_of_wide 9 Try.f9 rfl rfl rfl rfl rfl rfl rfl ⟨rfl, rfl, rfl, rfl, rfl⟩ rfl rfl rfl rfl rfl (by kernel_rfl) Try.func9 (by kernel_rfl)
    (of_decide_eq_true (by kernel_rfl)) (by unfold Func.isWrapper; first | (rw [if_pos (by decide +kernel)]; kernel_rfl) | (rw [if_neg (by decide +kernel)]; exact ⟨rfl, rfl⟩))
    (fun os started H enc _ => law_lifted os started H enc 9 Try.f9 Rows.fnExactFlushNumberSpec (by kernel_rfl) Try.func9
      (ChangeSpec.witness6 (enc := enc) (C := Try.checked) false ⟨#[], #[.float .f32 0], []⟩ 8 (by kernel_rfl) (by kernel_rfl) (by kernel_rfl) (by kernel_rfl))
      (by rw [Try.params9]; intro t ht; simp at ht; subst ht <;> exact ⟨by kernel_rfl, of_decide_eq_true (by kernel_rfl)⟩) rfl 4 (by kernel_rfl) Try.underlying4
      (by intro ds hds; rw [Try.params9] at hds; match ds, hds with | [_], _ => rfl)
      (by
        intro W base args ds ps hval hA hlt
        rw [Try.params9] at hA hval
        obtain ⟨v0, d0, rfl, rfl, h0⟩ := trodAll_one hA
        obtain ⟨a0, rfl, rfl, rfl, k0⟩ := open_float Try.underlying22 (hval 0 22 v0 rfl rfl) h0
        exact w_FnExactFlushNumber a0 (wf32 k0) W))

end Go.Proofs.Ytcfbpgfihmmnoaa
