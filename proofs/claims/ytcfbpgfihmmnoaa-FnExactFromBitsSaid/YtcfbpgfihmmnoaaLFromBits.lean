/- The law FnExactFromBits: every call returns true and leaves the memory as it was, whatever the arguments. No condition. -/
import Derived.Test.YtcfbpgfihmmnoaaLaw
import Derived.Test.YtcfbpgfihmmnoaaC1
namespace Go.Proofs.Ytcfbpgfihmmnoaa
open Go.RowKit Ieee

set_option maxHeartbeats 400000 in
theorem w_FnExactFromBits (n : Int) (h1 : -9223372036854775808 ≤ n) (h2 : n ≤ 9223372036854775807) (w : World) :
    Calls Try.prog 6 #[.int .i64 n] w fun e w' => e = .returned (.bool true) ∧ Below w.heap.size w w' := by
  by_cases h : 0 ≤ n ∧ n ≤ 4294967295
  · obtain ⟨ha, hb⟩ := h
    obtain ⟨k, rfl⟩ := Int.eq_ofNat_of_zero_le ha
    have fa := Fl.of32 (r := k) (by omega)
    have hk : IntKind.u32.wrap (k : Int) = k := IntWalk.u32_in _ (by omega)
    have hn1 : ¬ ((k : Int) < 0) := by omega
    have hn2 : ¬ (4294967295 < (k : Int)) := by omega
    go_enter Try.func6, Try.ntmps6
    go_wp2_with (first | (apply upon_wide s_f32 Try.underlying29; (first | assumption | exact Fl.const (of_decide_eq_true (by kernel_rfl))); intro r n hr) | (go_at_call 19; refine Calls.mono (c_sameFloat (by assumption) (by assumption) _) ?_; rintro e w' ⟨rfl, n3, rfl⟩) | go_in)
    go_ret
    exact ⟨rfl, Dr.below ⟨_, rfl⟩⟩
  · have hlt : n < 0 ∨ 4294967295 < n := by omega
    rcases hlt with hlt | hlt
    · go_enter Try.func6, Try.ntmps6
      go_wp2_with (first | (apply upon_wide s_f32 Try.underlying29; (first | assumption | exact Fl.const (of_decide_eq_true (by kernel_rfl))); intro r n hr) | (go_at_call 19; refine Calls.mono (c_sameFloat (by assumption) (by assumption) _) ?_; rintro e w' ⟨rfl, n3, rfl⟩) | go_in)
      go_ret
      exact ⟨rfl, Dr.below ⟨_, rfl⟩⟩
    · have hge : ¬ n < 0 := by omega
      have hd : decide (n ≤ 4294967295) = false := by simp; omega
      go_enter Try.func6, Try.ntmps6
      go_wp2_with (first | (apply upon_wide s_f32 Try.underlying29; (first | assumption | exact Fl.const (of_decide_eq_true (by kernel_rfl))); intro r n hr) | (go_at_call 19; refine Calls.mono (c_sameFloat (by assumption) (by assumption) _) ?_; rintro e w' ⟨rfl, n3, rfl⟩) | go_in)
      go_ret
      exact ⟨rfl, Dr.below ⟨_, rfl⟩⟩
open Go.ChangeShapes Go.WideShapes Go.ChangeAt Go.ChangeMaps in
theorem FnExactFromBits_holds : Rows.FnExactFromBitsSaid :=
  OpenClaim.holds_of_wide 6 Try.f6 rfl rfl rfl rfl rfl rfl rfl ⟨rfl, rfl, rfl, rfl, rfl⟩ rfl rfl rfl rfl rfl (by kernel_rfl) Try.func6 (by kernel_rfl)
    (of_decide_eq_true (by kernel_rfl)) (by unfold Func.isWrapper; first | (rw [if_pos (by decide +kernel)]; kernel_rfl) | (rw [if_neg (by decide +kernel)]; exact ⟨rfl, rfl⟩))
    (fun os started H enc _ => law_lifted os started H enc 6 Try.f6 Rows.fnExactFromBitsSpec (by kernel_rfl) Try.func6
      (ChangeSpec.witness6 (enc := enc) (C := Try.checked) false ⟨#[], #[.int .i64 0], []⟩ 8 (by kernel_rfl) (by kernel_rfl) (by kernel_rfl) (by kernel_rfl))
      (by rw [Try.params6]; intro t ht; simp at ht; subst ht <;> exact ⟨by kernel_rfl, of_decide_eq_true (by kernel_rfl)⟩) rfl 4 (by kernel_rfl) Try.underlying4
      (by intro ds hds; rw [Try.params6] at hds; match ds, hds with | [_], _ => rfl)
      (by
        intro W base args ds ps hval hA hlt
        rw [Try.params6] at hA hval
        obtain ⟨v0, d0, rfl, rfl, h0⟩ := trodAll_one hA
        obtain ⟨a0, rfl, rfl, rfl, k0⟩ := open_int Try.underlying2 (hval 0 2 v0 rfl rfl) h0
        exact w_FnExactFromBits a0 (wfi64 k0).1 (wfi64 k0).2 W))

end Go.Proofs.Ytcfbpgfihmmnoaa
