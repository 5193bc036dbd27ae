/- The law FnExactPhasorOf: every call of the law returns true and leaves the memory that was there as it was, whatever the argument. No condition. -/
import Derived.Test.YthgmkipifolbfacPh3
import Derived.Test.YthgmkipifolbfacCy
import Derived.Test.YthgmkipifolbfacLaw
namespace Go.Proofs.Ythgmkipifolbfac
open Go.RowKit Ieee

set_option maxRecDepth 20000 in
set_option maxHeartbeats 800000 in
theorem w_FnExactPhasorOf {a : Nat} (ha : a < 18446744073709551616) {w : World} :
    Calls Try.prog 3 #[.float .f64 a] w fun e w' => e = .returned (.bool true) ∧ Below w.heap.size w w' := by
  have fa := Fl.of64 ha
  obtain ⟨R, I, hc⟩ := ph_case fa
  go_enter Try.func3, Try.ntmps3
  go_wp2_with (first | (go_at_call 81; refine Calls.mono (c_l01Phasor fa hc _) ?_; rintro e w' ⟨r1, i1, rfl, hr1, hi1, n1, rfl⟩) | (go_at_call 15; go_in) | (go_at_call 16; refine Calls.mono (c_impl_PhasorOf fa hc _) ?_; rintro e w' ⟨r2, i2, rfl, hr2, hi2, n2, rfl⟩) | (apply upon_cwide s_c64 Try.underlying26; (first | exact hr1 | exact hr2); (first | exact hi1 | exact hi2); intro r4 i4 n4 hr4 hi4) | (go_at_call 17; refine Calls.mono (c_sameComplex (by assumption) (by assumption) (by assumption) (by assumption) _) ?_; rintro e w' ⟨rfl, n3, rfl⟩))
  go_ret
  exact ⟨rfl, Dr.below ⟨_, rfl⟩⟩
set_option maxRecDepth 20000 in
open Go.ChangeShapes Go.WideShapes Go.ChangeAt Go.ChangeMaps in
theorem FnExactPhasorOf_holds : Rows.FnExactPhasorOfSaid :=
  OpenClaim.holds_of_wide 3 Try.f3 rfl rfl rfl rfl rfl rfl rfl ⟨rfl, rfl, rfl, rfl, rfl⟩ rfl rfl rfl rfl rfl (by kernel_rfl) Try.func3 (by kernel_rfl)
    (of_decide_eq_true (by kernel_rfl)) (by unfold Func.isWrapper; first | (rw [if_pos (by decide +kernel)]; kernel_rfl) | (rw [if_neg (by decide +kernel)]; exact ⟨rfl, rfl⟩))
    (fun os started H enc _ => law_lifted os started H enc 3 Try.f3 Rows.fnExactPhasorOfSpec (by kernel_rfl) Try.func3
      (ChangeSpec.witness6 (enc := enc) (C := Try.checked) false ⟨#[], #[.float .f64 0], []⟩ 8 (by kernel_rfl) (by kernel_rfl) (by kernel_rfl) (by kernel_rfl))
      (by rw [Try.params3]; intro t ht; simp at ht; subst ht <;> exact ⟨by kernel_rfl, of_decide_eq_true (by kernel_rfl)⟩) rfl 4 (by kernel_rfl) Try.underlying4
      (by intro ds hds; rw [Try.params3] at hds; match ds, hds with | [_], _ => rfl)
      (by
        intro W base args ds ps hval hA hlt
        rw [Try.params3] at hA hval
        obtain ⟨v0, d0, rfl, rfl, h0⟩ := trodAll_one hA
        obtain ⟨a0, rfl, rfl, rfl, k0⟩ := open_float Try.underlying22 (hval 0 22 v0 rfl rfl) h0
        exact w_FnExactPhasorOf (w := W) (wf64 k0)))

end Go.Proofs.Ythgmkipifolbfac
