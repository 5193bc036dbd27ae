/- The law FnExactSumNumbers: every call of the law returns true and leaves the memory that was there as it was, whatever the arguments. No condition. -/
import Derived.Test.YtcfbpgfihmmnoacOpen
import Derived.Test.YtcfbpgfihmmnoacC2
namespace Go.Proofs.Ytcfbpgfihmmnoac
open Go.RowKit Ieee

set_option maxHeartbeats 2000000 in
theorem w_FnExactSumNumbers {v : Value} {w : World} (o : ∃ A n c L, v = .slice A n c ∧ n ≤ maxLen ∧ RdF w w.heap.size A n L) :
    Calls Try.prog 3 #[v] w fun e w' => e = .returned (.bool true) ∧ Below w.heap.size w w' := by
  obtain ⟨A, n, c, L, rfl, hm, h⟩ := o
  unfold maxLen at hm
  by_cases hn : n ≤ 1048576
  · go_enter Try.func3, Try.ntmps3
    go_wp2_with (fail)
    refine (c_toFloat32S h (Nat.le_refl _) hn).mono ?_
    rintro e w1 ⟨rfl, h1, hb1, hs1⟩
    by_cases hf : n ≤ 256
    · have hf' : (n : Int) ≤ 256 := by omega
      go_wp2_with (first | (go_at_call 28; refine (c_l01Sum h1 (by omega)).mono ?_; rintro e w' ⟨r1, rfl, hr1, m1, rfl⟩) | (go_at_call 7; go_in) | (go_at_call 27; go_in))
      refine (c_toFloat32S ((h.below hb1).drewN m1) (Nat.le_of_lt hs1) hn).mono ?_
      rintro e w2 ⟨rfl, h2, hb2, hs2⟩
      go_wp2_with (first | (go_at_call 29; refine (c_sumList h2 hf).mono ?_; rintro e w' ⟨r2, rfl, hr2, m2, rfl⟩) | (go_at_call 9; go_in) | (apply upon_wide s_f32 Try.underlying28; (first | assumption | exact Fl.const (of_decide_eq_true (by kernel_rfl))); intro r n hr) | (go_at_call 10; refine Calls.mono (c_sameFloat (by assumption) (by assumption) _) ?_; rintro e w' ⟨rfl, n3, rfl⟩))
      have hb12 : Below w.heap.size w w2 := (below_drewN hb1 m1).trans (hb2.mono (Nat.le_of_lt hs1))
      refine (c_toFloat32S ((h.below hb12).drewN _) hb12.size hn).mono ?_
      rintro e w3 ⟨rfl, h3, hb3, hs3⟩
      go_wp2_with (go_at_call 11; refine (c_eqFloat32S ((h2.drewN _).below (hb3.mono hs2)) h3 hn).mono ?_; rintro e w' ⟨rfl, n4, rfl⟩)
      go_ret
      exact ⟨rfl, below_drewN ((below_drewN hb12 _).trans (hb3.mono hb12.size)) _⟩
    · have hf' : (256 : Int) < n := by omega
      have hd : decide ((n : Int) ≤ 256) = false := by simp; omega
      have f0 : Fl .f32 0 (some 0) := ⟨fl32_zero, by decide⟩
      go_wp2_with (first | (go_at_call 7; go_in) | (go_at_call 27; go_in))
      refine (c_toFloat32S (h.below hb1) (Nat.le_of_lt hs1) hn).mono ?_
      rintro e w2 ⟨rfl, h2, hb2, hs2⟩
      go_wp2_with (first | (go_at_call 29; refine (c_sumList_no (by omega)).mono ?_; rintro e w' ⟨rfl, rfl⟩) | (go_at_call 9; go_in) | (apply upon_wide s_f32 Try.underlying28; (first | assumption | exact Fl.const (of_decide_eq_true (by kernel_rfl))); intro r n hr) | (go_at_call 10; refine Calls.mono (c_sameFloat (by assumption) (by assumption) _) ?_; rintro e w' ⟨rfl, n3, rfl⟩))
      have hb12 : Below w.heap.size w w2 := hb1.trans (hb2.mono (Nat.le_of_lt hs1))
      refine (c_toFloat32S ((h.below hb12).drewN _) hb12.size hn).mono ?_
      rintro e w3 ⟨rfl, h3, hb3, hs3⟩
      go_wp2_with (go_at_call 11; refine (c_eqFloat32S ((h2.drewN _).below (hb3.mono hs2)) h3 hn).mono ?_; rintro e w' ⟨rfl, n4, rfl⟩)
      go_ret
      exact ⟨rfl, below_drewN ((below_drewN hb12 _).trans (hb3.mono hb12.size)) _⟩
  · have hn' : (1048576 : Int) < n := by omega
    go_enter Try.func3, Try.ntmps3
    go_wp2
    go_ret
    exact ⟨rfl, Below.refl _ _⟩
open Go.ChangeShapes Go.WideShapes Go.ChangeAt Go.ChangeMaps in
theorem FnExactSumNumbers_holds : Rows.FnExactSumNumbersSaid :=
  OpenClaim.holds_of_wide 3 Try.f3 rfl rfl rfl rfl rfl rfl rfl ⟨rfl, rfl, rfl, rfl, rfl⟩ rfl rfl rfl rfl rfl (by kernel_rfl) Try.func3 (by kernel_rfl)
    (of_decide_eq_true (by kernel_rfl)) (by unfold Func.isWrapper; first | (rw [if_pos (by decide +kernel)]; kernel_rfl) | (rw [if_neg (by decide +kernel)]; exact ⟨rfl, rfl⟩))
    (fun os started H enc _ => law_lifted os started H enc 3 Try.f3 Rows.fnExactSumNumbersSpec (by kernel_rfl) Try.func3
      (ChangeSpec.witness6 (enc := enc) (C := Try.checked) false ⟨#[], #[.slice none 0 0], []⟩ 8 (by kernel_rfl) (by kernel_rfl) (by kernel_rfl) (by kernel_rfl))
      (by rw [Try.params3]; intro t ht; simp at ht; subst ht <;> exact ⟨by kernel_rfl, of_decide_eq_true (by kernel_rfl)⟩) rfl 4 (by kernel_rfl) Try.underlying4
      (by intro ds hds; rw [Try.params3] at hds; match ds, hds with | [_], _ => rfl)
      (by
        intro W base args ds ps hval hA hlt
        rw [Try.params3] at hA hval
        obtain ⟨v0, d0, rfl, rfl, h0⟩ := trodAll_one hA
        have o0 := open_floats Try.underlying22 Try.underlying23 cells_f32 (hval 0 22 v0 rfl rfl) h0 (fun x hx => hlt x (by simp [hx]))
        exact w_FnExactSumNumbers (w := W) o0))

end Go.Proofs.Ytcfbpgfihmmnoac
