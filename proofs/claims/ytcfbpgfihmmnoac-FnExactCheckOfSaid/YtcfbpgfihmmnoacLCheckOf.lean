/- The law FnExactCheckOf: every call of the law returns true and leaves the memory that was there as it was, whatever the arguments. No condition. -/
import Derived.Test.YtcfbpgfihmmnoacStr
namespace Go.Proofs.Ytcfbpgfihmmnoac
open Go.RowKit

set_option maxHeartbeats 800000 in
theorem w_FnExactCheckOf {n : Int} (h1 : -9223372036854775808 ≤ n) (h2 : n ≤ 9223372036854775807) {s : ByteArray} (_hs : s.size ≤ maxLen) {w : World} :
    Calls Try.prog 6 #[.int .i64 n, .string s] w fun e w' => e = .returned (.bool true) ∧ Below w.heap.size w w' := by
  by_cases hn : s.size ≤ 1048576
  · by_cases h : 0 ≤ n ∧ n ≤ 65002
    · obtain ⟨ha, hb⟩ := h
      obtain ⟨k, rfl⟩ := Int.eq_ofNat_of_zero_le ha
      have hk : k < 65003 := by omega
      have hn1 : ¬ ((k : Int) < 0) := by omega
      have hd : decide ((k : Int) ≤ 65002) = true := by simp; omega
      go_enter Try.func6, Try.ntmps6
      go_wp2_with (first | (go_at_call 46; refine (c_l01Check _ k hk s hn).mono ?_; rintro e w' ⟨rfl, rfl⟩) | (go_at_call 26; refine (c_impl_CheckOf _ k hk s hn).mono ?_; rintro e w' ⟨rfl, hb2⟩) | go_in)
      go_ret
      exact ⟨rfl, hb2⟩
    · rcases (show n < 0 ∨ 65002 < n by omega) with hlt | hlt
      · go_enter Try.func6, Try.ntmps6
        go_wp2
        go_ret
        exact ⟨rfl, Below.refl _ _⟩
      · have hge : ¬ n < 0 := by omega
        have hd : decide (n ≤ 65002) = false := by simp; omega
        have hd2 : decide (65003 ≤ n) = true := by simp; omega
        go_enter Try.func6, Try.ntmps6
        go_wp2
        go_ret
        exact ⟨rfl, Below.refl _ _⟩
  · have hn' : (1048576 : Int) < s.size := by omega
    go_enter Try.func6, Try.ntmps6
    go_wp2
    go_ret
    exact ⟨rfl, Below.refl _ _⟩
open Go.ChangeShapes Go.WideShapes Go.ChangeAt Go.ChangeMaps in
theorem FnExactCheckOf_holds : Rows.FnExactCheckOfSaid :=
  OpenClaim.holds_of_wide 6 Try.f6 rfl rfl rfl rfl rfl rfl rfl ⟨rfl, rfl, rfl, rfl, rfl⟩ rfl rfl rfl rfl rfl (by kernel_rfl) Try.func6 (by kernel_rfl)
    (of_decide_eq_true (by kernel_rfl)) (by unfold Func.isWrapper; first | (rw [if_pos (by decide +kernel)]; kernel_rfl) | (rw [if_neg (by decide +kernel)]; exact ⟨rfl, rfl⟩))
    (fun os started H enc _ => law_lifted os started H enc 6 Try.f6 Rows.fnExactCheckOfSpec (by kernel_rfl) Try.func6
      (ChangeSpec.witness6 (enc := enc) (C := Try.checked) false ⟨#[], #[.int .i64 0, .string ⟨#[]⟩], []⟩ 8 (by kernel_rfl) (by kernel_rfl) (by kernel_rfl) (by kernel_rfl))
      (by rw [Try.params6]; intro t ht; simp at ht; rcases ht with rfl | rfl <;> exact ⟨by kernel_rfl, of_decide_eq_true (by kernel_rfl)⟩) rfl 4 (by kernel_rfl) Try.underlying4
      (by intro ds hds; rw [Try.params6] at hds; match ds, hds with | [_, _], _ => rfl)
      (by
        intro W base args ds ps hval hA hlt
        rw [Try.params6] at hA hval
        obtain ⟨v0, v1, d0, d1, p0, p1, rfl, rfl, rfl, h0, h1⟩ := trodAll_two hA
        obtain ⟨a0, rfl, rfl, rfl, k0⟩ := open_int Try.underlying2 (hval 0 2 v0 rfl rfl) h0
        obtain ⟨a1, rfl, rfl, rfl, k1⟩ := open_string Try.underlying9 (hval 1 9 v1 rfl rfl) h1
        exact w_FnExactCheckOf (w := W) (wfi64 k0).1 (wfi64 k0).2 k1))

end Go.Proofs.Ytcfbpgfihmmnoac
