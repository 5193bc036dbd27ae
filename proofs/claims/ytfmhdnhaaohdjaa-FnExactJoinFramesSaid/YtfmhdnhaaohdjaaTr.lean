/- Contracts: lengths of traces, numbers within limits, products. No condition. -/
import Derived.Test.YtfmhdnhaaohdjaaTm
namespace Go.Proofs.Ytfmhdnhaaohdjaa
open Go.RowKit Ieee

set_option maxRecDepth 20000 in
set_option maxHeartbeats 400000 in
theorem c_l03Is (n c : Nat) (A : Option Addr) (w : World) : Calls Try.prog 87 #[.slice A n c] w fun e w' => e = .returned (.bool (tlen n)) ∧ w = w' := by
  by_cases h1 : n < 1
  · obtain rfl : n = 0 := by omega
    go_enter Try.func87, Try.ntmps87
    go_wp2_with (fail)
    go_ret
    exact ⟨rfl, rfl⟩
  by_cases h2 : 128 < n
  · rw [tlen_hi h2]
    have i1 : (1 : Int) ≤ (n : Int) := by omega
    have i2 : ¬ (n : Int) ≤ 128 := by omega
    clear h1 h2
    go_enter Try.func87, Try.ntmps87
    go_wp2_with (fail)
    go_ret
    exact ⟨rfl, rfl⟩
  rw [tlen_yes (by omega) (by omega)]
  have i1 : (1 : Int) ≤ (n : Int) := by omega
  have i2 : (n : Int) ≤ 128 := by omega
  clear h1 h2
  go_enter Try.func87, Try.ntmps87
  go_wp2_with (fail)
  go_ret
  exact ⟨rfl, rfl⟩
set_option maxRecDepth 20000 in
set_option maxHeartbeats 400000 in
theorem c_isTraceLength (i : Int) (w : World) : Calls Try.prog 94 #[.int .i64 i] w fun e w' => e = .returned (.bool (inB i 1 128)) ∧ w = w' := by
  by_cases h1 : i < 1
  · rw [inB_lo h1]
    have i1 : ¬ (1 : Int) ≤ i := by omega
    clear h1
    go_enter Try.func94, Try.ntmps94
    go_wp2_with (fail)
    go_ret
    exact ⟨rfl, rfl⟩
  by_cases h2 : 128 < i
  · rw [inB_hi h2]
    have i1 : (1 : Int) ≤ i := by omega
    have i2 : ¬ i ≤ 128 := by omega
    clear h1 h2
    go_enter Try.func94, Try.ntmps94
    go_wp2_with (fail)
    go_ret
    exact ⟨rfl, rfl⟩
  rw [inB_yes (by omega) (by omega)]
  have i1 : (1 : Int) ≤ i := by omega
  have i2 : i ≤ 128 := by omega
  clear h1 h2
  go_enter Try.func94, Try.ntmps94
  go_wp2_with (fail)
  go_ret
  exact ⟨rfl, rfl⟩
set_option maxRecDepth 20000 in
set_option maxHeartbeats 400000 in
theorem c_l00In (i lo hi : Int) (w : World) : Calls Try.prog 70 #[.int .i64 i, .int .i64 lo, .int .i64 hi] w fun e w' => e = .returned (.bool (inB i lo hi)) ∧ w = w' := by
  by_cases h1 : i < lo
  · rw [inB_lo h1]
    have i1 : ¬ lo ≤ i := by omega
    clear h1
    go_enter Try.func70, Try.ntmps70
    go_wp2_with (fail)
    go_ret
    exact ⟨rfl, rfl⟩
  by_cases h2 : hi < i
  · rw [inB_hi h2]
    have i1 : lo ≤ i := by omega
    have i2 : ¬ i ≤ hi := by omega
    clear h1 h2
    go_enter Try.func70, Try.ntmps70
    go_wp2_with (fail)
    go_ret
    exact ⟨rfl, rfl⟩
  rw [inB_yes (by omega) (by omega)]
  have i1 : lo ≤ i := by omega
  have i2 : i ≤ hi := by omega
  clear h1 h2
  go_enter Try.func70, Try.ntmps70
  go_wp2_with (fail)
  go_ret
  exact ⟨rfl, rfl⟩
theorem tlen_int (n : Nat) : inB (n : Int) 1 128 = tlen n := by
  cases h : tlen n
  · rcases tlen_not h with h1 | h1
    · exact inB_lo (by omega)
    · exact inB_hi (by omega)
  · obtain ⟨h1, h2⟩ := tlen_of h
    exact inB_yes (by omega) (by omega)
set_option maxRecDepth 20000 in
set_option maxHeartbeats 400000 in
theorem c_IsTrace (n c : Nat) (A : Option Addr) (w : World) : Calls Try.prog 88 #[.slice A n c] w fun e w' => e = .returned (.bool (tlen n)) ∧ w = w' := by
  have h := tlen_int n
  have H := Lib.hid h
  clear h
  go_enter Try.func88, Try.ntmps88
  go_wp2_with (go_at_call 94; refine Calls.mono (c_isTraceLength _ _) ?_; rw [H.out]; rintro e w1 ⟨rfl, rfl⟩)
  go_ret
  exact ⟨rfl, rfl⟩
end Go.Proofs.Ytfmhdnhaaohdjaa
