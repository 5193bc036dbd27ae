/- Contracts: a number of a list or +0, lengths of filters, on both sides. Condition: the list is read. -/
import Derived.Test.YtceldjkgddbfaabFa
import Derived.Test.YtceldjkgddbfaabWc
import Derived.Test.YtceldjkgddbfaabLo2
namespace Go.Proofs.Ytceldjkgddbfaab
open Go.RowKit Ieee

set_option maxRecDepth 20000 in
set_option maxHeartbeats 400000 in
theorem c_l05Filter (n c : Nat) (A : Option Addr) (w : World) : Calls Try.prog 51 #[.slice A n c] w fun e w' => e = .returned (.bool (elen n)) ∧ w = w' := by
  by_cases h1 : n < 1
  · obtain rfl : n = 0 := by omega
    go_enter Try.func51, Try.ntmps51
    go_wp2_with (fail)
    go_ret
    exact ⟨rfl, rfl⟩
  by_cases h2 : 24 < n
  · rw [elen_hi h2]
    have i1 : (1 : Int) ≤ (n : Int) := by omega
    have i2 : ¬ (n : Int) ≤ 24 := by omega
    clear h1 h2
    go_enter Try.func51, Try.ntmps51
    go_wp2_with (fail)
    go_ret
    exact ⟨rfl, rfl⟩
  rw [elen_yes (by omega) (by omega)]
  have i1 : (1 : Int) ≤ (n : Int) := by omega
  have i2 : (n : Int) ≤ 24 := by omega
  clear h1 h2
  go_enter Try.func51, Try.ntmps51
  go_wp2_with (fail)
  go_ret
  exact ⟨rfl, rfl⟩
set_option maxRecDepth 20000 in
set_option maxHeartbeats 400000 in
theorem c_isFilterLength (i : Int) (w : World) : Calls Try.prog 53 #[.int .i64 i] w fun e w' => e = .returned (.bool (inB i 1 24)) ∧ w = w' := by
  by_cases h1 : i < 1
  · rw [inB_lo h1]
    have i1 : ¬ (1 : Int) ≤ i := by omega
    clear h1
    go_enter Try.func53, Try.ntmps53
    go_wp2_with (fail)
    go_ret
    exact ⟨rfl, rfl⟩
  by_cases h2 : 24 < i
  · rw [inB_hi h2]
    have i1 : (1 : Int) ≤ i := by omega
    have i2 : ¬ i ≤ 24 := by omega
    clear h1 h2
    go_enter Try.func53, Try.ntmps53
    go_wp2_with (fail)
    go_ret
    exact ⟨rfl, rfl⟩
  rw [inB_yes (by omega) (by omega)]
  have i1 : (1 : Int) ≤ i := by omega
  have i2 : i ≤ 24 := by omega
  clear h1 h2
  go_enter Try.func53, Try.ntmps53
  go_wp2_with (fail)
  go_ret
  exact ⟨rfl, rfl⟩
set_option maxRecDepth 20000 in
set_option maxHeartbeats 400000 in
theorem c_l05Near {x : Nat} {X : Option Nat} (h : Fl .f32 x X) (w : World) :
    Calls Try.prog 107 #[.float .f32 x] w fun e w' => e = .returned (.bool (fway X)) ∧ Dr w w' := by
  have hg := h.oge0
  cases hF : ffin .f32 X
  all_goals
    go_enter Try.func107, Try.ntmps107
    go_wp2_with (first | (go_at_call 128; refine Calls.mono (c_l01Finite h _) ?_; rw [hF]; rintro e w' ⟨rfl, n, rfl⟩))
    go_ret
    exact ⟨retb (by simp [fway, hF]), _, rfl⟩
end Go.Proofs.Ytceldjkgddbfaab
