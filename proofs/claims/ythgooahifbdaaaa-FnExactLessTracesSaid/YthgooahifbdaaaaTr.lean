/- Contracts: lengths of traces, numbers within limits, products. No condition. -/
import Derived.Test.YthgooahifbdaaaaTm
namespace Go.Proofs.Ythgooahifbdaaaa
open Go.RowKit Ieee

set_option maxRecDepth 20000 in
set_option maxHeartbeats 400000 in
theorem c_l03Is (n c : Nat) (A : Option Addr) (w : World) : Calls Try.prog 59 #[.slice A n c] w fun e w' => e = .returned (.bool (tlen n)) ∧ w = w' := by
  by_cases h1 : n < 1
  · obtain rfl : n = 0 := by omega
    go_enter Try.func59, Try.ntmps59
    go_wp2_with (fail)
    go_ret
    exact ⟨rfl, rfl⟩
  by_cases h2 : 128 < n
  · rw [tlen_hi h2]
    have i1 : (1 : Int) ≤ (n : Int) := by omega
    have i2 : ¬ (n : Int) ≤ 128 := by omega
    clear h1 h2
    go_enter Try.func59, Try.ntmps59
    go_wp2_with (fail)
    go_ret
    exact ⟨rfl, rfl⟩
  rw [tlen_yes (by omega) (by omega)]
  have i1 : (1 : Int) ≤ (n : Int) := by omega
  have i2 : (n : Int) ≤ 128 := by omega
  clear h1 h2
  go_enter Try.func59, Try.ntmps59
  go_wp2_with (fail)
  go_ret
  exact ⟨rfl, rfl⟩
set_option maxRecDepth 20000 in
set_option maxHeartbeats 400000 in
theorem c_isTraceLength (i : Int) (w : World) : Calls Try.prog 106 #[.int .i64 i] w fun e w' => e = .returned (.bool (inB i 1 128)) ∧ w = w' := by
  by_cases h1 : i < 1
  · rw [inB_lo h1]
    have i1 : ¬ (1 : Int) ≤ i := by omega
    clear h1
    go_enter Try.func106, Try.ntmps106
    go_wp2_with (fail)
    go_ret
    exact ⟨rfl, rfl⟩
  by_cases h2 : 128 < i
  · rw [inB_hi h2]
    have i1 : (1 : Int) ≤ i := by omega
    have i2 : ¬ i ≤ 128 := by omega
    clear h1 h2
    go_enter Try.func106, Try.ntmps106
    go_wp2_with (fail)
    go_ret
    exact ⟨rfl, rfl⟩
  rw [inB_yes (by omega) (by omega)]
  have i1 : (1 : Int) ≤ i := by omega
  have i2 : i ≤ 128 := by omega
  clear h1 h2
  go_enter Try.func106, Try.ntmps106
  go_wp2_with (fail)
  go_ret
  exact ⟨rfl, rfl⟩
set_option maxRecDepth 20000 in
set_option maxHeartbeats 400000 in
theorem c_l00In (i lo hi : Int) (w : World) : Calls Try.prog 65 #[.int .i64 i, .int .i64 lo, .int .i64 hi] w fun e w' => e = .returned (.bool (inB i lo hi)) ∧ w = w' := by
  by_cases h1 : i < lo
  · rw [inB_lo h1]
    have i1 : ¬ lo ≤ i := by omega
    clear h1
    go_enter Try.func65, Try.ntmps65
    go_wp2_with (fail)
    go_ret
    exact ⟨rfl, rfl⟩
  by_cases h2 : hi < i
  · rw [inB_hi h2]
    have i1 : lo ≤ i := by omega
    have i2 : ¬ i ≤ hi := by omega
    clear h1 h2
    go_enter Try.func65, Try.ntmps65
    go_wp2_with (fail)
    go_ret
    exact ⟨rfl, rfl⟩
  rw [inB_yes (by omega) (by omega)]
  have i1 : lo ≤ i := by omega
  have i2 : i ≤ hi := by omega
  clear h1 h2
  go_enter Try.func65, Try.ntmps65
  go_wp2_with (fail)
  go_ret
  exact ⟨rfl, rfl⟩
theorem tlen_int (n : Nat) : inB (n : Int) 1 128 = tlen n := by
  cases h : tlen n
  · rcases tlen_not h with h1 | h1
    · exact inB_lo (by omega)
    · exact inB_hi (by omega)
  · obtain ⟨h1, h2⟩ := tlen_of h
    exact inB_yes (by omega) (by omega)
set_option maxRecDepth 20000 in
set_option maxHeartbeats 400000 in
theorem c_IsTrace (n c : Nat) (A : Option Addr) (w : World) : Calls Try.prog 61 #[.slice A n c] w fun e w' => e = .returned (.bool (tlen n)) ∧ w = w' := by
  have h := tlen_int n
  have H := Lib.hid h
  clear h
  go_enter Try.func61, Try.ntmps61
  go_wp2_with (go_at_call 106; refine Calls.mono (c_isTraceLength _ _) ?_; rw [H.out]; rintro e w1 ⟨rfl, rfl⟩)
  go_ret
  exact ⟨rfl, rfl⟩
set_option maxRecDepth 20000 in
set_option maxHeartbeats 400000 in
theorem c_l03Two (n c n' c' : Nat) (A A' : Option Addr) (w : World) : Calls Try.prog 54 #[.slice A n c, .slice A' n' c'] w fun e w' => e = .returned (.bool (tlen n && same2 n n')) ∧ w = w' := by
  cases hV : tlen n
  · go_enter Try.func54, Try.ntmps54
    go_wp2_with (go_at_call 59; refine Calls.mono (c_l03Is _ _ _ _) ?_; rw [hV]; rintro e w1 ⟨rfl, rfl⟩)
    go_ret
    exact ⟨rfl, rfl⟩
  rw [Bool.true_and]
  by_cases h : n = n'
  · subst h
    rw [same2_yes rfl]
    have i1 : ((n : Int) == (n : Int)) = true := by simp
    go_enter Try.func54, Try.ntmps54
    go_wp2_with (go_at_call 59; refine Calls.mono (c_l03Is _ _ _ _) ?_; rw [hV]; rintro e w1 ⟨rfl, rfl⟩)
    go_ret
    exact ⟨rfl, rfl⟩
  · rw [same2_no h]
    have i1 : ((n : Int) == (n' : Int)) = false := by rw [beq_eq_false_iff_ne]; omega
    clear h
    go_enter Try.func54, Try.ntmps54
    go_wp2_with (go_at_call 59; refine Calls.mono (c_l03Is _ _ _ _) ?_; rw [hV]; rintro e w1 ⟨rfl, rfl⟩)
    go_ret
    exact ⟨rfl, rfl⟩
set_option maxRecDepth 20000 in
set_option maxHeartbeats 400000 in
theorem c_mulNumbers {x y : Nat} {X Y : Option Nat} (fx : Fl .f32 x X) (fy : Fl .f32 y Y) (w : World) :
    Calls Try.prog 102 #[.float .f32 x, .float .f32 y] w fun e w' => ∃ r, e = .returned (.float .f32 r) ∧ Fl .f32 r (fop .mul .f32 X Y) ∧ Dr w w' := by
  go_enter Try.func102, Try.ntmps102
  go_wp2_with ((apply upon_fop rfl; (first | assumption | exact Fl.const (of_decide_eq_true (by kernel_rfl))); (first | assumption | exact Fl.const (of_decide_eq_true (by kernel_rfl))); intro r n hr))
  go_ret
  exact ⟨_, rfl, by assumption, _, rfl⟩
end Go.Proofs.Ythgooahifbdaaaa
