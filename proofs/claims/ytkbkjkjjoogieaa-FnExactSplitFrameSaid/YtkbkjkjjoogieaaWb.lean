/- Contracts: how many ticks, lists, and a list between its numbers, on both sides. Condition: the list is read. -/
import Derived.Test.YtkbkjkjjoogieaaWa
import Derived.Test.YtkbkjkjjoogieaaTr
import Derived.Test.YtkbkjkjjoogieaaLo2
namespace Go.Proofs.Ytkbkjkjjoogieaa
open Go.RowKit Ieee

def klen (n : Nat) : Bool := decide (1 ≤ n) && decide (n ≤ 64)
theorem klen_of {n : Nat} (h : klen n = true) : 1 ≤ n ∧ n ≤ 64 := by
  unfold klen at h; rw [Bool.and_eq_true] at h; exact ⟨of_decide_eq_true h.1, of_decide_eq_true h.2⟩
theorem klen_int (n : Nat) : inB (n : Int) 1 64 = klen n := by
  unfold inB klen
  congr 1 <;> exact decide_eq_decide.2 (by omega)

set_option maxRecDepth 20000 in
set_option maxHeartbeats 400000 in
theorem c_isTicks (i : Int) (w : World) : Calls Try.prog 123 #[.int .i64 i] w fun e w' => e = .returned (.bool (inB i 1 64)) ∧ w = w' := by
  by_cases h1 : i < 1
  · rw [inB_lo h1]
    have i1 : ¬ (1 : Int) ≤ i := by omega
    clear h1
    go_enter Try.func123, Try.ntmps123
    go_wp2_with (fail)
    go_ret
    exact ⟨rfl, rfl⟩
  by_cases h2 : 64 < i
  · rw [inB_hi h2]
    have i1 : (1 : Int) ≤ i := by omega
    have i2 : ¬ i ≤ 64 := by omega
    clear h1 h2
    go_enter Try.func123, Try.ntmps123
    go_wp2_with (fail)
    go_ret
    exact ⟨rfl, rfl⟩
  rw [inB_yes (by omega) (by omega)]
  have i1 : (1 : Int) ≤ i := by omega
  have i2 : i ≤ 64 := by omega
  clear h1 h2
  go_enter Try.func123, Try.ntmps123
  go_wp2_with (fail)
  go_ret
  exact ⟨rfl, rfl⟩
set_option maxRecDepth 20000 in
set_option maxHeartbeats 400000 in
theorem c_l04Ticks (i : Int) (w : World) : Calls Try.prog 120 #[.int .i64 i] w fun e w' => e = .returned (.bool (inB i 1 64)) ∧ w = w' := by
  go_enter Try.func120, Try.ntmps120
  go_wp2_with (go_at_call 80; refine Calls.mono (c_l00In _ _ _ _) ?_; rintro e w1 ⟨rfl, rfl⟩)
  go_ret
  exact ⟨rfl, rfl⟩
/-- A list between its numbers. -/
def fbetK (L : List (Option Nat)) (F : Option Nat) (K : Nat) : Option Nat :=
  if fzero32 F then L.getD K none else fop .add .f32 (L.getD K none) (fop .mul .f32 F (fop .sub .f32 (L.getD (K + 1) none) (L.getD K none)))
def fbet (L : List (Option Nat)) (T : Option Nat) : Option Nat :=
  if ge0 T && fle32 T (some (mk (L.length - 1))) then fbetK L (fop .sub .f32 T (some (mk (flo T)))) (flo T) else fz
theorem fbet_lo {L : List (Option Nat)} {T : Option Nat} (h : ge0 T = false) : fbet L T = fz := by unfold fbet; rw [h]; rfl
theorem fbet_hi {L : List (Option Nat)} {T : Option Nat} {a : Nat} (hl : L.length = a + 1) (h : fle32 T (some (mk a)) = false) : fbet L T = fz := by
  unfold fbet; rw [hl, Nat.add_sub_cancel, h, Bool.and_false]; rfl
theorem fbet_in {L : List (Option Nat)} {T : Option Nat} {a : Nat} (hl : L.length = a + 1) (h0 : ge0 T = true) (h : fle32 T (some (mk a)) = true) : fbet L T = fbetK L (fop .sub .f32 T (some (mk (flo T)))) (flo T) := by
  unfold fbet; rw [hl, Nat.add_sub_cancel, h, h0]; rfl
theorem fbetK_on {L : List (Option Nat)} {F : Option Nat} {K : Nat} (h : fzero32 F = true) : fbetK L F K = L.getD K none := by unfold fbetK; rw [h]; rfl
theorem fbetK_off {L : List (Option Nat)} {F : Option Nat} {K : Nat} (h : fzero32 F = false) : fbetK L F K = fop .add .f32 (L.getD K none) (fop .mul .f32 F (fop .sub .f32 (L.getD (K + 1) none) (L.getD K none))) := by unfold fbetK; rw [h]; rfl

end Go.Proofs.Ytkbkjkjjoogieaa
