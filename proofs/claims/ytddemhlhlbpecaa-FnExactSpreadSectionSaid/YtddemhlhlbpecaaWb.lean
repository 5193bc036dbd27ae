/- Contracts: how many ticks, lists, and a list between its numbers, on both sides. Condition: the list is read. -/
import Derived.Test.YtddemhlhlbpecaaWa
import Derived.Test.YtddemhlhlbpecaaTr
import Derived.Test.YtddemhlhlbpecaaLo2
namespace Go.Proofs.Ytddemhlhlbpecaa
open Go.RowKit Ieee

def klen (n : Nat) : Bool := decide (1 ≤ n) && decide (n ≤ 64)
theorem klen_of {n : Nat} (h : klen n = true) : 1 ≤ n ∧ n ≤ 64 := by
  unfold klen at h; rw [Bool.and_eq_true] at h; exact ⟨of_decide_eq_true h.1, of_decide_eq_true h.2⟩
theorem klen_int (n : Nat) : inB (n : Int) 1 64 = klen n := by
  unfold inB klen
  congr 1 <;> exact decide_eq_decide.2 (by omega)

set_option maxRecDepth 20000 in
set_option maxHeartbeats 400000 in
theorem c_isTicks (i : Int) (w : World) : Calls Try.prog 135 #[.int .i64 i] w fun e w' => e = .returned (.bool (inB i 1 64)) ∧ w = w' := by
  by_cases h1 : i < 1
  · rw [inB_lo h1]
    have i1 : ¬ (1 : Int) ≤ i := by omega
    clear h1
    go_enter Try.func135, Try.ntmps135
    go_wp2_with (fail)
    go_ret
    exact ⟨rfl, rfl⟩
  by_cases h2 : 64 < i
  · rw [inB_hi h2]
    have i1 : (1 : Int) ≤ i := by omega
    have i2 : ¬ i ≤ 64 := by omega
    clear h1 h2
    go_enter Try.func135, Try.ntmps135
    go_wp2_with (fail)
    go_ret
    exact ⟨rfl, rfl⟩
  rw [inB_yes (by omega) (by omega)]
  have i1 : (1 : Int) ≤ i := by omega
  have i2 : i ≤ 64 := by omega
  clear h1 h2
  go_enter Try.func135, Try.ntmps135
  go_wp2_with (fail)
  go_ret
  exact ⟨rfl, rfl⟩
set_option maxRecDepth 20000 in
set_option maxHeartbeats 400000 in
theorem c_l04Ticks (i : Int) (w : World) : Calls Try.prog 133 #[.int .i64 i] w fun e w' => e = .returned (.bool (inB i 1 64)) ∧ w = w' := by
  go_enter Try.func133, Try.ntmps133
  go_wp2_with (go_at_call 120; refine Calls.mono (c_l00In _ _ _ _) ?_; rintro e w1 ⟨rfl, rfl⟩)
  go_ret
  exact ⟨rfl, rfl⟩
theorem floor_form (x : Nat) : ∃ F : Bool → Nat → Sem Value, Extern.MathFloor.toIntegral "math.archFloor" .down #[.float .f64 x] = (match FloatKind.f64.decode x with | .nan s t => F s t | d => pure (.float .f64 (FloatKind.f64.encode (d.integral .down)))) := ⟨_, rfl⟩
theorem floor_eq (x : Nat) (h : ∃ s m i, FloatKind.f64.decode x = .number s m i) : Extern.MathFloor.toIntegral "math.archFloor" .down #[.float .f64 x] = pure (.float .f64 (floorw x)) := by
  obtain ⟨s, m, i, h⟩ := h
  obtain ⟨F, hF⟩ := floor_form x
  rw [hF, floorw, h]
theorem x_floor {x : Nat} (h : ∃ s m i, FloatKind.f64.decode x = .number s m i) (w : World) : (callFunc 143 #[.float .f64 x]).run Try.prog w = .ok (.value (.float .f64 (floorw x))) w := by
  rw [run_callFunc_extern Try.func143 (by kernel_rfl) (by kernel_rfl) (by kernel_rfl) (e := Extern.MathFloor.toIntegral "math.archFloor" .down) (by kernel_rfl)]
  rw [floor_eq x h]; rfl
set_option maxRecDepth 20000 in
set_option maxHeartbeats 400000 in
theorem c_Floor {x : Nat} (h : ∃ s m i, FloatKind.f64.decode x = .number s m i) (w : World) :
    Calls Try.prog 98 #[.float .f64 x] w fun e w' => e = .returned (.float .f64 (floorw x)) ∧ w = w' := by
  have hx := fun W => x_floor h W
  go_enter Try.func98, Try.ntmps98
  go_wp2
  go_ret
  exact ⟨rfl, rfl⟩
/-- A list between its numbers. -/
def fbetK (L : List (Option Nat)) (F : Option Nat) (K : Nat) : Option Nat :=
  if fzero32 F then L.getD K none else fop .add .f32 (L.getD K none) (fop .mul .f32 F (fop .sub .f32 (L.getD (K + 1) none) (L.getD K none)))
def fbet (L : List (Option Nat)) (T : Option Nat) : Option Nat :=
  if ge0 T && fle32 T (some (mk (L.length - 1))) then fbetK L (fop .sub .f32 T (some (mk (flo T)))) (flo T) else fz
theorem fbet_lo {L : List (Option Nat)} {T : Option Nat} (h : ge0 T = false) : fbet L T = fz := by unfold fbet; rw [h]; rfl
theorem fbet_hi {L : List (Option Nat)} {T : Option Nat} {a : Nat} (hl : L.length = a + 1) (h : fle32 T (some (mk a)) = false) : fbet L T = fz := by
  unfold fbet; rw [hl, Nat.add_sub_cancel, h, Bool.and_false]; rfl
theorem fbet_in {L : List (Option Nat)} {T : Option Nat} {a : Nat} (hl : L.length = a + 1) (h0 : ge0 T = true) (h : fle32 T (some (mk a)) = true) : fbet L T = fbetK L (fop .sub .f32 T (some (mk (flo T)))) (flo T) := by
  unfold fbet; rw [hl, Nat.add_sub_cancel, h, h0]; rfl
theorem fbetK_on {L : List (Option Nat)} {F : Option Nat} {K : Nat} (h : fzero32 F = true) : fbetK L F K = L.getD K none := by unfold fbetK; rw [h]; rfl
theorem fbetK_off {L : List (Option Nat)} {F : Option Nat} {K : Nat} (h : fzero32 F = false) : fbetK L F K = fop .add .f32 (L.getD K none) (fop .mul .f32 F (fop .sub .f32 (L.getD (K + 1) none) (L.getD K none))) := by unfold fbetK; rw [h]; rfl

end Go.Proofs.Ytddemhlhlbpecaa
