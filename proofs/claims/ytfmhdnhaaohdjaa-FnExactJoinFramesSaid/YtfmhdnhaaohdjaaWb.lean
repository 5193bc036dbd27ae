/- Contracts: how many ticks, lists, and a list between its numbers, on both sides. Condition: the list is read. -/
import Derived.Test.YtfmhdnhaaohdjaaWa
import Derived.Test.YtfmhdnhaaohdjaaTr
import Derived.Test.YtfmhdnhaaohdjaaLo2
namespace Go.Proofs.Ytfmhdnhaaohdjaa
open Go.RowKit Ieee

def klen (n : Nat) : Bool := decide (1 ≤ n) && decide (n ≤ 64)
theorem klen_of {n : Nat} (h : klen n = true) : 1 ≤ n ∧ n ≤ 64 := by
  unfold klen at h; rw [Bool.and_eq_true] at h; exact ⟨of_decide_eq_true h.1, of_decide_eq_true h.2⟩
theorem klen_int (n : Nat) : inB (n : Int) 1 64 = klen n := by
  unfold inB klen
  congr 1 <;> exact decide_eq_decide.2 (by omega)

/-- A list between its numbers. -/
def fbetK (L : List (Option Nat)) (F : Option Nat) (K : Nat) : Option Nat :=
  if fzero32 F then L.getD K none else fop .add .f32 (L.getD K none) (fop .mul .f32 F (fop .sub .f32 (L.getD (K + 1) none) (L.getD K none)))
def fbet (L : List (Option Nat)) (T : Option Nat) : Option Nat :=
  if ge0 T && fle32 T (some (mk (L.length - 1))) then fbetK L (fop .sub .f32 T (some (mk (flo T)))) (flo T) else fz
theorem fbet_lo {L : List (Option Nat)} {T : Option Nat} (h : ge0 T = false) : fbet L T = fz := by unfold fbet; rw [h]; rfl
theorem fbet_hi {L : List (Option Nat)} {T : Option Nat} {a : Nat} (hl : L.length = a + 1) (h : fle32 T (some (mk a)) = false) : fbet L T = fz := by
  unfold fbet; rw [hl, Nat.add_sub_cancel, h, Bool.and_false]; rfl
theorem fbet_in {L : List (Option Nat)} {T : Option Nat} {a : Nat} (hl : L.length = a + 1) (h0 : ge0 T = true) (h : fle32 T (some (mk a)) = true) : fbet L T = fbetK L (fop .sub .f32 T (some (mk (flo T)))) (flo T) := by
  unfold fbet; rw [hl, Nat.add_sub_cancel, h, h0]; rfl
theorem fbetK_on {L : List (Option Nat)} {F : Option Nat} {K : Nat} (h : fzero32 F = true) : fbetK L F K = L.getD K none := by unfold fbetK; rw [h]; rfl
theorem fbetK_off {L : List (Option Nat)} {F : Option Nat} {K : Nat} (h : fzero32 F = false) : fbetK L F K = fop .add .f32 (L.getD K none) (fop .mul .f32 F (fop .sub .f32 (L.getD (K + 1) none) (L.getD K none))) := by unfold fbetK; rw [h]; rfl

end Go.Proofs.Ytfmhdnhaaohdjaa
