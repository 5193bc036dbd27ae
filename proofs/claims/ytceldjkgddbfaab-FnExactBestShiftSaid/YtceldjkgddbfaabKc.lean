/- Contracts: right sides of filters, on both sides. Condition: the lists are read. -/
import Derived.Test.YtceldjkgddbfaabKb
namespace Go.Proofs.Ytceldjkgddbfaab
open Go.RowKit Ieee

/-- The first i products of a right side. -/
def ftt (A F : List (Option Nat)) (k : Nat) : Nat → Option Nat
  | 0 => fz
  | i + 1 => fop .add .f32 (ftt A F k i) (fop .mul .f32 (A.getD (if i ≤ k then k - i else i - k) none) (F.getD i none))
theorem ftt_le {A F : List (Option Nat)} {k i d : Nat} (h : k = d + i ∨ i = d + k) : ftt A F k (i + 1) = fop .add .f32 (ftt A F k i) (fop .mul .f32 (A.getD d none) (F.getD i none)) := by
  rw [ftt]
  by_cases h1 : i ≤ k
  · rw [if_pos h1, show k - i = d by omega]
  · rw [if_neg h1, show i - k = d by omega]
/-- The right side of which k numbers are whole, and one of i products. -/
def ftk (A F : List (Option Nat)) (n k i j : Nat) : Option Nat := if j = k then ftt A F k i else fsetK (fun j => ftt A F j n) k j
theorem ftk_0 {A F : List (Option Nat)} {n k j : Nat} : fsetK (fun j => ftt A F j n) k j = ftk A F n k 0 j := by
  unfold ftk
  by_cases h : j = k
  · subst h; rw [if_pos rfl]; unfold fsetK; rw [if_neg (by omega)]; rfl
  · rw [if_neg h]
theorem ftk_at {A F : List (Option Nat)} {n k i : Nat} : ftk A F n k i k = ftt A F k i := by unfold ftk; rw [if_pos rfl]
theorem ftk_other {A F : List (Option Nat)} {n k i j : Nat} (h : j ≠ k) : ftk A F n k i j = ftk A F n k (i + 1) j := by unfold ftk; rw [if_neg h, if_neg h]
theorem ftk_all {A F : List (Option Nat)} {n k j : Nat} : ftk A F n k n j = fsetK (fun j => ftt A F j n) (k + 1) j := by
  unfold ftk
  by_cases h : j = k
  · subst h; rw [if_pos rfl, fsetK_at]
  · rw [if_neg h]; exact fsetK_other _ h
def okTt (n m : Nat) : Bool := elen n && same2 n m

end Go.Proofs.Ytceldjkgddbfaab
