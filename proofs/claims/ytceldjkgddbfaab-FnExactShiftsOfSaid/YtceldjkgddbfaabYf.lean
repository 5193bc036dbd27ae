/- Contracts: sums of all traces at a tick, and their means, on both sides. Condition: the gather is read. -/
import Derived.Test.YtceldjkgddbfaabYe
import Derived.Test.YtceldjkgddbfaabWc
namespace Go.Proofs.Ytceldjkgddbfaab
open Go.RowKit Ieee

/-- The sum of a column, and how many of its numbers are not zero. -/
def fcs (R : List (List (Option Nat))) (k : Nat) : Nat → Option Nat
  | 0 => fz
  | i + 1 => fop .add .f32 (fcs R k i) ((R.getD i []).getD k none)
def nlive (R : List (List (Option Nat))) (k : Nat) : Nat → Nat
  | 0 => 0
  | i + 1 => nlive R k i + (if fzero32 ((R.getD i []).getD k none) then 0 else 1)
theorem nlive_on {R : List (List (Option Nat))} {k i : Nat} (h : fzero32 ((R.getD i []).getD k none) = true) : nlive R k (i + 1) = nlive R k i := by
  show nlive R k i + (if fzero32 ((R.getD i []).getD k none) then 0 else 1) = _; rw [h]; rfl
theorem nlive_off {R : List (List (Option Nat))} {k i : Nat} (h : fzero32 ((R.getD i []).getD k none) = false) : nlive R k (i + 1) = nlive R k i + 1 := by
  show nlive R k i + (if fzero32 ((R.getD i []).getD k none) then 0 else 1) = _; rw [h]; rfl
theorem nlive_le (R : List (List (Option Nat))) (k : Nat) : ∀ i, nlive R k i ≤ i
  | 0 => Nat.le_refl _
  | i + 1 => by
    have := nlive_le R k i
    show nlive R k i + (if fzero32 ((R.getD i []).getD k none) then 0 else 1) ≤ i + 1
    split <;> omega
def fstack (R : List (List (Option Nat))) (n k : Nat) : Option Nat := fop .quo .f32 (fcs R k n) (some (mk n))
def fmean0 (S : Option Nat) (l : Nat) : Option Nat := if l = 0 then fz else fop .quo .f32 S (some (mk l))
def flive (R : List (List (Option Nat))) (n k : Nat) : Option Nat := fmean0 (fcs R k n) (nlive R k n)
theorem fmean0_z {S : Option Nat} {l : Nat} (h : l = 0) : fmean0 S l = fz := if_pos h
theorem fmean0_p {S : Option Nat} {l : Nat} (h : ¬ l = 0) : fmean0 S l = fop .quo .f32 S (some (mk l)) := if_neg h
/-- != 0 of a float. -/
theorem nzero32 (b : Nat) : (FloatKind.f32.format.order b 0 != some .eq) = !fzero32 (fl .f32 b) := by
  rw [← zero32]; rfl

theorem grown_extB {w W1 w1 w' : World} {o : Obj} {v : Value} {n : Nat} {e : TypeId} {xs : List Value} (hW : W1 = w.alloc o) (hx : Ext W1 w1) (hown : w1.ownsRow (w.heap.size + 1) e 1 v n xs) (hg : w1.grownBy w' v.ownBlock) : Ext W1 w' := by
  have hs : W1.heap.size = w.heap.size + 1 := by rw [hW]; simp
  exact Below.grown hx hg hx.size (fun k hk => by rw [hs]; exact (hown.lt k hk).1)








end Go.Proofs.Ytceldjkgddbfaab
