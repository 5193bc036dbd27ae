/- Contracts: lists of which each number is taken from elsewhere in a list, on both sides. Condition: the list is read. -/
import Derived.Test.YtkbkjkjjoogieaaWc
import Derived.Test.YtkbkjkjjoogieaaTn
namespace Go.Proofs.Ytkbkjkjjoogieaa
open Go.RowKit Ieee

/-- Where what is moved comes from, what is corrected, what is bent. -/
def fmove (L : List (Option Nat)) (P : Option Nat) (j : Nat) : Option Nat := fbet L (fop .sub .f32 (some (mk j)) P)
def fcorr (L : List (Option Nat)) (P V : Option Nat) (j : Nat) : Option Nat := fbet L (fsq2 (some (mk j)) (fop .quo .f32 P V))
def fbend (L : List (Option Nat)) (P V : Option Nat) (j : Nat) : Option Nat := fbet L (fstraight (some (mk j)) (fsqq P V))
theorem OwL.at1 {w : World} {g hi n : Nat} {L : List (Option Nat)} (h : OwL w g hi (some ⟨g, 0, none⟩) n L) : OwL w g (g + 1) (some ⟨g, 0, none⟩) n L := by
  refine ⟨h.len, ?_⟩
  rcases h.at_ with h0 | ⟨b, off, cs, hA, h1, h2, hrest⟩
  · exact .inl h0
  · have : g = b := by simp only [Option.some.injEq, Addr.mk.injEq] at hA; exact hA.1
    exact .inr ⟨b, off, cs, hA, h1, by omega, hrest⟩












end Go.Proofs.Ytkbkjkjjoogieaa
