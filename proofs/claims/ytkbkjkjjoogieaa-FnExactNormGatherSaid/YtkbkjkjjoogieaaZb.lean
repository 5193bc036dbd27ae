/- Contracts: all traces of a gather become others, the reference. Condition: the gather is valid. -/
import Derived.Test.YtkbkjkjjoogieaaZa
import Derived.Test.YtkbkjkjjoogieaaWd
import Derived.Test.YtkbkjkjjoogieaaYd
namespace Go.Proofs.Ytkbkjkjjoogieaa
open Go.RowKit Ieee

theorem OwF.new {w : World} {base n : Nat} {v : Value} {F : Nat → Option Nat} (h : OwF w base v n F) (hn : 0 < n) : ∃ b c, v = .slice (some ⟨b, 0, none⟩) n c ∧ n ≤ c ∧ base ≤ b ∧ b < w.heap.size ∧ OwL w b (b + 1) (some ⟨b, 0, none⟩) n (lst F n) := by
  obtain ⟨xs, ho, hx⟩ := h.own
  obtain ⟨hlen, hd⟩ := ho
  rcases hd with ⟨hv, rfl⟩ | ⟨g, cap, cur, hv, hb, hg, hnc, _, hcs, htk⟩
  · omega
  · refine ⟨g, cap, hv, hnc, hb, blk_lt hg, lst_len _ _, .inr ⟨g, 0, cur, rfl, Nat.le_refl _, Nat.lt_succ_self _, hg, by omega, fun j hj => ?_⟩⟩
    obtain ⟨r, h1, h2⟩ := hx j hj
    refine ⟨r, ?_, by rw [lst_at hj]; exact h2⟩
    rw [← htk, List.getElem?_take_of_lt (by omega)] at h1
    rw [Nat.zero_add]
    simpa using h1
/-- All traces of a gather become others. -/
def allF (q : List (Option Nat) → Option Nat → Option Nat → Nat → Option Nat) (V : Option Nat) (G : Gat) (j : Nat) : List (Option Nat) := lst (q (G.r.getD j []) (G.p.getD j none) V) (G.r.getD j []).length
def allG (q : List (Option Nat) → Option Nat → Option Nat → Nat → Option Nat) (V : Option Nat) (G : Gat) : Gat := ⟨G.t, G.p, lstS (allF q V G) G.r.length⟩
end Go.Proofs.Ytkbkjkjjoogieaa
