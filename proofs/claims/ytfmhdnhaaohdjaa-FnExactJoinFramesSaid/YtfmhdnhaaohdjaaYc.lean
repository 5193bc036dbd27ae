/- Gathers of a call's own, marked and held. Condition: the gather is a call's own. -/
import Derived.Test.YtfmhdnhaaohdjaaYb
import Derived.Deep.RegionHeld3
namespace Go.Proofs.Ytfmhdnhaaohdjaa
open Go.RowKit Go.Deep Ieee

theorem Kb.wide {lo hi lo' hi' : Nat} {w w' : World} (h : Kb lo hi w w') (h1 : lo' ≤ lo) (h2 : hi ≤ hi') : Kb lo' hi' w w' := ⟨h.below.mono h1, fun k hk hs => h.above k (by omega) hs⟩
def mixS (k0 : Nat) (R : List (List (Option Nat))) (k j : Nat) : List (Option Nat) := if j < k then marks (k0 + tot (R.take j)) (R.getD j []).length else R.getD j []
/-- The places of a gather, in blocks that its lists have not. -/
theorem OwG.parts {w : World} {lo hi : Nat} {v : Value} {G : Gat} (h : OwG w lo hi v G) (hlo : lo ≤ hi) :
    ∃ Ap cp At ct gp g f pl ph, v = .agg #[.int .i64 G.t, .slice Ap G.p.length cp, .slice At G.r.length ct] ∧ OwL w pl ph Ap G.p.length G.p ∧ OwS w g f At G.r.length G.r ∧ G.p.length ≤ cp ∧ G.r.length ≤ ct ∧ (lo ≤ pl ∧ ph ≤ hi ∧ (∀ b, b ≠ gp → b < pl ∨ ph ≤ b) ∧ (G.p.length = 0 ∨ (pl = gp ∧ ph = gp + 1))) ∧
    (G.p.length = 0 ∨ (lo ≤ gp ∧ gp < hi)) ∧ (G.r.length = 0 ∨ (lo ≤ g ∧ g < hi ∧ g ≠ gp)) ∧ ∀ j, j < G.r.length → lo ≤ f j ∧ f j < hi ∧ f j ≠ gp := by
  obtain ⟨Ap, cp, At, ct, gp, g, f, h1, hp, hr, l1, l2, b1, b2, b3⟩ := h.ex
  rcases b1 with h0 | h0
  · exact ⟨Ap, cp, At, ct, gp, g, f, lo, lo, h1, ⟨hp.len, .inl h0⟩, hr, l1, l2, ⟨Nat.le_refl _, hlo, fun b _ => by omega, .inl h0⟩, .inl h0, b2, b3⟩
  · exact ⟨Ap, cp, At, ct, gp, g, f, gp, gp + 1, h1, hp, hr, l1, l2, ⟨h0.1, by omega, fun b hb => by omega, .inr ⟨rfl, rfl⟩⟩, .inr h0, b2, b3⟩
end Go.Proofs.Ytfmhdnhaaohdjaa
