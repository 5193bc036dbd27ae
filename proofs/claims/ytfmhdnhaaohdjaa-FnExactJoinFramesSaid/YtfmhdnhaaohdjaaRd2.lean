/- Numbers with few digits are exact, wherever they stand. No condition but the bounds. -/
import Derived.Test.YtfmhdnhaaohdjaaRd
namespace Go.Proofs.Ytfmhdnhaaohdjaa
open Ieee

/-- A number of few digits, in the canonical form. -/
theorem canon {B : Nat} : ∀ (b N : Nat), N < 2 * B → ∃ K E, K < 2 * B ∧ (E = 0 ∨ B ≤ K) ∧ K * 2 ^ E = N * 2 ^ b ∧ E ≤ b
  | 0, N, h => ⟨N, 0, h, Or.inl rfl, rfl, Nat.le_refl _⟩
  | b + 1, N, h => by
    by_cases hN : B ≤ N
    · exact ⟨N, b + 1, h, Or.inr hN, rfl, Nat.le_refl _⟩
    · obtain ⟨K, E, h1, h2, h3, h4⟩ := canon (B := B) b (2 * N) (by omega)
      refine ⟨K, E, h1, h2, ?_, by omega⟩
      rw [h3, Nat.pow_succ]; ac_rfl

/-- A number of few digits is exact. -/
theorem near_few (k : FloatKind) (s : Bool) {mag : Nat} {place : Int} {N b : Nat} (hN : N < 2 * k.format.binade) (hi : (b + 2) * k.format.binade ≤ k.format.infRung)
    (h : mag * 2 ^ (place - k.format.leastPlace).toNat = N * 2 ^ b * 2 ^ (k.format.leastPlace - place).toNat) :
    ∃ m e, Fin_ k (k.format.nearest s mag place) s m e ∧ m * 2 ^ e = N * 2 ^ b := by
  obtain ⟨K, E, h1, h2, h3, h4⟩ := canon b N hN
  have hlt : E * k.format.binade + K < k.format.infRung := by
    have h5 : (E + 2) * k.format.binade ≤ (b + 2) * k.format.binade := Nat.mul_le_mul_right _ (by omega)
    have h6 : (E + 2) * k.format.binade = E * k.format.binade + 2 * k.format.binade := Nat.add_mul _ _ _
    omega
  rw [near_self k s h1 h2 hlt (by rw [h3]; exact h)]
  exact ⟨K, E, Fin_.of_word k s K E h1 h2 hlt, h3⟩
end Go.Proofs.Ytfmhdnhaaohdjaa
