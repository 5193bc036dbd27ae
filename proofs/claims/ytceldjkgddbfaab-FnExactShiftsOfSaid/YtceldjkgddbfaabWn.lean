/- Contracts: least and greatest, windows of lists. No condition. -/
import Derived.Test.YtceldjkgddbfaabWc
import Derived.Test.YtceldjkgddbfaabTn
namespace Go.Proofs.Ytceldjkgddbfaab
open Go.RowKit Ieee

/-- A part of a list that is read. -/
theorem RdF.sub {w : World} {B n b off lo d : Nat} {L : List (Option Nat)} (h : RdF w B (some ⟨b, off, none⟩) n L) (hd : lo + d ≤ n) : RdF w B (some ⟨b, off + lo, none⟩) d (lst (fun j => L.getD (lo + j) none) d) := by
  refine ⟨lst_len _ _, fun k hk => ?_⟩
  obtain ⟨b', off', hA, hb, hj⟩ := h.at_ (lo + k) (by omega)
  simp only [Option.some.injEq, Addr.mk.injEq, and_true] at hA
  obtain ⟨rfl, rfl⟩ := hA
  refine ⟨b, off + lo, rfl, hb, fun j hjd => ?_⟩
  obtain ⟨r, h1, h2⟩ := hj (lo + j) (by omega)
  exact ⟨r, by rw [Nat.add_assoc]; exact h1, by rw [lst_at hjd]; exact h2⟩
set_option maxRecDepth 20000 in
set_option maxHeartbeats 4000000 in
theorem c_windowOf {w : World} {n c b off lo d : Nat} {i j : Int} (_hn : n ≤ 1048576) (hc : n ≤ c) (hlo : (i < 0 ∧ lo = 0) ∨ (lo : Int) = i) (hhi : ((n : Int) < j ∧ lo + d = n) ∨ (((lo + d : Nat) : Int) = j ∧ lo + d ≤ n)) (hd : 0 < d) :
    Calls Try.prog 120 #[.slice (some ⟨b, off, none⟩) n c, .int .i64 i, .int .i64 j] w fun e w' => e = .returned (.slice (some ⟨b, off + lo, none⟩) d d) ∧ w = w' := by
  obtain ⟨hi, hhe⟩ : ∃ hi, lo + d = hi := ⟨_, rfl⟩
  have hsub : hi - lo = d := by omega
  have l1 : ¬ ((hi : Int) ≤ (lo : Int)) := by omega
  have l2 : (lo : Int) ≤ (hi : Int) := by omega
  have l3 : (hi : Int) ≤ (c : Int) := by omega
  have l4 : hi ≤ c := by omega
  have l5 : lo ≤ hi := by omega
  have l6 : (0 : Int) ≤ (lo : Int) := by omega
  have l7 : (hi : Int) - (lo : Int) = (d : Int) := by omega
  rcases hlo with ⟨h1, h2⟩ | h1
  · subst h2
    rw [Nat.zero_add] at hhe
    subst hhe
    rcases hhi with ⟨h3, h4⟩ | ⟨h3, h4⟩
    · have h5 : d = n := by omega
      subst h5
      go_enter Try.func120, Try.ntmps120
      go_wp2_with (fail)
      go_ret
      exact ⟨rfl, rfl⟩
    · have h5 : (d : Int) = j := by omega
      subst h5
      have h6 : ¬ ((n : Int) < (d : Int)) := by omega
      go_enter Try.func120, Try.ntmps120
      go_wp2_with (fail)
      go_ret
      exact ⟨rfl, rfl⟩
  · subst h1
    have h0 : ¬ ((lo : Int) < 0) := by omega
    rcases hhi with ⟨h3, h4⟩ | ⟨h3, h4⟩
    · have h5 : hi = n := by omega
      subst h5
      go_enter Try.func120, Try.ntmps120
      go_wp2_with (fail)
      go_ret
      exact ⟨by rw [← hsub]; rfl, rfl⟩
    · rw [hhe] at h3
      subst h3
      have h6 : ¬ ((n : Int) < (hi : Int)) := by omega
      go_enter Try.func120, Try.ntmps120
      go_wp2_with (fail)
      go_ret
      exact ⟨by rw [← hsub]; rfl, rfl⟩
set_option maxRecDepth 20000 in
set_option maxHeartbeats 4000000 in
theorem c_windowOf_no {w : World} {n c b off : Nat} {i j : Int} (hn : 0 < n) (h : (j ≤ n ∧ j ≤ i) ∨ (j ≤ 0) ∨ (n ≤ i)) :
    Calls Try.prog 120 #[.slice (some ⟨b, off, none⟩) n c, .int .i64 i, .int .i64 j] w fun e w' => e = .returned (.slice none 0 0) ∧ w = w' := by
  by_cases h1 : i < 0
  · have h2 : ¬ ((n : Int) < j) := by omega
    have h3 : j ≤ 0 := by omega
    clear h
    go_enter Try.func120, Try.ntmps120
    go_wp2_with (fail)
    go_ret
    exact ⟨rfl, rfl⟩
  · by_cases h2 : (n : Int) < j
    · have h3 : (n : Int) ≤ i := by omega
      clear h
      go_enter Try.func120, Try.ntmps120
      go_wp2_with (fail)
      go_ret
      exact ⟨rfl, rfl⟩
    · have h3 : j ≤ i := by omega
      clear h
      go_enter Try.func120, Try.ntmps120
      go_wp2_with (fail)
      go_ret
      exact ⟨rfl, rfl⟩
theorem rdf_nil {w : World} {B : Nat} : RdF w B none 0 [] := ⟨rfl, fun _ hk => absurd hk (Nat.not_lt_zero _)⟩
end Go.Proofs.Ytceldjkgddbfaab
