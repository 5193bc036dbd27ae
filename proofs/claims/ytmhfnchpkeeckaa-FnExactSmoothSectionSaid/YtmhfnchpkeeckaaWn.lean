/- Contracts: least and greatest, windows of lists. No condition. -/
import Derived.Test.YtmhfnchpkeeckaaWc
import Derived.Test.YtmhfnchpkeeckaaTn
namespace Go.Proofs.Ytmhfnchpkeeckaa
open Go.RowKit Ieee

set_option maxRecDepth 20000 in
set_option maxHeartbeats 400000 in
theorem c_l00Min (i j : Int) (w : World) : Calls Try.prog 95 #[.int .i64 i, .int .i64 j] w fun e w' => e = .returned (.int .i64 (if i < j then i else j)) ∧ w = w' := by
  by_cases h : i < j
  all_goals
    simp only [h, if_true, if_false]
    go_enter Try.func95, Try.ntmps95
    go_wp2_with (fail)
    go_ret
    exact ⟨rfl, rfl⟩
set_option maxRecDepth 20000 in
set_option maxHeartbeats 400000 in
theorem c_l00Max (i j : Int) (w : World) : Calls Try.prog 94 #[.int .i64 i, .int .i64 j] w fun e w' => e = .returned (.int .i64 (if j < i then i else j)) ∧ w = w' := by
  by_cases h : j < i
  all_goals
    simp only [h, if_true, if_false]
    go_enter Try.func94, Try.ntmps94
    go_wp2_with (fail)
    go_ret
    exact ⟨rfl, rfl⟩
/-- A part of a list that is read. -/
theorem RdF.sub {w : World} {B n b off lo d : Nat} {L : List (Option Nat)} (h : RdF w B (some ⟨b, off, none⟩) n L) (hd : lo + d ≤ n) : RdF w B (some ⟨b, off + lo, none⟩) d (lst (fun j => L.getD (lo + j) none) d) := by
  refine ⟨lst_len _ _, fun k hk => ?_⟩
  obtain ⟨b', off', hA, hb, hj⟩ := h.at_ (lo + k) (by omega)
  simp only [Option.some.injEq, Addr.mk.injEq, and_true] at hA
  obtain ⟨rfl, rfl⟩ := hA
  refine ⟨b, off + lo, rfl, hb, fun j hjd => ?_⟩
  obtain ⟨r, h1, h2⟩ := hj (lo + j) (by omega)
  exact ⟨r, by rw [Nat.add_assoc]; exact h1, by rw [lst_at hjd]; exact h2⟩
theorem rdf_nil {w : World} {B : Nat} : RdF w B none 0 [] := ⟨rfl, fun _ hk => absurd hk (Nat.not_lt_zero _)⟩
end Go.Proofs.Ytmhfnchpkeeckaa
