/- Contracts of sums over lists of floats. Condition: the lists are read as floats (RdF). -/
import Derived.Test.YtkoiimjpalhgbaaSl
import Derived.Test.YtkoiimjpalhgbaaC1
import Derived.Deep.RegionWith
import Derived.Deep.OwnRows
namespace Go.Proofs.Ytkoiimjpalhgbaa
open Go.RowKit Ieee

theorem fsum_all {L : List (Option Nat)} {n : Nat} (h : L.length = n) : L.take n = L := List.take_of_length_le (by omega)

set_option maxRecDepth 20000 in
set_option maxHeartbeats 2000000 in
theorem c_eqFloat32S {w : World} {B B' n c c' : Nat} {A A' : Option Addr} {L : List (Option Nat)} (h : RdF w B A n L) (h' : RdF w B' A' n L) (hn : n ≤ 1048576) :
    Calls Try.prog 24 #[.slice A n c, .slice A' n c'] w fun e w' => e = .returned (.bool true) ∧ Dr w w' := by
  go_enter Try.func24, Try.ntmps24
  go_wp2
  go_loopw [5] (fun i wr => ∃ k : Nat, k ≤ n ∧ i = .int .i64 k ∧ Dr w wr) (fun i _ => n - (intOf i).toNat)
  case atStart => exact ⟨0, Nat.zero_le _, rfl, 0, rfl⟩
  case round =>
    obtain ⟨k, hk, rfl, m, rfl⟩ := hrel
    by_cases hlt : k < n
    · obtain ⟨b, off, q, rfl, hb, hc, hq⟩ := h.cell hlt
      obtain ⟨b', off', q', rfl, hb', hc', hq'⟩ := h'.cell hlt
      have hlt' : (k : Int) < (n : Int) := by omega
      go_wp2
      go_region_with (first | (apply upon_wide s_f32 Try.underlying47; (first | assumption | exact Fl.const (of_decide_eq_true (by kernel_rfl))); intro r n hr) | (go_at_call 32; refine Calls.mono (c_sameFloat (by assumption) (by assumption) _) ?_; rintro e w' ⟨rfl, n3, rfl⟩))
      all_goals
        go_wp2
        exact ⟨⟨k + 1, by omega, by go_num, _, rfl⟩, by simp [intOf]; omega⟩
    · have hkn : k = n := by omega
      go_wp2
      go_ret
      exact ⟨rfl, m, rfl⟩
end Go.Proofs.Ytkoiimjpalhgbaa
