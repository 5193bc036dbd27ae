/- Contracts: a number of a list or +0, lengths of filters, on both sides. Condition: the list is read. -/
import Derived.Test.YthgooahifbdaaaaFa
import Derived.Test.YthgooahifbdaaaaWc
import Derived.Test.YthgooahifbdaaaaLo2
namespace Go.Proofs.Ythgooahifbdaaaa
open Go.RowKit Ieee

set_option maxRecDepth 20000 in
set_option maxHeartbeats 1000000 in
theorem c_l05At {w : World} {B n c : Nat} {A : Option Addr} {L : List (Option Nat)} (h : RdF w B A n L) {i : Int} :
    Calls Try.prog 109 #[.slice A n c, .int .i64 i] w fun e w' => ∃ r, e = .returned (.float .f32 r) ∧ Fl .f32 r (fatI L i) ∧ Dr w w' := by
  have hl := h.len
  by_cases h1 : i < 0
  · rw [fatI_out (.inl h1)]
    go_enter Try.func109, Try.ntmps109
    go_wp2_with (fail)
    go_ret
    exact ⟨_, rfl, fl_fz, 0, rfl⟩
  by_cases h2 : (n : Int) ≤ i
  · rw [fatI_out (.inr (by rw [hl]; exact h2))]
    have h3 : ¬ (i < (n : Int)) := by omega
    go_enter Try.func109, Try.ntmps109
    go_wp2_with (fail)
    go_ret
    exact ⟨_, rfl, fl_fz, 0, rfl⟩
  obtain ⟨d, rfl⟩ : ∃ d : Nat, i = (d : Int) := ⟨i.toNat, by omega⟩
  have hd : d < n := by omega
  obtain ⟨b, off, t, rfl, hb, hc, ht⟩ := h.cell hd
  rw [fatI_in rfl (by rw [hl]; exact hd)]
  have hd' : (d : Int) < (n : Int) := by omega
  clear h1 hl
  go_enter Try.func109, Try.ntmps109
  go_wp2_with (fail)
  go_ret
  exact ⟨t, rfl, ht, 0, rfl⟩
set_option maxRecDepth 20000 in
set_option maxHeartbeats 1000000 in
theorem c_at {w : World} {B n c : Nat} {A : Option Addr} {L : List (Option Nat)} (h : RdF w B A n L) {i : Int} :
    Calls Try.prog 135 #[.slice A n c, .int .i64 i] w fun e w' => ∃ r, e = .returned (.float .f32 r) ∧ Fl .f32 r (fatI L i) ∧ Dr w w' := by
  have hl := h.len
  by_cases h1 : i < 0
  · rw [fatI_out (.inl h1)]
    go_enter Try.func135, Try.ntmps135
    go_wp2_with (fail)
    go_ret
    exact ⟨_, rfl, fl_fz, 0, rfl⟩
  by_cases h2 : (n : Int) ≤ i
  · rw [fatI_out (.inr (by rw [hl]; exact h2))]
    have h3 : ¬ (i < (n : Int)) := by omega
    go_enter Try.func135, Try.ntmps135
    go_wp2_with (fail)
    go_ret
    exact ⟨_, rfl, fl_fz, 0, rfl⟩
  obtain ⟨d, rfl⟩ : ∃ d : Nat, i = (d : Int) := ⟨i.toNat, by omega⟩
  have hd : d < n := by omega
  obtain ⟨b, off, t, rfl, hb, hc, ht⟩ := h.cell hd
  rw [fatI_in rfl (by rw [hl]; exact hd)]
  have hd' : (d : Int) < (n : Int) := by omega
  clear h1 hl
  go_enter Try.func135, Try.ntmps135
  go_wp2_with (fail)
  go_ret
  exact ⟨t, rfl, ht, 0, rfl⟩
end Go.Proofs.Ythgooahifbdaaaa
