/- Both sides of what is peeled of a trace, in the form that the law wants. Condition: the list is read, and has room for what it has. -/
import Derived.Test.YthgmkipifolbfabVb
import Derived.Test.YthgmkipifolbfabVc
namespace Go.Proofs.Ythgmkipifolbfab
open Go.RowKit Ieee

theorem okQ_in {L : List (Option Nat)} {S : Option Nat} {i : Int} {n : Nat} (h : okQ L S i n = true) : inB i 1 24 = true := by
  cases hk : inB i 1 24
  · rw [okQ_c hk] at h; cases h
  · rfl
theorem both_PeelTrace {n0 : Nat} {L0 : List (Option Nat)} (_hl0 : L0.length = n0) (hn0 : n0 ≤ 1048576) {p1 : Nat} {P1 : Option Nat} (fp1 : Fl .f32 p1 P1) {i2 : Int} (hi2 : -9223372036854775808 ≤ i2) (hj2 : i2 ≤ 9223372036854775807) :
    ∃ ok Q q, q ≤ 1048576 ∧ (∀ W : World, ∀ (B0 : Nat) (A0 : Option Addr) (c0 : Nat), RdF W B0 A0 n0 L0 → B0 ≤ W.heap.size → n0 ≤ c0 → Calls Try.prog 29 #[.slice A0 n0 c0, .float .f32 p1, .int .i64 i2] W fun e w' => RetQ W e w' ok q Q) ∧
      (∀ W : World, ∀ (B0 : Nat) (A0 : Option Addr) (c0 : Nat), RdF W B0 A0 n0 L0 → B0 ≤ W.heap.size → n0 ≤ c0 → Calls Try.prog 30 #[.slice A0 n0 c0, .float .f32 p1, .int .i64 i2] W fun e w' => RetQ W e w' ok q Q) :=
  ⟨okQ L0 P1 i2 n0, outL (okQ L0 P1 i2 n0) (lst (fpr L0 P1) i2.toNat), (outL (okQ L0 P1 i2 n0) (lst (fpr L0 P1) i2.toNat)).length, by
    cases hk : okQ L0 P1 i2 n0
    · exact Nat.zero_le _
    · have := inB_of (okQ_in hk)
      show (lst _ _).length ≤ _
      rw [lst_len]; omega, fun W _ _ _ h0 hB0 hc0 => Calls.mono (c_spec_PeelTrace (w := W) h0 hB0 hn0 hc0 fp1 hi2 hj2) (fun _ _ hr => hr.q), fun W _ _ _ h0 hB0 hc0 => Calls.mono (c_impl_PeelTrace (w := W) h0 hB0 hn0 hc0 fp1 hi2 hj2) (fun _ _ hr => hr.q)⟩
end Go.Proofs.Ythgmkipifolbfab
