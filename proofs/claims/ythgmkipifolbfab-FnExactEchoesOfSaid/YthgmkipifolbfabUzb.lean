/- Both sides of all that comes back, in the form that the law wants. Condition: the list is read. -/
import Derived.Test.YthgmkipifolbfabUz
namespace Go.Proofs.Ythgmkipifolbfab
open Go.RowKit Ieee

theorem both_EchoesOf {n0 : Nat} {L0 : List (Option Nat)} (_hl0 : L0.length = n0) (hn0 : n0 ≤ 1048576) {p1 : Nat} {P1 : Option Nat} (fp1 : Fl .f32 p1 P1) {i2 : Int} (hi2 : -9223372036854775808 ≤ i2) (hj2 : i2 ≤ 9223372036854775807) :
    ∃ ok Q q, q ≤ 1048576 ∧ (∀ W : World, ∀ (B0 : Nat) (A0 : Option Addr) (c0 : Nat), RdF W B0 A0 n0 L0 → B0 ≤ W.heap.size → Calls Try.prog 27 #[.slice A0 n0 c0, .float .f32 p1, .int .i64 i2] W fun e w' => RetQ W e w' ok q Q) ∧
      (∀ W : World, ∀ (B0 : Nat) (A0 : Option Addr) (c0 : Nat), RdF W B0 A0 n0 L0 → B0 ≤ W.heap.size → Calls Try.prog 28 #[.slice A0 n0 c0, .float .f32 p1, .int .i64 i2] W fun e w' => RetQ W e w' ok q Q) :=
  ⟨fare L0 && (fsurf P1 && inB i2 1 128), outL (fare L0 && (fsurf P1 && inB i2 1 128)) (lst (fecho L0 P1 (n0 + 1)) i2.toNat), (outL (fare L0 && (fsurf P1 && inB i2 1 128)) (lst (fecho L0 P1 (n0 + 1)) i2.toNat)).length, by
    cases hk : (fare L0 && (fsurf P1 && inB i2 1 128))
    · exact Nat.zero_le _
    · rw [Bool.and_eq_true, Bool.and_eq_true] at hk
      have := inB_of hk.2.2
      show (lst _ _).length ≤ _
      rw [lst_len]; omega, fun W _ _ _ h0 hB0 => Calls.mono (c_spec_EchoesOf (w := W) h0 hB0 hn0 fp1 hi2 hj2) (fun _ _ hr => hr.q), fun W _ _ _ h0 hB0 => Calls.mono (c_impl_EchoesOf (w := W) h0 hB0 hn0 fp1 hi2 hj2) (fun _ _ hr => hr.q)⟩
end Go.Proofs.Ythgmkipifolbfab
