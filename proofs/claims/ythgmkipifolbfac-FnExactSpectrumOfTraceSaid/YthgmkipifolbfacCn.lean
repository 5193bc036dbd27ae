/- Both sides of spectra at even distances, in the form that the law wants. Condition: the list is read. -/
import Derived.Test.YthgmkipifolbfacCm
namespace Go.Proofs.Ythgmkipifolbfac
open Go.RowKit Ieee

theorem even_all (c : Nat) : ∃ R I : Nat → Nat → Option Nat, ∀ k j, PhCase (fback (fcnt k c) j) (R k j) (I k j) := by
  have h : ∀ k : Nat, ∃ q : (Nat → Option Nat) × (Nat → Option Nat), ∀ j, PhCase (fback (fcnt k c) j) (q.1 j) (q.2 j) := fun k => by
    obtain ⟨r, hr⟩ := fop_ex (op := .quo) (fl_i32 (k : Int)) (fl_i32 (c : Int))
    obtain ⟨R, I, h⟩ := back_all (T := fcnt k c) hr
    exact ⟨(R, I), h⟩
  exact ⟨fun k => (h k).choose.1, fun k => (h k).choose.2, fun k => (h k).choose_spec⟩
theorem both_SpectrumOfTrace {n0 : Nat} {L0 : List (Option Nat)} (_hl0 : L0.length = n0) (hn0 : n0 ≤ 1048576) {i1 : Int} (hi1 : -9223372036854775808 ≤ i1) (hj1 : i1 ≤ 9223372036854775807) :
    ∃ ok Q q, q ≤ 1048576 ∧ (∀ W : World, ∀ (B0 : Nat) (A0 : Option Addr) (c0 : Nat), RdF W B0 A0 n0 L0 → B0 ≤ W.heap.size → Calls Try.prog 22 #[.slice A0 n0 c0, .int .i64 i1] W fun e w' => RetXQ W e w' ok q Q) ∧
      (∀ W : World, ∀ (B0 : Nat) (A0 : Option Addr) (c0 : Nat), RdF W B0 A0 n0 L0 → B0 ≤ W.heap.size → Calls Try.prog 23 #[.slice A0 n0 c0, .int .i64 i1] W fun e w' => RetXQ W e w' ok q Q) := by
  obtain ⟨R, I, hcs⟩ := even_all i1.toNat
  refine ⟨tlen n0 && inB i1 1 128, outX (tlen n0 && inB i1 1 128) (lstX (fun k => (csm (R k) L0 n0, csm (I k) L0 n0)) i1.toNat), _, ?_, fun W _ _ _ h0 hB0 => Calls.mono (c_spec_SpectrumOfTrace (w := W) h0 hB0 hn0 hi1 hj1 hcs) (fun _ _ hr => hr.q), fun W _ _ _ h0 hB0 => Calls.mono (c_impl_SpectrumOfTrace (w := W) h0 hB0 hn0 hi1 hj1 hcs) (fun _ _ hr => hr.q)⟩
  cases hk : (tlen n0 && inB i1 1 128)
  · exact Nat.zero_le _
  · rw [Bool.and_eq_true] at hk
    have := inB_of hk.2
    show (lstX _ _).length ≤ _
    rw [lstX_len]; omega
end Go.Proofs.Ythgmkipifolbfac
