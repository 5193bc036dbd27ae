/- Contracts: coefficients, surfaces, hardnesses, on both sides. Condition: the list is read. -/
import Derived.Test.YthgmkipifolbfabTx
import Derived.Test.YthgmkipifolbfabTr
namespace Go.Proofs.Ythgmkipifolbfab
open Go.RowKit Ieee

set_option maxRecDepth 20000 in
set_option maxHeartbeats 400000 in
theorem c_isCoefficient {w : World} {x : Nat} {X : Option Nat} (fx : Fl .f32 x X) :
    Calls Try.prog 50 #[.float .f32 x] w fun e w' => e = .returned (.bool (fcoef X)) ∧ w = w' := by
  have h1 := fl_fm1.olt fx
  have h2 := fx.olt fl_fu
  cases hA : flt32 fm1 X
  all_goals
    rw [hA] at h1
    go_enter Try.func50, Try.ntmps50
    go_wp2_with (fail)
    go_ret
    exact ⟨retb (by simp [fcoef, hA]), rfl⟩

set_option maxRecDepth 20000 in
set_option maxHeartbeats 400000 in
theorem c_l03Coefficient {w : World} {x : Nat} {X : Option Nat} (fx : Fl .f32 x X) :
    Calls Try.prog 60 #[.float .f32 x] w fun e w' => e = .returned (.bool (fcoef X)) ∧ w = w' := by
  have h1 := fx.ogt fl_fm1
  rw [← flt_gt] at h1
  have h2 := fx.olt fl_fu
  cases hA : flt32 fm1 X
  all_goals
    rw [hA] at h1
    go_enter Try.func60, Try.ntmps60
    go_wp2_with (fail)
    go_ret
    exact ⟨retb (by simp [fcoef, hA]), rfl⟩

set_option maxRecDepth 20000 in
set_option maxHeartbeats 400000 in
theorem c_isSurface {w : World} {x : Nat} {X : Option Nat} (fx : Fl .f32 x X) :
    Calls Try.prog 57 #[.float .f32 x] w fun e w' => e = .returned (.bool (fsurf X)) ∧ w = w' := by
  have h1 := fl_fm1.ole fx
  have h2 := fx.ole fl_fu
  cases hA : fle32 fm1 X
  all_goals
    rw [hA] at h1
    go_enter Try.func57, Try.ntmps57
    go_wp2_with (fail)
    go_ret
    exact ⟨retb (by simp [fsurf, hA]), rfl⟩

set_option maxRecDepth 20000 in
set_option maxHeartbeats 400000 in
theorem c_l03Surface {w : World} {x : Nat} {X : Option Nat} (fx : Fl .f32 x X) :
    Calls Try.prog 56 #[.float .f32 x] w fun e w' => e = .returned (.bool (fsurf X)) ∧ w = w' := by
  have h1 := fx.oge fl_fm1
  rw [← fle_ge] at h1
  have h2 := fx.ole fl_fu
  cases hA : fle32 fm1 X
  all_goals
    rw [hA] at h1
    go_enter Try.func56, Try.ntmps56
    go_wp2_with (fail)
    go_ret
    exact ⟨retb (by simp [fsurf, hA]), rfl⟩

set_option maxRecDepth 20000 in
set_option maxHeartbeats 400000 in
theorem c_l03Hard {w : World} {x : Nat} {X : Option Nat} (fx : Fl .f32 x X) :
    Calls Try.prog 51 #[.float .f32 x] w fun e w' => e = .returned (.bool (fabove X)) ∧ Dr w w' := by
  have hg := fx.ogt0
  cases hF : ffin .f32 X
  all_goals
    go_enter Try.func51, Try.ntmps51
    go_wp2_with (go_at_call 69; refine Calls.mono (c_l01Finite fx _) ?_; rw [hF]; rintro e w' ⟨rfl, n, rfl⟩)
    go_ret
    exact ⟨retb (by simp [fabove, hF]), _, rfl⟩

set_option maxRecDepth 20000 in
set_option maxHeartbeats 400000 in
theorem c_isPositive {w : World} {x : Nat} {X : Option Nat} (fx : Fl .f32 x X) :
    Calls Try.prog 52 #[.float .f32 x] w fun e w' => e = .returned (.bool (fabove X)) ∧ Dr w w' := by
  have hg := fx.ogt0
  cases hF : ffin .f32 X
  all_goals
    go_enter Try.func52, Try.ntmps52
    go_wp2_with (go_at_call 70; refine Calls.mono (c_impl_IsFinite fx _) ?_; rw [hF]; rintro e w' ⟨rfl, n, rfl⟩)
    go_ret
    exact ⟨retb (by simp [fabove, hF]), _, rfl⟩

set_option maxRecDepth 20000 in
set_option maxHeartbeats 1000000 in
theorem c_AreCoefficients {w : World} {B n c : Nat} {A : Option Addr} {L : List (Option Nat)} (h : RdF w B A n L) (hn : n ≤ 1048576) :
    Calls Try.prog 17 #[.slice A n c] w fun e w' => e = .returned (.bool (fare L)) ∧ w = w' := by
  have hl := Lib.hid h.len
  go_enter Try.func17, Try.ntmps17
  go_wp2_with (fail)
  go_loopw [7] (fun i wr => ∃ k : Nat, k ≤ n ∧ i = .int .i64 k ∧ allL fcoef (L.take k) = true ∧ wr = w) (fun i _ => n - (intOf i).toNat)
  case atStart => exact ⟨0, Nat.zero_le _, rfl, rfl, rfl⟩
  case round =>
    obtain ⟨k, hk, rfl, ha, rfl⟩ := hrel
    have HA := Lib.hid ha
    clear ha
    by_cases hlt : k < n
    · obtain ⟨b1, o1, t1, rfl, hb1, hc1, ht1⟩ := h.cell hlt
      have hlt' : (k : Int) < (n : Int) := by omega
      cases hF : fcoef (L.getD k none)
      · have hend := Lib.hid (show fare L = false by unfold fare; rw [allL_no (by have := hl.out; omega) hF]; rfl)
        go_wp2_with (go_at_call 50; refine Calls.mono (c_isCoefficient ht1) ?_; rw [hF]; rintro e w' ⟨rfl, rfl⟩)
        go_ret
        exact ⟨by rw [hend.out]; rfl, rfl⟩
      · have hend := Lib.hid (allL_step (by have := hl.out; omega) HA.out hF)
        go_wp2_with (go_at_call 50; refine Calls.mono (c_isCoefficient ht1) ?_; rw [hF]; rintro e w' ⟨rfl, rfl⟩)
        exact ⟨⟨k + 1, by omega, by go_num, hend.out, trivial⟩, by simp [intOf]; omega⟩
    · obtain rfl : k = n := by omega
      have hA2 : fare L = elen k := by unfold fare; rw [allL_end hl.out HA.out, hl.out]; rfl
      by_cases h1 : k < 1
      · have hend := Lib.hid (show fare L = false by rw [hA2, elen_lo h1])
        clear hA2
        have i1 : ¬ (1 : Int) ≤ (k : Int) := by omega
        clear h1
        go_wp2_with (fail)
        go_ret
        exact ⟨by rw [hend.out]; rfl, rfl⟩
      by_cases h2 : 24 < k
      · have hend := Lib.hid (show fare L = false by rw [hA2, elen_hi h2])
        clear hA2
        have i1 : (1 : Int) ≤ (k : Int) := by omega
        have i2 : ¬ (k : Int) ≤ 24 := by omega
        clear h1 h2
        go_wp2_with (fail)
        go_ret
        exact ⟨by rw [hend.out]; rfl, rfl⟩
      have hend := Lib.hid (show fare L = true by rw [hA2, elen_yes (by omega) (by omega)])
      clear hA2
      have i1 : (1 : Int) ≤ (k : Int) := by omega
      have i2 : (k : Int) ≤ 24 := by omega
      clear h1 h2
      go_wp2_with (fail)
      go_ret
      exact ⟨by rw [hend.out]; rfl, rfl⟩

set_option maxRecDepth 20000 in
set_option maxHeartbeats 1000000 in
theorem c_l03Are {w : World} {B n c : Nat} {A : Option Addr} {L : List (Option Nat)} (h : RdF w B A n L) (hn : n ≤ 1048576) :
    Calls Try.prog 49 #[.slice A n c] w fun e w' => e = .returned (.bool (fare L)) ∧ w = w' := by
  have hl := Lib.hid h.len
  go_enter Try.func49, Try.ntmps49
  go_wp2_with (fail)
  go_loopw [6] (fun i wr => ∃ k : Nat, k ≤ n ∧ i = .int .i64 k ∧ allL fcoef (L.take k) = true ∧ wr = w) (fun i _ => n - (intOf i).toNat)
  case atStart => exact ⟨0, Nat.zero_le _, rfl, rfl, rfl⟩
  case round =>
    obtain ⟨k, hk, rfl, ha, rfl⟩ := hrel
    have HA := Lib.hid ha
    clear ha
    by_cases hlt : k < n
    · obtain ⟨b1, o1, t1, rfl, hb1, hc1, ht1⟩ := h.cell hlt
      have hlt' : (k : Int) < (n : Int) := by omega
      cases hF : fcoef (L.getD k none)
      · have hend := Lib.hid (show fare L = false by unfold fare; rw [allL_no (by have := hl.out; omega) hF]; rfl)
        go_wp2_with (go_at_call 60; refine Calls.mono (c_l03Coefficient ht1) ?_; rw [hF]; rintro e w' ⟨rfl, rfl⟩)
        go_ret
        exact ⟨by rw [hend.out]; rfl, rfl⟩
      · have hend := Lib.hid (allL_step (by have := hl.out; omega) HA.out hF)
        go_wp2_with (go_at_call 60; refine Calls.mono (c_l03Coefficient ht1) ?_; rw [hF]; rintro e w' ⟨rfl, rfl⟩)
        exact ⟨⟨k + 1, by omega, by go_num, hend.out, trivial⟩, by simp [intOf]; omega⟩
    · obtain rfl : k = n := by omega
      have hA2 : fare L = elen k := by unfold fare; rw [allL_end hl.out HA.out, hl.out]; rfl
      by_cases h1 : k < 1
      · have hend := Lib.hid (show fare L = false by rw [hA2, elen_lo h1])
        clear hA2
        have i1 : ¬ (1 : Int) ≤ (k : Int) := by omega
        clear h1
        go_wp2_with (fail)
        go_ret
        exact ⟨by rw [hend.out]; rfl, rfl⟩
      by_cases h2 : 24 < k
      · have hend := Lib.hid (show fare L = false by rw [hA2, elen_hi h2])
        clear hA2
        have i1 : (1 : Int) ≤ (k : Int) := by omega
        have i2 : ¬ (k : Int) ≤ 24 := by omega
        clear h1 h2
        go_wp2_with (fail)
        go_ret
        exact ⟨by rw [hend.out]; rfl, rfl⟩
      have hend := Lib.hid (show fare L = true by rw [hA2, elen_yes (by omega) (by omega)])
      clear hA2
      have i1 : (1 : Int) ≤ (k : Int) := by omega
      have i2 : (k : Int) ≤ 24 := by omega
      clear h1 h2
      go_wp2_with (fail)
      go_ret
      exact ⟨by rw [hend.out]; rfl, rfl⟩

set_option maxRecDepth 20000 in
set_option maxHeartbeats 400000 in
theorem c_spec_AreCoefficients {w : World} {B n c : Nat} {A : Option Addr} {L : List (Option Nat)} (h : RdF w B A n L) (hn : n ≤ 1048576) :
    Calls Try.prog 15 #[.slice A n c] w fun e w' => e = .returned (.bool (fare L)) ∧ w = w' := by
  go_enter Try.func15, Try.ntmps15
  go_wp2_with (go_at_call 49; refine Calls.mono (c_l03Are h hn) ?_; rintro e w1 ⟨rfl, rfl⟩)
  go_ret
  exact ⟨rfl, rfl⟩

theorem both_AreCoefficients {n : Nat} {L : List (Option Nat)} (_hl : L.length = n) (hn : n ≤ 1048576) :
    ∃ ok, (∀ (W : World) (B : Nat) (A : Option Addr) (c : Nat), RdF W B A n L → B ≤ W.heap.size → Calls Try.prog 15 #[.slice A n c] W fun e w' => e = .returned (.bool ok) ∧ Dr W w') ∧
      (∀ (W : World) (B : Nat) (A : Option Addr) (c : Nat), RdF W B A n L → B ≤ W.heap.size → Calls Try.prog 17 #[.slice A n c] W fun e w' => e = .returned (.bool ok) ∧ Dr W w') :=
  ⟨fare L, fun _ _ _ _ h _ => Calls.mono (c_spec_AreCoefficients h hn) (fun _ _ hr => ⟨hr.1, 0, hr.2.symm⟩), fun _ _ _ _ h _ => Calls.mono (c_AreCoefficients h hn) (fun _ _ hr => ⟨hr.1, 0, hr.2.symm⟩)⟩
end Go.Proofs.Ythgmkipifolbfab
