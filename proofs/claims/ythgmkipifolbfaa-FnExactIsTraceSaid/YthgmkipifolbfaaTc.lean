/- Contracts: whether a list is a trace; pulses, on both sides. No condition. -/
import Derived.Test.YthgmkipifolbfaaTr
namespace Go.Proofs.Ythgmkipifolbfaa
open Go.RowKit Ieee

set_option maxRecDepth 20000 in
set_option maxHeartbeats 400000 in
theorem c_spec_IsTrace {w : World} {n c : Nat} {A : Option Addr} :
    Calls Try.prog 15 #[.slice A n c] w fun e w' => e = .returned (.bool (tlen n)) ∧ w = w' := by
  go_enter Try.func15, Try.ntmps15
  go_wp2_with (go_at_call 44; refine Calls.mono (c_l03Is _ _ _ _) ?_; rintro e w1 ⟨rfl, rfl⟩)
  go_ret
  exact ⟨rfl, rfl⟩

theorem both_IsTrace {n : Nat} {L : List (Option Nat)} (_hl : L.length = n) (_hn : n ≤ 1048576) :
    ∃ ok, (∀ (W : World) (B : Nat) (A : Option Addr) (c : Nat), RdF W B A n L → B ≤ W.heap.size → Calls Try.prog 15 #[.slice A n c] W fun e w' => e = .returned (.bool ok) ∧ Dr W w') ∧
      (∀ (W : World) (B : Nat) (A : Option Addr) (c : Nat), RdF W B A n L → B ≤ W.heap.size → Calls Try.prog 17 #[.slice A n c] W fun e w' => e = .returned (.bool ok) ∧ Dr W w') :=
  ⟨tlen n, fun _ _ _ _ _ _ => Calls.mono c_spec_IsTrace (fun _ _ hr => ⟨hr.1, 0, hr.2.symm⟩), fun _ _ _ _ _ _ => Calls.mono (c_IsTrace _ _ _ _) (fun _ _ hr => ⟨hr.1, 0, hr.2.symm⟩)⟩

set_option maxRecDepth 20000 in
set_option maxHeartbeats 4000000 in
theorem c_spec_PulseTrace {w : World} {i : Int} (hi0 : -9223372036854775808 ≤ i) (hi1 : i ≤ 9223372036854775807) {d : Int} (hd0 : -9223372036854775808 ≤ d) (hd1 : d ≤ 9223372036854775807) {p : Nat} {P : Option Nat} (fp : Fl .f32 p P) :
    Calls Try.prog 19 #[.int .i64 i, .int .i64 d, .float .f32 p] w fun e w' => RetL w e w' (inB i 1 128 && inB d 0 (i - 1)) (lst (fpulse d.toNat P) i.toNat) := by
  cases hV : inB i 1 128
  · go_enter Try.func19, Try.ntmps19
    go_wp2_with (go_at_call 46; refine Calls.mono (c_l00In _ _ _ _) ?_; rw [hV]; rintro e w1 ⟨rfl, rfl⟩)
    go_ret2
    exact retL_no rfl (by repeat (first | assumption | exact Ext.refl _ | apply Ext.drewN | apply Ext.drew | apply Ext.alloc | (refine Ext.trans ?_ (by assumption)) | (refine Ext.set ?_ (by dsimp only; omega) _)))
  obtain ⟨g1, g2⟩ := inB_of hV
  rw [Bool.true_and]
  cases hW : inB d 0 (i - 1)
  · go_enter Try.func19, Try.ntmps19
    go_wp2_with (first | (go_at_call 46; refine Calls.mono (c_l00In _ _ _ _) ?_; rw [hV]; rintro e w1 ⟨rfl, rfl⟩) | (go_at_call 46; refine Calls.mono (c_l00In _ _ _ _) ?_; rw [hW]; rintro e w1 ⟨rfl, rfl⟩))
    go_ret2
    exact retL_no rfl (by repeat (first | assumption | exact Ext.refl _ | apply Ext.drewN | apply Ext.drew | apply Ext.alloc | (refine Ext.trans ?_ (by assumption)) | (refine Ext.set ?_ (by dsimp only; omega) _)))
  obtain ⟨g3, g4⟩ := inB_of hW
  obtain ⟨n, rfl⟩ : ∃ n : Nat, i = (n : Int) := ⟨i.toNat, by omega⟩
  obtain ⟨a, rfl⟩ : ∃ a : Nat, d = (a : Int) := ⟨d.toNat, by omega⟩
  have hlt : a < n := by omega
  have hg := heap_alloc_new w (.cells (madeCells #[.float .f32 0] n) 26)
  obtain ⟨u0, e0, z0⟩ := own_cell hg (size_madeCells _ _) hlt
  clear hg
  have hmk := fun W => run_make_row' (P := Try.prog) 22 26 (.float .f32 0) 4 Try.underlying22 info_f32 rfl .i64 .i64 n (by omega) (by omega) W
  have i5 : (a : Int) < (n : Int) := by omega
  go_enter Try.func19, Try.ntmps19
  go_wp2_with (first | (go_at_call 46; refine Calls.mono (c_l00In _ _ _ _) ?_; rw [hV]; rintro e w1 ⟨rfl, rfl⟩) | (go_at_call 46; refine Calls.mono (c_l00In _ _ _ _) ?_; rw [hW]; rintro e w1 ⟨rfl, rfl⟩))
  go_ret2
  refine ⟨_, _, _, rfl, own_lst (cs := (madeCells #[.float .f32 0] n).setIfInBounds a (.float .f32 p)) (heap_alloc_new w _) (by rw [Array.size_setIfInBounds]; exact size_madeCells _ _) ?_, (by repeat (first | assumption | exact Ext.refl _ | apply Ext.drewN | apply Ext.drew | apply Ext.alloc | (refine Ext.trans ?_ (by assumption)) | (refine Ext.set ?_ (by dsimp only; omega) _)))⟩
  intro j hj
  simp only [Int.toNat_natCast] at hj ⊢
  by_cases hja : j = a
  · subst hja
    refine ⟨p, ?_, by unfold fpulse; rw [if_pos rfl]; exact fp⟩
    rw [Array.getElem?_setIfInBounds, if_pos rfl, if_pos (by rw [size_madeCells]; exact hj)]
  · refine ⟨0, ?_, by unfold fpulse; rw [if_neg hja]; exact fl_fz⟩
    rw [Array.getElem?_setIfInBounds, if_neg (fun e => hja e.symm)]
    exact made_get _ _ _ hj

set_option maxRecDepth 20000 in
set_option maxHeartbeats 4000000 in
theorem c_impl_PulseTrace {w : World} {i : Int} (hi0 : -9223372036854775808 ≤ i) (hi1 : i ≤ 9223372036854775807) {d : Int} (hd0 : -9223372036854775808 ≤ d) (hd1 : d ≤ 9223372036854775807) {p : Nat} {P : Option Nat} (fp : Fl .f32 p P) :
    Calls Try.prog 20 #[.int .i64 i, .int .i64 d, .float .f32 p] w fun e w' => RetL w e w' (inB i 1 128 && inB d 0 (i - 1)) (lst (fpulse d.toNat P) i.toNat) := by
  cases hV : inB i 1 128
  · go_enter Try.func20, Try.ntmps20
    go_wp2_with (go_at_call 45; refine Calls.mono (c_isTraceLength _ _) ?_; rw [hV]; rintro e w1 ⟨rfl, rfl⟩)
    go_ret2
    exact retL_no rfl (by repeat (first | assumption | exact Ext.refl _ | apply Ext.drewN | apply Ext.drew | apply Ext.alloc | (refine Ext.trans ?_ (by assumption)) | (refine Ext.set ?_ (by dsimp only; omega) _)))
  obtain ⟨g1, g2⟩ := inB_of hV
  rw [Bool.true_and]
  cases hW : inB d 0 (i - 1)
  · rcases inB_not hW with hw | hw
    · go_enter Try.func20, Try.ntmps20
      go_wp2_with (go_at_call 45; refine Calls.mono (c_isTraceLength _ _) ?_; rw [hV]; rintro e w1 ⟨rfl, rfl⟩)
      go_ret2
      exact retL_no rfl (by repeat (first | assumption | exact Ext.refl _ | apply Ext.drewN | apply Ext.drew | apply Ext.alloc | (refine Ext.trans ?_ (by assumption)) | (refine Ext.set ?_ (by dsimp only; omega) _)))
    · have i1 : ¬ d < 0 := by omega
      have i2 : i ≤ d := by omega
      go_enter Try.func20, Try.ntmps20
      go_wp2_with (go_at_call 45; refine Calls.mono (c_isTraceLength _ _) ?_; rw [hV]; rintro e w1 ⟨rfl, rfl⟩)
      go_ret2
      exact retL_no rfl (by repeat (first | assumption | exact Ext.refl _ | apply Ext.drewN | apply Ext.drew | apply Ext.alloc | (refine Ext.trans ?_ (by assumption)) | (refine Ext.set ?_ (by dsimp only; omega) _)))
  obtain ⟨g3, g4⟩ := inB_of hW
  obtain ⟨n, rfl⟩ : ∃ n : Nat, i = (n : Int) := ⟨i.toNat, by omega⟩
  obtain ⟨a, rfl⟩ : ∃ a : Nat, d = (a : Int) := ⟨d.toNat, by omega⟩
  have hlt : a < n := by omega
  have hg := heap_alloc_new w (.cells (madeCells #[.float .f32 0] n) 26)
  obtain ⟨u0, e0, z0⟩ := own_cell hg (size_madeCells _ _) hlt
  clear hg
  have hmk := fun W => run_make_row' (P := Try.prog) 22 26 (.float .f32 0) 4 Try.underlying22 info_f32 rfl .i64 .i64 n (by omega) (by omega) W
  have i5 : (a : Int) < (n : Int) := by omega
  go_enter Try.func20, Try.ntmps20
  go_wp2_with (go_at_call 45; refine Calls.mono (c_isTraceLength _ _) ?_; rw [hV]; rintro e w1 ⟨rfl, rfl⟩)
  go_ret2
  refine ⟨_, _, _, rfl, own_lst (cs := (madeCells #[.float .f32 0] n).setIfInBounds a (.float .f32 p)) (heap_alloc_new w _) (by rw [Array.size_setIfInBounds]; exact size_madeCells _ _) ?_, (by repeat (first | assumption | exact Ext.refl _ | apply Ext.drewN | apply Ext.drew | apply Ext.alloc | (refine Ext.trans ?_ (by assumption)) | (refine Ext.set ?_ (by dsimp only; omega) _)))⟩
  intro j hj
  simp only [Int.toNat_natCast] at hj ⊢
  by_cases hja : j = a
  · subst hja
    refine ⟨p, ?_, by unfold fpulse; rw [if_pos rfl]; exact fp⟩
    rw [Array.getElem?_setIfInBounds, if_pos rfl, if_pos (by rw [size_madeCells]; exact hj)]
  · refine ⟨0, ?_, by unfold fpulse; rw [if_neg hja]; exact fl_fz⟩
    rw [Array.getElem?_setIfInBounds, if_neg (fun e => hja e.symm)]
    exact made_get _ _ _ hj

theorem both_PulseTrace {i0 : Int} (h00 : -9223372036854775808 ≤ i0) (h01 : i0 ≤ 9223372036854775807) {i1 : Int} (h10 : -9223372036854775808 ≤ i1) (h11 : i1 ≤ 9223372036854775807) {p : Nat} {P : Option Nat} (fp : Fl .f32 p P) :
    ∃ ok Q q, q ≤ 1048576 ∧ (∀ W : World, Calls Try.prog 19 #[.int .i64 i0, .int .i64 i1, .float .f32 p] W fun e w' => RetQ W e w' ok q Q) ∧
      (∀ W : World, Calls Try.prog 20 #[.int .i64 i0, .int .i64 i1, .float .f32 p] W fun e w' => RetQ W e w' ok q Q) :=
  ⟨_, _, _, by
    cases h : (inB i0 1 128 && inB i1 0 (i0 - 1))
    · exact Nat.zero_le _
    · rw [Bool.and_eq_true] at h
      have := inB_of h.1
      show (lst _ _).length ≤ _
      rw [lst_len]; omega, fun W => Calls.mono (c_spec_PulseTrace (w := W) h00 h01 h10 h11 fp) (fun _ _ hr => hr.q), fun W => Calls.mono (c_impl_PulseTrace (w := W) h00 h01 h10 h11 fp) (fun _ _ hr => hr.q)⟩
end Go.Proofs.Ythgmkipifolbfaa
