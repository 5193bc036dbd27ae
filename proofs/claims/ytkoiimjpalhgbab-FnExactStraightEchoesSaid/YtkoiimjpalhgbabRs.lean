/- Contracts: the coefficient of a boundary straight down, on both sides. Condition: the ground is read. -/
import Derived.Test.YtkoiimjpalhgbabLt
namespace Go.Proofs.Ytkoiimjpalhgbab
open Go.RowKit Ieee

theorem inLay_yes {j n : Nat} (h : j ≤ n) : inLay (j : Int) n = true := by unfold inLay; rw [decide_eq_true (by omega), decide_eq_true (by omega)]; rfl
theorem numX_fin {x : Option Nat} (h : ffin .f32 x = true) : numX x = x := by unfold numX; rw [if_pos h]
theorem says_none : saysX true none = fz ∧ saysOk true none = false := ⟨rfl, rfl⟩
theorem c_hard_at {w : World} {n c s d : Nat} {A : Option Addr} {L : List Ly} {S D : Option Nat} (h : RdL w A n L) (hn : n ≤ 1048576) (fs : Fl .f32 s S) (fd : Fl .f32 d D) (hV : fvalid L S D = true) (i : Int) (j : Nat) (hi : i = (j : Int)) (hj : j ≤ n) :
    Calls Try.prog 124 #[.agg #[.slice A n c, .float .f32 s, .float .f32 d], .int .i64 i] w fun e w' => ∃ r, e = .returned (.tuple #[.float .f32 r, .bool (ffin .f32 (fhard L S D j))]) ∧ Fl .f32 r (numX (fhard L S D j)) ∧ Ext w w' := by
  subst hi
  have := c_impl_HardnessAt (c := c) (j : Int) h hn fs fd
  rw [hV, inLay_yes hj, Int.toNat_natCast] at this
  exact this
set_option linter.unusedSimpArgs false in
set_option maxRecDepth 20000 in
set_option maxHeartbeats 600000 in
theorem c_hardnessAround_no {w : World} {n c s d : Nat} {A : Option Addr} {L : List Ly} {S D : Option Nat} (i : Int) (h : RdL w A n L) (fs : Fl .f32 s S) (fd : Fl .f32 d D) (hno : (fvalid L S D && inBou i n) = false) :
    Calls Try.prog 113 #[.agg #[.slice A n c, .float .f32 s, .float .f32 d], .int .i64 i] w fun e w' => e = .returned (.tuple #[.float .f32 0, .float .f32 0, .bool false]) ∧ Ext w w' := by
  go_enter Try.func113, Try.ntmps113
  go_wp2_with (go_at_call 103; refine Calls.mono (c_layersTo_no i (h.ext (by repeat (first | assumption | exact Ext.refl _ | apply Ext.drewN | apply Ext.drew | apply Ext.alloc | (refine Ext.trans ?_ (by assumption)) | (refine Ext.set ?_ (by dsimp only; omega) _)))) fs fd hno) ?_; rintro e w1 ⟨rfl, hx1⟩)
  exact bodyPost_ret (v := .tuple #[.float .f32 0, .float .f32 0, .bool false]) (by simp [results, Try.results113, go_sem]) rfl ⟨rfl, (by repeat (first | assumption | exact Ext.refl _ | apply Ext.drewN | apply Ext.drew | apply Ext.alloc | (refine Ext.trans ?_ (by assumption)) | (refine Ext.set ?_ (by dsimp only; omega) _)))⟩
set_option linter.unusedSimpArgs false in
set_option maxRecDepth 20000 in
set_option maxHeartbeats 600000 in
theorem c_hardnessAround_yes {w : World} {n s d k : Nat} {A : Option Addr} {L : List Ly} {S D : Option Nat} (h : RdL w A n L) (hn : n ≤ 1048576) (fs : Fl .f32 s S) (fd : Fl .f32 d D) (hV : fvalid L S D = true) (hk : k + 1 ≤ n) :
    Calls Try.prog 113 #[.agg #[.slice A n n, .float .f32 s, .float .f32 d], .int .i64 (k : Int)] w fun e w' => ∃ r1 r2, e = .returned (.tuple #[.float .f32 r1, .float .f32 r2, .bool (ffin .f32 (fhard L S D k) && ffin .f32 (fhard L S D (k + 1)))]) ∧ Fl .f32 r1 (numX (fhard L S D k)) ∧ Fl .f32 r2 (numX (fhard L S D (k + 1))) ∧ Ext w w' := by
  have hbox : GpAt (w.alloc (.cells #[.slice A n n, .float .f32 s, .float .f32 d] 31)) w.heap.size A n n s d := GpAt.blk (t := 31) (by repeat (first | (refine al_at ?_ ?_ <;> first | rfl | (simp only [al_size] <;> omega)) | apply al_old))
  have n3 : (k : Int) + 1 ≤ (n : Int) := by omega
  have n4 : (k : Int) < (n : Int) := by omega
  have hh : ∀ (i : Int) (j : Nat), i = (j : Int) → j ≤ n → ∀ W : World, Ext w W → Calls Try.prog 124 #[.agg #[.slice A n n, .float .f32 s, .float .f32 d], .int .i64 i] W fun e w' => ∃ r, e = .returned (.tuple #[.float .f32 r, .bool (ffin .f32 (fhard L S D j))]) ∧ Fl .f32 r (numX (fhard L S D j)) ∧ Ext W w' :=
    fun i j hi hj W hx => c_hard_at (h.ext hx) hn fs fd hV i j hi hj
  generalize fhard L S D = F at hh ⊢
  cases hF : ffin .f32 (F k)
  all_goals
    simp only [Bool.true_and, Bool.false_and]
    go_enter Try.func113, Try.ntmps113
    go_wp2_with (first | (go_at_call 103; refine Calls.mono (c_layersTo_yes (h.ext (by repeat (first | assumption | exact Ext.refl _ | apply Ext.drewN | apply Ext.drew | apply Ext.alloc | (refine Ext.trans ?_ (by assumption)) | (refine Ext.set ?_ (by dsimp only; omega) _)))) hn fs fd hV hk) ?_; rintro e w1 ⟨rfl, hx1⟩; obtain ⟨p0, p1, p2, _⟩ := hbox.ext (w' := w1) (by repeat (first | assumption | exact Ext.refl _ | apply Ext.drewN | apply Ext.drew | apply Ext.alloc | (refine Ext.trans ?_ (by assumption)) | (refine Ext.set ?_ (by dsimp only; omega) _)))) | (go_at_call 124; refine Calls.mono (hh _ _ (by first | exact (Int.natCast_add _ 1).symm | exact rfl) (by omega) _ (by repeat (first | assumption | exact Ext.refl _ | apply Ext.drewN | apply Ext.drew | apply Ext.alloc | (refine Ext.trans ?_ (by assumption)) | (refine Ext.set ?_ (by dsimp only; omega) _)))) ?_; (first | (rw [hF]; rintro e w1 ⟨r1, rfl, hr1, hx1⟩) | rintro e w1 ⟨r2, rfl, hr2, hx1⟩); obtain ⟨p0, p1, p2, _⟩ := hbox.ext (w' := w1) (by repeat (first | assumption | exact Ext.refl _ | apply Ext.drewN | apply Ext.drew | apply Ext.alloc | (refine Ext.trans ?_ (by assumption)) | (refine Ext.set ?_ (by dsimp only; omega) _)))))
    first | exact bodyPost_ret (v := .tuple #[.float .f32 r1, .float .f32 r2, .bool false]) (by simp [results, Try.results113, go_sem]) rfl ⟨_, _, rfl, hr1, hr2, (by repeat (first | assumption | exact Ext.refl _ | apply Ext.drewN | apply Ext.drew | apply Ext.alloc | (refine Ext.trans ?_ (by assumption)) | (refine Ext.set ?_ (by dsimp only; omega) _)))⟩ | exact bodyPost_ret (v := .tuple #[.float .f32 r1, .float .f32 r2, .bool (ffin .f32 (F (k + 1)))]) (by simp [results, Try.results113, go_sem]) rfl ⟨_, _, rfl, hr1, hr2, (by repeat (first | assumption | exact Ext.refl _ | apply Ext.drewN | apply Ext.drew | apply Ext.alloc | (refine Ext.trans ?_ (by assumption)) | (refine Ext.set ?_ (by dsimp only; omega) _)))⟩
set_option maxRecDepth 20000 in
set_option maxHeartbeats 1000000 in
theorem c_impl_ReflectStraight {w : World} {n s d : Nat} {A : Option Addr} {L : List Ly} {S D : Option Nat} (i : Int) (h : RdL w A n L) (hn : n ≤ 1048576) (fs : Fl .f32 s S) (fd : Fl .f32 d D) :
    Calls Try.prog 81 #[.agg #[.slice A n n, .float .f32 s, .float .f32 d], .int .i64 i] w fun e w' => ∃ r, e = .returned (.tuple #[.float .f32 r, .bool (saysOk (fvalid L S D && inBou i n) (fstraight L S D i.toNat))]) ∧ Fl .f32 r (saysX (fvalid L S D && inBou i n) (fstraight L S D i.toNat)) ∧ Ext w w' := by
  cases hB : (fvalid L S D && inBou i n)
  · simp only [saysOk, saysX, Bool.false_and, Bool.false_eq_true, if_false]
    go_enter Try.func81, Try.ntmps81
    go_wp2_with (go_at_call 113; refine Calls.mono (c_hardnessAround_no i (h.ext (by repeat (first | assumption | exact Ext.refl _ | apply Ext.drewN | apply Ext.drew | apply Ext.alloc | (refine Ext.trans ?_ (by assumption)) | (refine Ext.set ?_ (by dsimp only; omega) _)))) fs fd hB) ?_; rintro e w1 ⟨rfl, hx1⟩)
    go_ret2
    exact ⟨_, rfl, fl_fz, (by repeat (first | assumption | exact Ext.refl _ | apply Ext.drewN | apply Ext.drew | apply Ext.alloc | (refine Ext.trans ?_ (by assumption)) | (refine Ext.set ?_ (by dsimp only; omega) _)))⟩
  · obtain ⟨k, rfl, hk⟩ := inBou_nat (i := i) (n := n) (by rw [Bool.and_eq_true] at hB; exact hB.2)
    have hV : fvalid L S D = true := by rw [Bool.and_eq_true] at hB; exact hB.1
    rw [Int.toNat_natCast]
    cases hF : (ffin .f32 (fhard L S D k) && ffin .f32 (fhard L S D (k + 1)))
    · have hno : fstraight L S D k = none := straight_none _ _ hF
      rw [hno, says_none.1, says_none.2]
      go_enter Try.func81, Try.ntmps81
      go_wp2_with (go_at_call 113; refine Calls.mono (c_hardnessAround_yes (h.ext (by repeat (first | assumption | exact Ext.refl _ | apply Ext.drewN | apply Ext.drew | apply Ext.alloc | (refine Ext.trans ?_ (by assumption)) | (refine Ext.set ?_ (by dsimp only; omega) _)))) hn fs fd hV hk) ?_; rw [hF]; rintro e w1 ⟨r1, r2, rfl, hr1, hr2, hx1⟩)
      go_ret2
      exact ⟨_, rfl, fl_fz, (by repeat (first | assumption | exact Ext.refl _ | apply Ext.drewN | apply Ext.drew | apply Ext.alloc | (refine Ext.trans ?_ (by assumption)) | (refine Ext.set ?_ (by dsimp only; omega) _)))⟩
    · simp only [saysOk, saysX, Bool.true_and, if_true]
      have e1 : numX (fhard L S D k) = fhard L S D k := numX_fin (by rw [Bool.and_eq_true] at hF; exact hF.1)
      have e2 : numX (fhard L S D (k + 1)) = fhard L S D (k + 1) := numX_fin (by rw [Bool.and_eq_true] at hF; exact hF.2)
      have E1 := Lib.hid e1
      have E2 := Lib.hid e2
      clear e1 e2
      go_enter Try.func81, Try.ntmps81
      go_wp2_with (first | (go_at_call 113; refine Calls.mono (c_hardnessAround_yes (h.ext (by repeat (first | assumption | exact Ext.refl _ | apply Ext.drewN | apply Ext.drew | apply Ext.alloc | (refine Ext.trans ?_ (by assumption)) | (refine Ext.set ?_ (by dsimp only; omega) _)))) hn fs fd hV hk) ?_; rw [hF]; rintro e w1 ⟨r1, r2, rfl, hr1, hr2, hx1⟩; rw [E1.out] at hr1; rw [E2.out] at hr2) | (apply upon_fop rfl; (first | assumption | exact Fl.const (of_decide_eq_true (by kernel_rfl))); (first | assumption | exact Fl.const (of_decide_eq_true (by kernel_rfl))); intro r n hr) | (go_at_call 71; refine Calls.mono (c_finiteNumber (X := fstraight L S D k) (by assumption) _) ?_; rintro e w1 ⟨r3, rfl, hr3, n1, rfl⟩))
      go_ret2
      exact ⟨_, rfl, by assumption, (by repeat (first | assumption | exact Ext.refl _ | apply Ext.drewN | apply Ext.drew | apply Ext.alloc | (refine Ext.trans ?_ (by assumption)) | (refine Ext.set ?_ (by dsimp only; omega) _)))⟩
end Go.Proofs.Ytkoiimjpalhgbab
