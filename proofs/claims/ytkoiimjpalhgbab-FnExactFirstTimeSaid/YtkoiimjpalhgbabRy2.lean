/- Contracts: rays down on the program's side. Condition: the layers are read. -/
import Derived.Test.YtkoiimjpalhgbabRy
namespace Go.Proofs.Ytkoiimjpalhgbab
open Go.RowKit Ieee

theorem rayC_get {L : List Ly} {P : Option Nat} : ∀ {m j : Nat}, rayC L P m = true → j < m → lt1 (fsine P (L.getD j default).s) = true
  | m + 1, j, h, hj => by
    unfold rayC at h
    rw [Bool.and_eq_true] at h
    by_cases hjm : j = m
    · subst hjm; exact h.2
    · exact rayC_get h.1 (by omega)
set_option maxRecDepth 20000 in
set_option maxHeartbeats 400000 in
theorem c_mulNumbers {x y : Nat} {X Y : Option Nat} (fx : Fl .f32 x X) (fy : Fl .f32 y Y) (w : World) :
    Calls Try.prog 82 #[.float .f32 x, .float .f32 y] w fun e w' => ∃ r, e = .returned (.float .f32 r) ∧ Fl .f32 r (fop .mul .f32 X Y) ∧ Dr w w' := by
  go_enter Try.func82, Try.ntmps82
  go_wp2_with ((apply upon_fop rfl; (first | assumption | exact Fl.const (of_decide_eq_true (by kernel_rfl))); (first | assumption | exact Fl.const (of_decide_eq_true (by kernel_rfl))); intro r n hr))
  go_ret
  exact ⟨_, rfl, by assumption, _, rfl⟩
set_option maxRecDepth 20000 in
set_option maxHeartbeats 1000000 in
theorem c_wayThrough {r0 r1 r2 r3 p c : Nat} {y : Ly} {P C : Option Nat} (q0 : Fl .f32 r0 y.t) (q1 : Fl .f32 r1 y.s) (fp : Fl .f32 p P) (fc : Fl .f32 c C) (w : World) :
    Calls Try.prog 105 #[.agg #[.float .f32 r0, .float .f32 r1, .float .f32 r2, .float .f32 r3], .float .f32 p, .float .f32 c] w fun e w' => ∃ r, e = .returned (.float .f32 r) ∧ Fl .f32 r (fop .quo .f32 (fop .mul .f32 y.t (fsine P y.s)) C) ∧ Ext w w' := by
  have hsin : ∀ w0 : World, Calls Try.prog 121 #[.float .f32 r1, .float .f32 p] w0 fun e w' => ∃ r, e = .returned (.float .f32 r) ∧ Fl .f32 r (fsine P y.s) ∧ Dr w0 w' := by
    intro w0
    go_enter Try.func121, Try.ntmps121
    go_wp2_with (go_at_call 82; refine Calls.mono (c_mulNumbers fp q1 _) ?_; rintro e w1 ⟨r, rfl, hr, n9, rfl⟩)
    go_ret
    exact ⟨_, rfl, by assumption, _, rfl⟩
  go_enter Try.func105, Try.ntmps105
  go_wp2_with (fail)
  go_region_with (first | (go_at_call 121; refine Calls.mono (hsin _) ?_; rintro e w1 ⟨r5, rfl, hr5, n9, rfl⟩) | (go_at_call 82; refine Calls.mono (c_mulNumbers q0 (by assumption) _) ?_; rintro e w1 ⟨r6, rfl, hr6, n9, rfl⟩) | (apply upon_fop rfl; (first | assumption | exact Fl.const (of_decide_eq_true (by kernel_rfl))); (first | assumption | exact Fl.const (of_decide_eq_true (by kernel_rfl))); intro r n hr))
  all_goals
    go_wp2_with (fail)
    go_ret
    exact ⟨_, rfl, by assumption, (by repeat (first | assumption | exact Ext.refl _ | apply Ext.drewN | apply Ext.drew | apply Ext.alloc | (refine Ext.trans ?_ (by assumption)) | (refine Ext.set ?_ (by dsimp only; omega) _)))⟩
set_option maxRecDepth 20000 in
set_option maxHeartbeats 4000000 in
theorem c_down {w : World} {m c p : Nat} {A : Option Addr} {L : List Ly} {P : Option Nat} (h : RdL w A m L) (fp : Fl .f32 p P) (hm1 : 1 ≤ m) (hm : m ≤ 1048576) :
    Calls Try.prog 56 #[.agg #[.slice A m c], .float .f32 p] w fun e w' => ∃ r q, e = .returned (.tuple #[.float .f32 r, .float .f32 q, .bool (ge0 P && (rayC L P m && rayFin L P m))]) ∧ Fl .f32 r (giveX (ge0 P && (rayC L P m && rayFin L P m)) (rayT L P m)) ∧ Fl .f32 q (giveX (ge0 P && (rayC L P m && rayFin L P m)) (rayW L P m)) ∧ Ext w w' := by
  go_enter Try.func56, Try.ntmps56
  go_wp2_with (fail)
  go_loopw [7, 8, 16] (fun tm wy i wr => ∃ j r q : Nat, j ≤ m ∧ i = .int .i64 j ∧ tm = .float .f32 r ∧ Fl .f32 r (rayT L P j) ∧ wy = .float .f32 q ∧ Fl .f32 q (rayW L P j) ∧ (j ≠ 0 → ge0 P = true) ∧ rayC L P j = true ∧ Ext w wr) (fun _ _ i _ => m - (intOf i).toNat)
  case atStart => exact ⟨0, 0, 0, Nat.zero_le _, rfl, rfl, fl_fz, rfl, fl_fz, fun hh => absurd rfl hh, rfl, (by repeat (first | assumption | exact Ext.refl _ | apply Ext.drewN | apply Ext.drew | apply Ext.alloc | (refine Ext.trans ?_ (by assumption)) | (refine Ext.set ?_ (by dsimp only; omega) _)))⟩
  case round =>
    obtain ⟨j, r, q, hj, rfl, rfl, hr, rfl, hq, hg, hc, hx⟩ := hrel
    have HC := Lib.hid hc
    have HG := Lib.hid hg
    clear hc hg
    by_cases hlt : j < m
    · obtain ⟨b', off, r0, r1, r2, r3, rfl, hb, hy⟩ := (h.ext hx).cell (k := j) hlt
      have hT : rayT L P (j + 1) = fop .add .f32 (rayT L P j) (legT P (L.getD j default)) := rfl
      have hW : rayW L P (j + 1) = fop .add .f32 (rayW L P j) (legW P (L.getD j default)) := rfl
      have hC : rayC L P (j + 1) = (rayC L P j && lt1 (fsine P (L.getD j default).s)) := rfl
      have hno : lt1 (fsine P (L.getD j default).s) = false → rayC L P m = false := fun hf => rayC_no hf m hlt
      generalize L.getD j default = y at hy hT hW hC hno
      have HT := Lib.hid hT
      have HW := Lib.hid hW
      have HCC := Lib.hid hC
      have HNO := Lib.hid hno
      clear hT hW hC hno
      have hc0 := hy.c0
      have hc1 := hy.c1
      have hc2 := hy.c2
      have hc3 := hy.c3
      have q0 := hy.f0
      have q1 := hy.f1
      have n2 : (j : Int) < (m : Int) := by omega
      cases hX : (ge0 P && lt1 (fsine P y.s))
      · have hend : (ge0 P && (rayC L P m && rayFin L P m)) = false := by
          cases hP : ge0 P
          · rfl
          · rw [hP, Bool.true_and] at hX
            rw [HNO.out hX]; rfl
        have HE := Lib.hid hend
        clear hend
        go_wp2_with (go_at_call 104; refine Calls.mono (c_cosineOf q1 fp _) ?_; rw [hX]; rintro e w1 ⟨r9, rfl, hr9, n9, rfl⟩)
        exact bodyPost_ret (v := .tuple #[.float .f32 0, .float .f32 0, .bool false]) (by simp [results, Try.results56, go_sem]) rfl ⟨0, 0, by rw [HE.out], by rw [HE.out]; exact fl_fz, by rw [HE.out]; exact fl_fz, (by repeat (first | assumption | exact Ext.refl _ | apply Ext.drewN | apply Ext.drew | apply Ext.alloc | (refine Ext.trans ?_ (by assumption)) | (refine Ext.set ?_ (by dsimp only; omega) _)))⟩
      · have hP : ge0 P = true := by rw [Bool.and_eq_true] at hX; exact hX.1
        have hY : lt1 (fsine P y.s) = true := by rw [Bool.and_eq_true] at hX; exact hX.2
        have HP := Lib.hid hP
        have HY := Lib.hid hY
        clear hP hY
        go_wp2_with (go_at_call 104; refine Calls.mono (c_cosineOf q1 fp _) ?_; rw [hX]; rintro e w1 ⟨r9, rfl, hr9, n9, rfl⟩; simp only [giveX, if_true] at hr9)
        go_region_with (first | (go_at_call 82; refine Calls.mono (c_mulNumbers q1 hr9 _) ?_; rintro e w1 ⟨r6, rfl, hr6, n9, rfl⟩) | (apply upon_fop rfl; (first | assumption | exact Fl.const (of_decide_eq_true (by kernel_rfl))); (first | assumption | exact Fl.const (of_decide_eq_true (by kernel_rfl))); intro r n hr))
        all_goals
          go_wp2_with (first | (go_at_call 105; refine Calls.mono (c_wayThrough q0 q1 fp hr9 _) ?_; rintro e w1 ⟨r7, rfl, hr7, hx7⟩) | (apply upon_fop rfl; (first | assumption | exact Fl.const (of_decide_eq_true (by kernel_rfl))); (first | assumption | exact Fl.const (of_decide_eq_true (by kernel_rfl))); intro r n hr))
          exact ⟨⟨j + 1, _, _, by omega, by go_num, rfl, by rw [HT.out]; assumption, rfl, by rw [HW.out]; assumption, fun _ => HP.out, by rw [HCC.out, HC.out, HY.out]; rfl, (by repeat (first | assumption | exact Ext.refl _ | apply Ext.drewN | apply Ext.drew | apply Ext.alloc | (refine Ext.trans ?_ (by assumption)) | (refine Ext.set ?_ (by dsimp only; omega) _)))⟩, by simp [intOf]; omega⟩
    · have hjm : j = m := by omega
      subst hjm
      have hP : ge0 P = true := HG.out (by omega)
      have e0 : (ge0 P && (rayC L P j && rayFin L P j)) = (ffin .f32 (rayT L P j) && ffin .f32 (rayW L P j)) := by rw [hP, HC.out]; rfl
      have E0 := Lib.hid e0
      clear e0 hP
      cases hT : ffin .f32 (rayT L P j) <;> cases hW : ffin .f32 (rayW L P j)
      all_goals
        go_wp2_with (go_at_call 69; refine Calls.mono (c_impl_IsFinite (by assumption) _) ?_; (first | rw [hT] | rw [hW]); rintro e w1 ⟨rfl, n9, rfl⟩)
        first | exact bodyPost_ret (v := .tuple #[.float .f32 0, .float .f32 0, .bool false]) (by simp [results, Try.results56, go_sem]) rfl ⟨0, 0, by rw [E0.out, hT, hW]; rfl, by rw [E0.out, hT, hW]; exact fl_fz, by rw [E0.out, hT, hW]; exact fl_fz, (by repeat (first | assumption | exact Ext.refl _ | apply Ext.drewN | apply Ext.drew | apply Ext.alloc | (refine Ext.trans ?_ (by assumption)) | (refine Ext.set ?_ (by dsimp only; omega) _)))⟩ | exact bodyPost_ret (v := .tuple #[.float .f32 r, .float .f32 q, .bool true]) (by simp [results, Try.results56, go_sem]) rfl ⟨r, q, by rw [E0.out, hT, hW]; rfl, by rw [E0.out, hT, hW]; exact hr, by rw [E0.out, hT, hW]; exact hq, (by repeat (first | assumption | exact Ext.refl _ | apply Ext.drewN | apply Ext.drew | apply Ext.alloc | (refine Ext.trans ?_ (by assumption)) | (refine Ext.set ?_ (by dsimp only; omega) _)))⟩
end Go.Proofs.Ytkoiimjpalhgbab
