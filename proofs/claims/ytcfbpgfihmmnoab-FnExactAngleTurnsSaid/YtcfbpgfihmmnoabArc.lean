/- Contracts of the functions that reckon the angle of a tangent. No condition. -/
import Derived.Test.YtcfbpgfihmmnoabArcBd
namespace Go.Proofs.Ytcfbpgfihmmnoab
open Go.RowKit Ieee
theorem farc_round {U : Option Nat} {r : Nat} (j : Nat) (n : Int) (hn : 15 - 2 * (j : Int) = n) (hr : Fl .f64 r (fop .sub .f64 (fop .quo .f64 k1 (fl .f64 (floatOfInt .f64 n))) (fop .mul .f64 U (farcpoly U j)))) : Fl .f64 r (farcpoly U (j + 1)) := by
  subst hn; exact hr
set_option maxHeartbeats 1000000 in
theorem c_arcOf {x : Nat} {X : Option Nat} (h : Fl .f64 x X) (w : World) :
    Calls Try.prog 56 #[.float .f64 x] w fun e w' => ∃ r, e = .returned (.float .f64 r) ∧ Fl .f64 r (farc X) ∧ Dr w w' := by
  go_enter Try.func56, Try.ntmps56
  go_wp2_with (fail)
  go_loopw [0, 6] (fun t k wr => ∃ j tb : Nat, j ≤ 3 ∧ t = .float .f64 tb ∧ k = .int .i64 ((j : Nat) : Int) ∧ Fl .f64 tb (fstepN X j) ∧ Dr w wr) (fun _ k _ => (3 - intOf k).toNat)
  case atStart => exact ⟨0, _, by omega, rfl, rfl, h, 0, rfl⟩
  case round =>
    obtain ⟨j, tb, hj, rfl, rfl, ht, m, rfl⟩ := hrel
    by_cases hlt : j < 3
    · have hj3 : j = 0 ∨ j = 1 ∨ j = 2 := by omega
      rcases hj3 with rfl | rfl | rfl
      all_goals
        go_wp2_with (first | (apply upon_fop rfl; (first | assumption | exact Fl.const (of_decide_eq_true (by kernel_rfl))); (first | assumption | exact Fl.const (of_decide_eq_true (by kernel_rfl))); intro r n hr) | (go_at_call 64; refine Calls.mono (c_Sqrt (by assumption) _) ?_; rintro e w' ⟨q, rfl, hq, nq, rfl⟩) | go_in)
        exact ⟨⟨_ + 1, _, by omega, rfl, by go_num, hr, _, rfl⟩, by simp [intOf]⟩
    · have hj3 : j = 3 := by omega
      subst hj3
      generalize hT : fstepN X 3 = T at *
      go_wp2_with (fail)
      (apply upon_fop rfl; (first | assumption | exact Fl.const (of_decide_eq_true (by kernel_rfl))); (first | assumption | exact Fl.const (of_decide_eq_true (by kernel_rfl))))
      intro u nu hu
      generalize hU : fop .mul .f64 T T = U at *
      go_wp2_with (fail)
      go_loopw [4, 5] (fun p k wr => ∃ j pb kb : Nat, j ≤ 8 ∧ p = .float .f64 pb ∧ k = .float .f64 kb ∧ Fl .f64 pb (farcpoly U j) ∧ Fl .f64 kb (fl .f64 (kodd j)) ∧ Dr w wr) (fun _ k _ => codd k)
      case atStart => exact ⟨0, _, _, by omega, rfl, rfl, flK (by omega), ⟨by decide +kernel, by decide +kernel⟩, _, rfl⟩
      case round =>
        obtain ⟨j, pb, kb, hj, rfl, rfl, hp, hk, m, rfl⟩ := hrel
        have hge : (FloatKind.f64.format.order kb 4607182418800017408 == some .gt || FloatKind.f64.format.order kb 4607182418800017408 == some .eq) = fge (fl .f64 (kodd j)) k1 := by
          rw [hk.order (flK (by omega))]; rfl
        by_cases hlt : j < 8
        · have hc := kodd_ge j hlt
          rw [hc] at hge
          clear hc
          go_wp2_with ((apply upon_fop rfl; (first | assumption | exact Fl.const (of_decide_eq_true (by kernel_rfl))); (first | assumption | exact Fl.const (of_decide_eq_true (by kernel_rfl))); intro r n hr))
          go_tidy
          rename_i rp np hrp
          refine ⟨⟨j + 1, _, _, by omega, rfl, rfl, hrp, ?_, _, rfl⟩, ?_⟩
          · rw [← kodd_less j hlt]
            exact hr
          · have h1 : fl .f64 r = fl .f64 (kodd (j + 1)) := by rw [← kodd_less j hlt]; exact hr.eq
            have h2 := hk.eq
            rw [(kodd_lt _ (by omega)).2] at h1 h2
            rw [← (fl_some h1).1, ← (fl_some h2).1]
            exact codd_less j hlt
        · have hj8 : j = 8 := by omega
          have hc := kodd_end
          rw [hj8] at hge hp
          rw [hc] at hge
          clear hc
          go_wp2_with (first | (apply upon_fop rfl; (first | assumption | exact Fl.const (of_decide_eq_true (by kernel_rfl))); (first | assumption | exact Fl.const (of_decide_eq_true (by kernel_rfl))); intro r n hr) | go_in)
          go_ret
          exact ⟨r, rfl, by unfold farc; rw [hT, hU]; simp only [farc3]; exact hr, _, rfl⟩
set_option maxHeartbeats 400000 in
theorem c_flatAngle {a b : Nat} {A B : Option Nat} (ha : Fl .f64 a A) (hb : Fl .f64 b B) (over : Bool) (ho : (FloatKind.f64.format.order a b == some .gt) = over) (w : World) :
    Calls Try.prog 39 #[.float .f64 a, .float .f64 b] w fun e w' => ∃ r, e = .returned (.float .f64 r) ∧ Fl .f64 r (fflat over A B) ∧ Dr w w' := by
  cases over
  all_goals
    go_enter Try.func39, Try.ntmps39
    go_wp2_with (first | (apply upon_fop rfl; (first | assumption | exact Fl.const (of_decide_eq_true (by kernel_rfl))); (first | assumption | exact Fl.const (of_decide_eq_true (by kernel_rfl))); intro r n hr) | (go_at_call 56; refine Calls.mono (c_arcOf (by assumption) _) ?_; rintro e w' ⟨q, rfl, hq, nq, rfl⟩))
    go_ret
    first | exact ⟨q, rfl, hq, _, rfl⟩ | exact ⟨r, rfl, hr, _, rfl⟩
set_option maxRecDepth 4000 in
set_option maxHeartbeats 2000000 in
theorem c_l01AngleWide {y x : Nat} {Y X : Option Nat} (hy : Fl .f64 y Y) (hx : Fl .f64 x X) (hfy : ffin .f64 Y = true) (hfx : ffin .f64 X = true) (zx zy xneg yneg over : Bool) (hz : (zx && zy) = false)
    (hzx : (FloatKind.f64.format.order x 0 == some .eq) = zx) (hzy : (FloatKind.f64.format.order y 0 == some .eq) = zy) (hxn : (FloatKind.f64.format.order x 0 == some .lt) = xneg) (hyn : (FloatKind.f64.format.order y 0 == some .lt) = yneg)
    {A B : Option Nat} (hA : Fl .f64 (y % 9223372036854775808) A) (hB : Fl .f64 (x % 9223372036854775808) B) (ho : (FloatKind.f64.format.order (y % 9223372036854775808) (x % 9223372036854775808) == some .gt) = over) (w : World) :
    Calls Try.prog 55 #[.float .f64 y, .float .f64 x] w fun e w' => ∃ r, e = .returned (.float .f64 r) ∧ Fl .f64 r (fang xneg yneg (fflat over A B)) ∧ Dr w w' := by
  have Hfy := Lib.hid hfy
  have Hfx := Lib.hid hfx
  have Hxn := Lib.hid hxn
  have Hyn := Lib.hid hyn
  have Ho := Lib.hid ho
  clear hfy hfx hxn hyn ho
  have hcase : zx = false ∨ (zx = true ∧ zy = false) := by cases zx <;> cases zy <;> simp_all
  rcases hcase with rfl | ⟨rfl, rfl⟩
  all_goals
    clear hz
    go_enter Try.func55, Try.ntmps55
    go_wp2_with (fail)
    (apply upon_fop rfl; (first | assumption | exact Fl.const (of_decide_eq_true (by kernel_rfl))); (first | assumption | exact Fl.const (of_decide_eq_true (by kernel_rfl))))
    intro d nd hd
    have hz1 := self_zero hy Hfy.out hd
    clear hd
    go_wp2_with (fail)
    (apply upon_fop rfl; (first | assumption | exact Fl.const (of_decide_eq_true (by kernel_rfl))); (first | assumption | exact Fl.const (of_decide_eq_true (by kernel_rfl))))
    intro d2 nd2 hd2
    have hz2 := self_zero hx Hfx.out hd2
    clear hd2
    go_upto_if 38 with (first | (go_at_call 40; refine Calls.mono (c_Abs _ hy.lt _) ?_; rintro e w' ⟨rfl, rfl⟩) | (go_at_call 40; refine Calls.mono (c_Abs _ hx.lt _) ?_; rintro e w' ⟨rfl, rfl⟩))
    rw [Ho.out]
    clear Ho
    generalize y % 9223372036854775808 = a at *
    generalize x % 9223372036854775808 = b at *
    obtain ⟨Q, hQ⟩ : ∃ Q, fratio over A B = Q := ⟨_, rfl⟩
    have HQ := Lib.hid hQ
    clear hQ
    go_cut [8] (fun s wx => ∃ r m, s = .float .f64 r ∧ Fl .f64 r Q ∧ wx = w.drewN m)
    case first =>
      cases over
      · rw [fratio_f] at HQ
        clear Hxn Hyn hzx hzy hz1 hz2
        go_wp2_with ((apply upon_fop rfl; (first | assumption | exact Fl.const (of_decide_eq_true (by kernel_rfl))); (first | assumption | exact Fl.const (of_decide_eq_true (by kernel_rfl))); intro r n hr))
        go_meet
        exact ⟨r, _, rfl, by rw [← HQ.out]; exact hr, rfl⟩
      · rw [fratio_t] at HQ
        clear Hxn Hyn hzx hzy hz1 hz2
        go_wp2_with ((apply upon_fop rfl; (first | assumption | exact Fl.const (of_decide_eq_true (by kernel_rfl))); (first | assumption | exact Fl.const (of_decide_eq_true (by kernel_rfl))); intro r n hr))
        go_meet
        exact ⟨r, _, rfl, by rw [← HQ.out]; exact hr, rfl⟩
    case rest =>
    obtain ⟨r0, m0, rfl, hr0, rfl⟩ := hcut
    go_wp2_with (fail)
    go_loopw [8, 9] (fun t k wr => ∃ j tb : Nat, j ≤ 3 ∧ t = .float .f64 tb ∧ k = .int .i64 ((j : Nat) : Int) ∧ Fl .f64 tb (fstepN Q j) ∧ Dr w wr) (fun _ k _ => (3 - intOf k).toNat)
    case atStart => exact ⟨0, _, by omega, rfl, rfl, hr0, _, rfl⟩
    case round =>
      obtain ⟨j, tb, hj, rfl, rfl, ht, m, rfl⟩ := hrel
      by_cases hlt : j < 3
      · have hj3 : j = 0 ∨ j = 1 ∨ j = 2 := by omega
        rcases hj3 with rfl | rfl | rfl
        all_goals
          go_wp2_with (first | (apply upon_fop rfl; (first | assumption | exact Fl.const (of_decide_eq_true (by kernel_rfl))); (first | assumption | exact Fl.const (of_decide_eq_true (by kernel_rfl))); intro r n hr) | (go_at_call 64; refine Calls.mono (c_Sqrt (by assumption) _) ?_; rintro e w' ⟨q, rfl, hq, nq, rfl⟩))
          exact ⟨⟨_ + 1, _, by omega, rfl, by go_num, hr, _, rfl⟩, by simp [intOf]⟩
      · have hj3 : j = 3 := by omega
        subst hj3
        generalize hT : fstepN Q 3 = T at *
        go_wp2_with (fail)
        (apply upon_fop rfl; (first | assumption | exact Fl.const (of_decide_eq_true (by kernel_rfl))); (first | assumption | exact Fl.const (of_decide_eq_true (by kernel_rfl))))
        intro u nu hu
        generalize hU : fop .mul .f64 T T = U at *
        go_wp2_with (fail)
        go_loopw [11, 12] (fun p k wr => ∃ j pb : Nat, j ≤ 8 ∧ p = .float .f64 pb ∧ k = .int .i64 (15 - 2 * (j : Int)) ∧ Fl .f64 pb (farcpoly U j) ∧ Dr w wr) (fun _ k _ => (intOf k + 1).toNat)
        case atStart => exact ⟨0, _, by omega, rfl, rfl, flK (by omega), _, rfl⟩
        case round =>
          obtain ⟨j, pb, hj, rfl, rfl, hp, m, rfl⟩ := hrel
          by_cases hlt : j < 8
          · have hj8 : j = 0 ∨ j = 1 ∨ j = 2 ∨ j = 3 ∨ j = 4 ∨ j = 5 ∨ j = 6 ∨ j = 7 := by omega
            rcases hj8 with rfl | rfl | rfl | rfl | rfl | rfl | rfl | rfl
            all_goals
              go_wp2_with ((apply upon_fop rfl; (first | assumption | exact Fl.const (of_decide_eq_true (by kernel_rfl))); (first | assumption | exact Fl.const (of_decide_eq_true (by kernel_rfl))); intro r n hr))
              exact ⟨⟨_ + 1, _, by omega, rfl, by go_num, farc_round _ _ (by go_num) hr, _, rfl⟩, by simp [intOf]⟩
          · have hj8 : j = 8 := by omega
            subst hj8
            have hxn := Hxn.out
            have hyn := Hyn.out
            cases over <;> cases xneg <;> cases yneg
            all_goals
              go_wp2_with ((apply upon_fop rfl; (first | assumption | exact Fl.const (of_decide_eq_true (by kernel_rfl))); (first | assumption | exact Fl.const (of_decide_eq_true (by kernel_rfl))); intro r n hr))
              go_ret
              exact ⟨_, rfl, by
                rw [fflat_eq HQ.out]; unfold farc; rw [hT, hU]
                simp only [fang, farc3, if_true, Bool.false_eq_true, if_false]
                first | exact hr | exact fneg_fl hr, _, rfl⟩
end Go.Proofs.Ytcfbpgfihmmnoab
