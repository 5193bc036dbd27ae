/- Contracts: phasors, on both sides. No condition. -/
import Derived.Test.YthgmkipifolbfacPh2
import Derived.Test.YthgmkipifolbfacCx
import Derived.Test.YthgmkipifolbfacLaw
import Derived.Lib.Hide
import Derived.Deep.RegionWith
namespace Go.Proofs.Ythgmkipifolbfac
open Go.RowKit Ieee

theorem fits_S {G : Option Nat} (h : SineOk G) : Fits .f64 .f32 (phS G) ∧ Fits .f64 .f32 (fop .sub .f64 (fl .f64 0) (phS G)) := by
  obtain ⟨y, rfl, _, _, _, _, hb⟩ := h
  have h0 : Bd (fl .f64 0) 1200 := by
    intro b hb
    have e : fl .f64 0 = some 0 := fin_nil.fl
    rw [e] at hb
    rw [← Option.some.inj hb]
    exact ⟨false, 0, 0, fin_nil, by rw [Nat.zero_mul]; exact Nat.zero_le _⟩
  exact ⟨fits_bd hb (by omega), fits_bd (bd_sub 1201 h0 hb (by omega) (by omega) (by omega) (by omega)) (by omega)⟩
theorem phC_eq (G : Option Nat) : phC G = phS (fop .sub .f64 kQuarter G) := rfl

theorem c_sine_at {x : Nat} {Y : Option Nat} (h : Fl .f64 x Y) (hs : SineOk Y) (w : World) :
    Calls Try.prog 86 #[.float .f64 x] w fun e w' => ∃ r, e = .returned (.float .f64 r) ∧ Fl .f64 r (phS Y) ∧ Dr w w' := by
  obtain ⟨y, rfl, h1, _⟩ := hs
  have hy := (fl_some h.eq).1
  subst hy
  exact c_sineOf h 0 h1 w
theorem c_sineWide_at {x : Nat} {Y : Option Nat} (h : Fl .f64 x Y) (hs : SineOk Y) (w : World) :
    Calls Try.prog 145 #[.float .f64 x] w fun e w' => ∃ r, e = .returned (.float .f64 r) ∧ Fl .f64 r (phS Y) ∧ Dr w w' := by
  obtain ⟨y, rfl, h1, h2, h3, h4, _⟩ := hs
  have hy := (fl_some h.eq).1
  subst hy
  exact c_l01SineWide h 0 h1 h2 h3 h4 w

theorem fnan_fl : Fl .f32 2143289344 none := ⟨by decide +kernel, by decide +kernel⟩
theorem five {q : Nat} (h : q ≤ 4) : q = 0 ∨ q = 1 ∨ q = 2 ∨ q = 3 ∨ q = 4 := by omega

set_option maxRecDepth 20000 in
set_option maxHeartbeats 1000000 in
theorem c_impl_PhasorOf {x : Nat} {X R I : Option Nat} (h : Fl .f64 x X) (hc : PhCase X R I) (w : World) :
    Calls Try.prog 16 #[.float .f64 x] w fun e w' => ∃ r i, e = .returned (.complex .f32 r i) ∧ Fl .f32 r R ∧ Fl .f32 i I ∧ Dr w w' := by
  cases hc with
  | nan hf hR hI =>
    subst hR
    subst hI
    go_enter Try.func16, Try.ntmps16
    go_wp2_with (first | (go_at_call 82; refine (c_isFiniteLong h _).mono ?_; rw [hf]; rintro e w' ⟨rfl, rfl⟩) | go_in)
    go_ret
    exact ⟨_, _, rfl, fnan_fl, fnan_fl, 0, rfl⟩
  | far b hX hf habs hfar hR hI =>
    subst hR
    subst hI
    have hxb : b = x := by rw [hX] at h; exact (fl_some h.eq).1
    subst hxb
    clear hfar hX
    go_enter Try.func16, Try.ntmps16
    go_wp2_with (first | (go_at_call 82; refine (c_isFiniteLong h _).mono ?_; rw [hf]; rintro e w' ⟨rfl, rfl⟩) | (go_at_call 150; refine (c_Abs _ h.lt _).mono ?_; rintro e w' ⟨rfl, rfl⟩) | go_in)
    go_ret
    exact ⟨_, _, rfl, Fl.of32 (by decide), Fl.of32 (by decide), 0, rfl⟩
  | near b n q hX hf habs h1 h2 hn hq hall hend hS hC hR hI =>
    subst hR
    subst hI
    have hxb : b = x := by rw [hX] at h; exact (fl_some h.eq).1
    subst hxb
    clear h1 h2 hX
    obtain ⟨F, hF⟩ : ∃ F, fpart X n = F := ⟨_, rfl⟩
    rw [hF] at hall hend hS hC ⊢
    obtain ⟨G, hG⟩ : ∃ G, fq F q = G := ⟨_, rfl⟩
    rw [hG] at hend hS hC ⊢
    obtain ⟨fS, fS0⟩ := fits_S hS
    obtain ⟨fC, fC0⟩ := fits_S hC
    rw [← phC_eq] at fC fC0
    have HALL := Lib.hid hall
    have HEND := Lib.hid hend
    have HN := Lib.hid hn
    have HF := Lib.hid hF
    have HG := Lib.hid hG
    clear hall hend hn hF hG
    have hkQ : Fl .f64 4598175219545276416 kQuarter := flK (by omega)
    have hz : Fl .f64 0 (fl .f64 0) := flK (by omega)
    go_enter Try.func16, Try.ntmps16
    go_wp2_with (first | (go_at_call 82; refine (c_isFiniteLong h _).mono ?_; rw [hf]; rintro e w' ⟨rfl, rfl⟩) | (go_at_call 150; refine (c_Abs _ h.lt _).mono ?_; rintro e w' ⟨rfl, rfl⟩) | (go_at_call 85; refine (c_partOfTurn h n HN.out _).mono ?_; rintro e w' ⟨r0, rfl, hr0, m0, rfl⟩; rw [HF.out] at hr0) | go_in)
    clear hf habs
    go_loopw [3, 4] (fun f k wr => ∃ (j fb : Nat), j ≤ q ∧ f = .float .f64 fb ∧ k = .int .i64 j ∧ Fl .f64 fb (fq F j) ∧ Dr w wr) (fun _ k _ => q - (intOf k).toNat)
    case atStart => exact ⟨0, _, Nat.zero_le _, rfl, rfl, hr0, _, rfl⟩
    case round =>
      obtain ⟨j, fb, hj, rfl, rfl, hfb, m, rfl⟩ := hrel
      have hge : (FloatKind.f64.format.order fb 4598175219545276416 == some .gt || FloatKind.f64.format.order fb 4598175219545276416 == some .eq) = fge (fq F j) kQuarter := by
        rw [hfb.order (flK (by omega))]; rfl
      by_cases hlt : j < q
      · rw [HALL.out j hlt] at hge
        go_wp2_with (apply upon_fop rfl; (exact hfb); (exact flK (by omega)); intro r nr hr)
        exact ⟨⟨j + 1, r, by omega, rfl, by go_num, hr, _, rfl⟩, by simp [intOf]; omega⟩
      · obtain rfl : j = q := by omega
        rw [HG.out] at hfb hge
        rw [HEND.out] at hge
        rcases five hq with rfl | rfl | rfl | rfl | rfl
        all_goals
          go_wp2_with (first | (apply upon_fop rfl; (exact hkQ); (exact hfb); intro rq nq hrq) | (go_at_call_of 86 rq; refine Calls.mono (c_sine_at hrq hC _) ?_; rintro e w_1 ⟨rc, rfl, hrc, n1, rfl⟩; rw [← phC_eq] at hrc) | (go_at_call_of 86 fb; refine Calls.mono (c_sine_at hfb hS _) ?_; rintro e w_1 ⟨rs, rfl, hrs, n2, rfl⟩) | (apply upon_fop rfl; (exact hz); (exact hrs); intro r3 n3 hr3) | (apply upon_fop rfl; (exact hz); (exact hrc); intro r4 n4 hr4) | (apply upon_narrow s_f64 Try.underlying29; (first | assumption | exact Fl.const (of_decide_eq_true (by kernel_rfl))); assumption; intro r n hr) | go_in)
          go_ret
          exact ⟨_, _, rfl, by assumption, by assumption, _, rfl⟩

theorem self_zero' {X : Option Nat} {x d : Nat} (h : Fl .f64 x X) (hf : ffin .f64 X = true) (hd : Fl .f64 d (fop .sub .f64 X X)) : (FloatKind.f64.format.order d 0 != some .eq) = false := by
  have h1 := sub_self .f64 x
  rw [h.eq, hf] at h1
  rw [h1] at hd
  have h2 : ford .f64 (some 0) (fl .f64 0) = some .eq := by decide +kernel
  have h3 : FloatKind.f64.format.order d 0 = some .eq := by rw [hd.order (flK (by omega))]; exact h2
  rw [h3]; rfl
theorem self_nonzero' {X : Option Nat} {x d : Nat} (h : Fl .f64 x X) (hf : ffin .f64 X = false) (hd : Fl .f64 d (fop .sub .f64 X X)) : (FloatKind.f64.format.order d 0 != some .eq) = true := by
  have h1 := sub_self .f64 x
  rw [h.eq, hf] at h1
  rw [h1] at hd
  have h3 : FloatKind.f64.format.order d 0 = none := by rw [hd.order (flK (by omega))]; rfl
  rw [h3]; rfl
set_option maxRecDepth 20000 in
set_option maxHeartbeats 1000000 in
theorem c_l01Phasor {x : Nat} {X R I : Option Nat} (h : Fl .f64 x X) (hc : PhCase X R I) (w : World) :
    Calls Try.prog 81 #[.float .f64 x] w fun e w' => ∃ r i, e = .returned (.complex .f32 r i) ∧ Fl .f32 r R ∧ Fl .f32 i I ∧ Dr w w' := by
  cases hc with
  | nan hf hR hI =>
    subst hR
    subst hI
    have Hf := Lib.hid hf
    clear hf
    go_enter Try.func81, Try.ntmps81
    go_wp2_with (fail)
    (apply upon_fop rfl; (first | assumption | exact Fl.const (of_decide_eq_true (by kernel_rfl))); (first | assumption | exact Fl.const (of_decide_eq_true (by kernel_rfl))))
    intro d nd hd
    have hz := self_nonzero' h Hf.out hd
    clear hd
    go_wp2_with (go_in)
    go_ret
    exact ⟨_, _, rfl, fnan_fl, fnan_fl, _, rfl⟩
  | far b hX hf habs hfar hR hI =>
    subst hR
    subst hI
    have hxb : b = x := by rw [hX] at h; exact (fl_some h.eq).1
    subst hxb
    have Hf := Lib.hid hf
    clear hf hX habs
    rcases hfar with h1 | ⟨h1, h2⟩
    all_goals
      go_enter Try.func81, Try.ntmps81
      go_wp2_with (fail)
      (apply upon_fop rfl; (first | assumption | exact Fl.const (of_decide_eq_true (by kernel_rfl))); (first | assumption | exact Fl.const (of_decide_eq_true (by kernel_rfl))))
      intro d nd hd
      have hz := self_zero' h Hf.out hd
      clear hd
      go_wp2_with (fail)
      go_ret
      exact ⟨_, _, rfl, Fl.of32 (by decide), Fl.of32 (by decide), _, rfl⟩
  | near b n q hX hf habs h1 h2 hn hq hall hend hS hC hR hI =>
    subst hR
    subst hI
    have hxb : b = x := by rw [hX] at h; exact (fl_some h.eq).1
    subst hxb
    clear habs hX
    have Hf := Lib.hid hf
    clear hf
    have hcv := fun W => run_convert_float_int (P := Try.prog) W 22 2 .f64 .i64 b n s_f64 Try.underlying2 hn
    have hi : Fl .f64 (floatOfInt .f64 n) (fl .f64 (floatOfInt .f64 n)) := ⟨rfl, by unfold floatOfInt FloatKind.nearest FloatKind.encode; exact FloatKind.f64.format.write_lt _⟩
    obtain ⟨F, hF⟩ : ∃ F, fpart X n = F := ⟨_, rfl⟩
    rw [hF] at hall hend hS hC ⊢
    obtain ⟨G, hG⟩ : ∃ G, fq F q = G := ⟨_, rfl⟩
    rw [hG] at hend hS hC ⊢
    obtain ⟨fS, fS0⟩ := fits_S hS
    obtain ⟨fC, fC0⟩ := fits_S hC
    rw [← phC_eq] at fC fC0
    have HALL := Lib.hid hall
    have HEND := Lib.hid hend
    have HN := Lib.hid hn
    have HF := Lib.hid hF
    have HG := Lib.hid hG
    clear hall hend hn hF hG
    have hkQ : Fl .f64 4598175219545276416 kQuarter := flK (by omega)
    have hz : Fl .f64 0 (fl .f64 0) := flK (by omega)
    go_enter Try.func81, Try.ntmps81
    go_wp2_with (fail)
    (apply upon_fop rfl; (first | assumption | exact Fl.const (of_decide_eq_true (by kernel_rfl))); (first | assumption | exact Fl.const (of_decide_eq_true (by kernel_rfl))))
    intro d nd hd
    have hz0 := self_zero' h Hf.out hd
    clear hd
    go_wp2_with (fail)
    (apply upon_fop rfl; (first | assumption | exact Fl.const (of_decide_eq_true (by kernel_rfl))); (first | assumption | exact Fl.const (of_decide_eq_true (by kernel_rfl))))
    intro g ng hg
    go_upto_if 26 with (fail)
    clear hcv hz0 h1 h2
    have hb : (FloatKind.f64.format.order g 0 == some .lt) = flt (fop .sub .f64 X (fl .f64 (floatOfInt .f64 n))) (fl .f64 0) := by
      rw [hg.order (flK (by omega))]; rfl
    rw [hb]
    clear hb
    generalize hL : flt (fop .sub .f64 X (fl .f64 (floatOfInt .f64 n))) (fl .f64 0) = less at *
    go_cut [3] (fun s wx => ∃ r m, s = .float .f64 r ∧ Fl .f64 r F ∧ wx = w.drewN m)
    case first =>
      cases less
      · go_wp2_with ((apply upon_fop rfl; (first | assumption | exact Fl.const (of_decide_eq_true (by kernel_rfl))); (first | assumption | exact Fl.const (of_decide_eq_true (by kernel_rfl))); intro r n hr))
        go_meet
        exact ⟨g, _, rfl, by rw [← HF.out]; unfold fpart; simp only [hL, Bool.false_eq_true, if_false]; exact hg, rfl⟩
      · go_wp2_with ((apply upon_fop rfl; (first | assumption | exact Fl.const (of_decide_eq_true (by kernel_rfl))); (first | assumption | exact Fl.const (of_decide_eq_true (by kernel_rfl))); intro r n hr))
        go_meet
        exact ⟨r, _, rfl, by rw [← HF.out]; unfold fpart; simp only [hL, if_true]; exact hr, rfl⟩
    case rest =>
    obtain ⟨r0, m0, rfl, hr0, rfl⟩ := hcut
    clear hg g hL less hi
    go_wp2_with (fail)
    go_loopw [3, 4] (fun f k wr => ∃ (j fb : Nat), j ≤ q ∧ f = .float .f64 fb ∧ k = .int .i64 j ∧ Fl .f64 fb (fq F j) ∧ Dr w wr) (fun _ k _ => q - (intOf k).toNat)
    case atStart => exact ⟨0, _, Nat.zero_le _, rfl, rfl, hr0, _, rfl⟩
    case round =>
      obtain ⟨j, fb, hj, rfl, rfl, hfb, m, rfl⟩ := hrel
      have hge : (FloatKind.f64.format.order fb 4598175219545276416 == some .gt || FloatKind.f64.format.order fb 4598175219545276416 == some .eq) = fge (fq F j) kQuarter := by
        rw [hfb.order (flK (by omega))]; rfl
      by_cases hlt : j < q
      · rw [HALL.out j hlt] at hge
        go_wp2_with (apply upon_fop rfl; (exact hfb); (exact flK (by omega)); intro r nr hr)
        exact ⟨⟨j + 1, r, by omega, rfl, by go_num, hr, _, rfl⟩, by simp [intOf]; omega⟩
      · obtain rfl : j = q := by omega
        rw [HG.out] at hfb hge
        rw [HEND.out] at hge
        rcases five hq with rfl | rfl | rfl | rfl | rfl
        all_goals
          go_wp2_with (first | (apply upon_fop rfl; (exact hkQ); (exact hfb); intro rq nq hrq) | (go_at_call_of 145 rq; refine Calls.mono (c_sineWide_at hrq hC _) ?_; rintro e w_1 ⟨rc, rfl, hrc, n1, rfl⟩; rw [← phC_eq] at hrc) | (go_at_call_of 145 fb; refine Calls.mono (c_sineWide_at hfb hS _) ?_; rintro e w_1 ⟨rs, rfl, hrs, n2, rfl⟩) | (apply upon_fop rfl; (exact hz); (exact hrs); intro r3 n3 hr3) | (apply upon_fop rfl; (exact hz); (exact hrc); intro r4 n4 hr4) | (apply upon_narrow s_f64 Try.underlying29; (first | assumption | exact Fl.const (of_decide_eq_true (by kernel_rfl))); assumption; intro r n hr) | go_in)
          go_ret
          exact ⟨_, _, rfl, by assumption, by assumption, _, rfl⟩
end Go.Proofs.Ythgmkipifolbfac
