/- Contracts: sines of turns, on both sides; for whichever not-a-number. No condition. -/
import Derived.Test.YtcjddnkebdjhoaaTurn
namespace Go.Proofs.Ytcjddnkebdjhoaa
open Go.RowKit Ieee

theorem fin_wide_word {b : Nat} {X : Option Nat} (h : Fl .f32 b X) (hf : ffin .f32 X = true) : X = some b ∧ fconv .f32 .f64 X = some (wide b) := by
  cases X with
  | none => cases hf
  | some c =>
    obtain ⟨rfl, _⟩ := fl_some h.eq
    exact ⟨rfl, rfl⟩

/-- What is not finite, less itself, is no number. -/
theorem self_nonzero {X : Option Nat} {x d : Nat} (h : Fl .f64 x X) (hf : ffin .f64 X = false) (hd : Fl .f64 d (fop .sub .f64 X X)) : (FloatKind.f64.format.order d 0 != some .eq) = true := by
  have h1 := sub_self .f64 x
  rw [h.eq, hf] at h1
  rw [h1] at hd
  have h3 : FloatKind.f64.format.order d 0 = none := by rw [hd.order (flK (by omega))]; rfl
  rw [h3]; rfl

set_option maxRecDepth 20000 in
set_option maxHeartbeats 800000 in
theorem c_sineWide_nan {x : Nat} {X : Option Nat} (h : Fl .f64 x X) (hf : ffin .f64 X = false) (w : World) :
    Calls Try.prog 77 #[.float .f64 x] w fun e w' => ∃ r, e = .returned (.float .f64 r) ∧ Fl .f64 r none ∧ Dr w w' := by
  have Hf := Lib.hid hf
  clear hf
  go_enter Try.func77, Try.ntmps77
  go_wp2_with (fail)
  (apply upon_fop rfl; (first | assumption | exact Fl.const (of_decide_eq_true (by kernel_rfl))); (first | assumption | exact Fl.const (of_decide_eq_true (by kernel_rfl))))
  intro d nd hd
  have hz := self_nonzero h Hf.out hd
  clear hd
  go_wp2_with (go_in)
  go_ret
  exact ⟨_, rfl, ⟨by decide +kernel, by decide +kernel⟩, _, rfl⟩

set_option maxRecDepth 20000 in
set_option maxHeartbeats 800000 in
theorem c_sineWide_far {x : Nat} {X : Option Nat} (h : Fl .f64 x X) (hf : ffin .f64 X = true)
    (hfar : (FloatKind.f64.format.order x 4841369599423283200 == some .gt || FloatKind.f64.format.order x 4841369599423283200 == some .eq) = true ∨
        ((FloatKind.f64.format.order x 4841369599423283200 == some .gt || FloatKind.f64.format.order x 4841369599423283200 == some .eq) = false ∧ (FloatKind.f64.format.order x 14064741636278059008 == some .lt || FloatKind.f64.format.order x 14064741636278059008 == some .eq) = true)) (w : World) :
    Calls Try.prog 77 #[.float .f64 x] w fun e w' => ∃ r, e = .returned (.float .f64 r) ∧ Fl .f64 r (some 0) ∧ Dr w w' := by
  have Hf := Lib.hid hf
  clear hf
  rcases hfar with h1 | ⟨h1, h2⟩
  all_goals
    go_enter Try.func77, Try.ntmps77
    go_wp2_with (fail)
    (apply upon_fop rfl; (first | assumption | exact Fl.const (of_decide_eq_true (by kernel_rfl))); (first | assumption | exact Fl.const (of_decide_eq_true (by kernel_rfl))))
    intro d nd hd
    have hz := self_zero h Hf.out hd
    clear hd
    go_wp2_with (fail)
    go_ret
    exact ⟨0, rfl, ⟨by decide +kernel, by decide +kernel⟩, _, rfl⟩

/-- The three cases of a float32 as turns, and what the sine is in each. -/
inductive SineCase (b : Nat) (X R : Option Nat) : Prop where
  | nan (hf : ffin .f32 X = false) (hR : R = none)
  | far (hf : ffin .f32 X = true) (habs : (FloatKind.f64.format.order (wide b % 9223372036854775808) 4841369599423283200 == some .gt || FloatKind.f64.format.order (wide b % 9223372036854775808) 4841369599423283200 == some .eq) = true)
      (hfar : (FloatKind.f64.format.order (wide b) 4841369599423283200 == some .gt || FloatKind.f64.format.order (wide b) 4841369599423283200 == some .eq) = true ∨
        ((FloatKind.f64.format.order (wide b) 4841369599423283200 == some .gt || FloatKind.f64.format.order (wide b) 4841369599423283200 == some .eq) = false ∧ (FloatKind.f64.format.order (wide b) 14064741636278059008 == some .lt || FloatKind.f64.format.order (wide b) 14064741636278059008 == some .eq) = true)) (hR : R = some 0)
  | near (n : Int) (hf : ffin .f32 X = true) (habs : (FloatKind.f64.format.order (wide b % 9223372036854775808) 4841369599423283200 == some .gt || FloatKind.f64.format.order (wide b % 9223372036854775808) 4841369599423283200 == some .eq) = false)
      (h1 : (FloatKind.f64.format.order (wide b) 4841369599423283200 == some .gt || FloatKind.f64.format.order (wide b) 4841369599423283200 == some .eq) = false)
      (h2 : (FloatKind.f64.format.order (wide b) 14064741636278059008 == some .lt || FloatKind.f64.format.order (wide b) 14064741636278059008 == some .eq) = false)
      (hn : floatToIntVal .f64 (wide b) .i64 = some n) (hfit : Fits .f64 .f32 (fsin (fpart (some (wide b)) n))) (hR : R = fconv .f64 .f32 (fsin (fpart (some (wide b)) n)))

theorem sine_case {b : Nat} {X : Option Nat} (h : Fl .f32 b X) : ∃ R, SineCase b X R := by
  cases hf : ffin .f32 X with
  | false => exact ⟨none, .nan hf rfl⟩
  | true =>
    obtain ⟨h1, h2⟩ := fin_wide_word h hf
    have hw : Fl .f64 (wide b) (some (wide b)) := by
      refine ⟨?_, FloatKind.f64.format.write_lt _⟩
      have h3 := ffin_wide h
      rw [h2, hf] at h3
      have hx := h1 ▸ h.eq
      rcases shape .f32 b with ⟨s, m, e, k⟩ | ⟨s, hr, hg, _⟩ | k
      · obtain ⟨m', e', hw, _⟩ := k.wide
        exact hw.fl
      · exact fl_inf (wide_inf hr)
      · rw [k] at hx; cases hx
    have h3 : ffin .f64 (some (wide b)) = true := by rw [← h2, ffin_wide h]; exact hf
    rcases turn_cases hw h3 with ⟨habs, hfar⟩ | ⟨habs, k1, k2, n, hn, hbd⟩
    · exact ⟨some 0, .far hf habs hfar rfl⟩
    · exact ⟨_, .near n hf habs k1 k2 hn (fits_bd hbd (by omega)) rfl⟩

theorem narrow_none : Fits .f64 .f32 none := Or.inr fun _ h => by cases h
theorem narrow_null : Fits .f64 .f32 (some 0) ∧ fconv .f64 .f32 (some 0) = some 0 := ⟨Or.inr fun a ha => by rw [← Option.some.inj ha]; right; decide +kernel, by decide +kernel⟩

set_option maxRecDepth 20000 in
set_option maxHeartbeats 800000 in
theorem c_spec_l01Sine {b : Nat} {X R : Option Nat} (h : Fl .f32 b X) (hc : SineCase b X R) (w : World) :
    Calls Try.prog 48 #[.float .f32 b] w fun e w' => ∃ r, e = .returned (.float .f32 r) ∧ Fl .f32 r R ∧ Dr w w' := by
  have hw := ffin_wide h
  cases hc with
  | nan hf hR =>
    subst hR
    rw [hf] at hw
    have Hw := Lib.hid hw
    have hfit := narrow_none
    clear hw hf
    go_enter Try.func48, Try.ntmps48
    go_wp2_with (fail)
    (apply upon_wide s_f32 Try.underlying47; (first | assumption | exact Fl.const (of_decide_eq_true (by kernel_rfl))))
    intro y ny hy
    go_wp2_with (first | (go_at_call 77; refine (c_sineWide_nan hy Hw.out _).mono ?_; rintro e w' ⟨q, rfl, hq, nq, rfl⟩) | (apply upon_narrow s_f64 Try.underlying29; (first | assumption | exact Fl.const (of_decide_eq_true (by kernel_rfl))); assumption; intro r n hr) | go_in)
    go_ret
    exact ⟨r, rfl, hr, _, rfl⟩
  | far hf habs hfar hR =>
    subst hR
    obtain ⟨e1, e2⟩ := fin_wide_word h hf
    rw [hf] at hw
    have Hw := Lib.hid hw
    have E2 := Lib.hid e2
    have Hfar := Lib.hid hfar
    obtain ⟨hfit, hz⟩ := narrow_null
    have Hz := Lib.hid hz
    clear hw hf e1 e2 hfar habs hz
    go_enter Try.func48, Try.ntmps48
    go_wp2_with (fail)
    (apply upon_wide s_f32 Try.underlying47; (first | assumption | exact Fl.const (of_decide_eq_true (by kernel_rfl))))
    intro y ny hy
    have hyy : y = wide b := by
      have := hy.eq
      rw [E2.out] at this
      exact (fl_some this).1.symm
    subst hyy
    go_wp2_with (first | (go_at_call 77; refine (c_sineWide_far hy Hw.out Hfar.out _).mono ?_; rintro e w' ⟨q, rfl, hq, nq, rfl⟩) | (apply upon_narrow s_f64 Try.underlying29; (first | assumption | exact Fl.const (of_decide_eq_true (by kernel_rfl))); assumption; intro r n hr) | go_in)
    go_ret
    exact ⟨r, rfl, by rw [Hz.out] at hr; exact hr, _, rfl⟩
  | near n hf habs h1 h2 hn hfit hR =>
    subst hR
    obtain ⟨e1, e2⟩ := fin_wide_word h hf
    rw [hf] at hw
    have Hw := Lib.hid hw
    have E2 := Lib.hid e2
    have H1 := Lib.hid h1
    have H2 := Lib.hid h2
    have HN := Lib.hid hn
    clear hw hf e1 e2 habs h1 h2 hn
    go_enter Try.func48, Try.ntmps48
    go_wp2_with (fail)
    (apply upon_wide s_f32 Try.underlying47; (first | assumption | exact Fl.const (of_decide_eq_true (by kernel_rfl))))
    intro y ny hy
    have hyy : y = wide b := by
      have := hy.eq
      rw [E2.out] at this
      exact (fl_some this).1.symm
    subst hyy
    have hw' := Hw.out
    rw [E2.out] at hy hw'
    have Hw' := Lib.hid hw'
    clear hw'
    go_wp2_with (first | (go_at_call 77; refine (c_l01SineWide hy n HN.out Hw'.out H1.out H2.out _).mono ?_; rintro e w' ⟨q, rfl, hq, nq, rfl⟩) | (apply upon_narrow s_f64 Try.underlying29; (first | assumption | exact Fl.const (of_decide_eq_true (by kernel_rfl))); assumption; intro r n hr) | go_in)
    go_ret
    exact ⟨r, rfl, hr, _, rfl⟩

set_option maxRecDepth 20000 in
set_option maxHeartbeats 800000 in
theorem c_impl_SineTurns {b : Nat} {X R : Option Nat} (h : Fl .f32 b X) (hc : SineCase b X R) (w : World) :
    Calls Try.prog 52 #[.float .f32 b] w fun e w' => ∃ r, e = .returned (.float .f32 r) ∧ Fl .f32 r R ∧ Dr w w' := by
  have hw := ffin_wide h
  cases hc with
  | nan hf hR =>
    subst hR
    rw [hf] at hw
    clear hf
    go_enter Try.func52, Try.ntmps52
    go_wp2_with (fail)
    (apply upon_wide s_f32 Try.underlying47; (first | assumption | exact Fl.const (of_decide_eq_true (by kernel_rfl))))
    intro y ny hy
    go_wp2_with (first | (go_at_call 78; refine (c_isFiniteLong hy _).mono ?_; rintro e w' ⟨rfl, rfl⟩) | go_in)
    go_ret
    exact ⟨_, rfl, ⟨by decide +kernel, by decide +kernel⟩, _, rfl⟩
  | far hf habs hfar hR =>
    subst hR
    obtain ⟨e1, e2⟩ := fin_wide_word h hf
    rw [hf] at hw
    have E2 := Lib.hid e2
    clear hf e1 e2 hfar
    go_enter Try.func52, Try.ntmps52
    go_wp2_with (fail)
    (apply upon_wide s_f32 Try.underlying47; (first | assumption | exact Fl.const (of_decide_eq_true (by kernel_rfl))))
    intro y ny hy
    have hyy : y = wide b := by
      have := hy.eq
      rw [E2.out] at this
      exact (fl_some this).1.symm
    subst hyy
    go_wp2_with (first | (go_at_call 78; refine (c_isFiniteLong hy _).mono ?_; rintro e w' ⟨rfl, rfl⟩) | (go_at_call 93; refine (c_Abs _ hy.lt _).mono ?_; rintro e w' ⟨rfl, rfl⟩) | go_in)
    go_ret
    exact ⟨0, rfl, ⟨by decide +kernel, by decide +kernel⟩, _, rfl⟩
  | near n hf habs h1 h2 hn hfit hR =>
    subst hR
    obtain ⟨e1, e2⟩ := fin_wide_word h hf
    rw [hf] at hw
    have E2 := Lib.hid e2
    have HN := Lib.hid hn
    clear hf e1 e2 h1 h2 hn
    go_enter Try.func52, Try.ntmps52
    go_wp2_with (fail)
    (apply upon_wide s_f32 Try.underlying47; (first | assumption | exact Fl.const (of_decide_eq_true (by kernel_rfl))))
    intro y ny hy
    have hyy : y = wide b := by
      have := hy.eq
      rw [E2.out] at this
      exact (fl_some this).1.symm
    subst hyy
    have hy' := hy
    rw [E2.out] at hy'
    go_wp2_with (first | (go_at_call 78; refine (c_isFiniteLong hy _).mono ?_; rintro e w' ⟨rfl, rfl⟩) | (go_at_call 93; refine (c_Abs _ hy.lt _).mono ?_; rintro e w' ⟨rfl, rfl⟩) | (go_at_call 82; refine (c_sineOf hy' n HN.out _).mono ?_; rintro e w' ⟨q, rfl, hq, nq, rfl⟩) | (apply upon_narrow s_f64 Try.underlying29; (first | assumption | exact Fl.const (of_decide_eq_true (by kernel_rfl))); assumption; intro r n hr) | go_in)
    go_ret
    exact ⟨r, rfl, hr, _, rfl⟩


/-- One sine for all words of one number. -/
theorem sine_all (X : Option Nat) (hX : ∃ b, Fl .f32 b X) : ∃ R, ∀ b, Fl .f32 b X → SineCase b X R := by
  obtain ⟨b0, h0⟩ := hX
  cases X with
  | none => exact ⟨_, fun b _ => .nan rfl rfl⟩
  | some c =>
    obtain ⟨R, hR⟩ := sine_case h0
    refine ⟨R, fun b hb => ?_⟩
    have e1 := (fl_some h0.eq).1
    have e2 := (fl_some hb.eq).1
    have : b0 = b := by omega
    subst this
    exact hR
end Go.Proofs.Ytcjddnkebdjhoaa
