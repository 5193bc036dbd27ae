/- The law FnExactSineTurns: every call of the law returns true and leaves the memory that was there as it was, whatever the argument. No condition. -/
import Derived.Test.YtcfbpgfihmmnoabLaw
import Derived.Test.YtcfbpgfihmmnoabTurn
namespace Go.Proofs.Ytcfbpgfihmmnoab
open Go.RowKit Ieee

theorem fin_wide_word {b : Nat} {X : Option Nat} (h : Fl .f32 b X) (hf : ffin .f32 X = true) : X = some b ∧ fconv .f32 .f64 X = some (wide b) := by
  cases X with
  | none => cases hf
  | some c =>
    obtain ⟨rfl, _⟩ := fl_some h.eq
    exact ⟨rfl, rfl⟩

/-- What is not finite, less itself, is no number. -/
theorem self_nonzero {X : Option Nat} {x d : Nat} (h : Fl .f64 x X) (hf : ffin .f64 X = false) (hd : Fl .f64 d (fop .sub .f64 X X)) : (FloatKind.f64.format.order d 0 != some .eq) = true := by
  have h1 := sub_self .f64 x
  rw [h.eq, hf] at h1
  rw [h1] at hd
  have h3 : FloatKind.f64.format.order d 0 = none := by rw [hd.order (flK (by omega))]; rfl
  rw [h3]; rfl

set_option maxHeartbeats 800000 in
theorem c_sineWide_nan {x : Nat} {X : Option Nat} (h : Fl .f64 x X) (hf : ffin .f64 X = false) (w : World) :
    Calls Try.prog 49 #[.float .f64 x] w fun e w' => ∃ r, e = .returned (.float .f64 r) ∧ Fl .f64 r none ∧ Dr w w' := by
  have Hf := Lib.hid hf
  clear hf
  go_enter Try.func49, Try.ntmps49
  go_wp2_with (fail)
  (apply upon_fop rfl; (first | assumption | exact Fl.const (of_decide_eq_true (by kernel_rfl))); (first | assumption | exact Fl.const (of_decide_eq_true (by kernel_rfl))))
  intro d nd hd
  have hz := self_nonzero h Hf.out hd
  clear hd
  go_wp2_with (go_in)
  go_ret
  exact ⟨_, rfl, ⟨by decide +kernel, by decide +kernel⟩, _, rfl⟩

set_option maxHeartbeats 800000 in
theorem c_sineWide_far {x : Nat} {X : Option Nat} (h : Fl .f64 x X) (hf : ffin .f64 X = true)
    (hfar : (FloatKind.f64.format.order x 4841369599423283200 == some .gt || FloatKind.f64.format.order x 4841369599423283200 == some .eq) = true ∨
        ((FloatKind.f64.format.order x 4841369599423283200 == some .gt || FloatKind.f64.format.order x 4841369599423283200 == some .eq) = false ∧ (FloatKind.f64.format.order x 14064741636278059008 == some .lt || FloatKind.f64.format.order x 14064741636278059008 == some .eq) = true)) (w : World) :
    Calls Try.prog 49 #[.float .f64 x] w fun e w' => ∃ r, e = .returned (.float .f64 r) ∧ Fl .f64 r (some 0) ∧ Dr w w' := by
  have Hf := Lib.hid hf
  clear hf
  rcases hfar with h1 | ⟨h1, h2⟩
  all_goals
    go_enter Try.func49, Try.ntmps49
    go_wp2_with (fail)
    (apply upon_fop rfl; (first | assumption | exact Fl.const (of_decide_eq_true (by kernel_rfl))); (first | assumption | exact Fl.const (of_decide_eq_true (by kernel_rfl))))
    intro d nd hd
    have hz := self_zero h Hf.out hd
    clear hd
    go_wp2_with (fail)
    go_ret
    exact ⟨0, rfl, ⟨by decide +kernel, by decide +kernel⟩, _, rfl⟩

/-- The three cases of a float32 as turns, and what the sine is in each. -/
inductive SineCase (b : Nat) (X R : Option Nat) : Prop where
  | nan (hf : ffin .f32 X = false) (hR : R = none)
  | far (hf : ffin .f32 X = true) (habs : (FloatKind.f64.format.order (wide b % 9223372036854775808) 4841369599423283200 == some .gt || FloatKind.f64.format.order (wide b % 9223372036854775808) 4841369599423283200 == some .eq) = true)
      (hfar : (FloatKind.f64.format.order (wide b) 4841369599423283200 == some .gt || FloatKind.f64.format.order (wide b) 4841369599423283200 == some .eq) = true ∨
        ((FloatKind.f64.format.order (wide b) 4841369599423283200 == some .gt || FloatKind.f64.format.order (wide b) 4841369599423283200 == some .eq) = false ∧ (FloatKind.f64.format.order (wide b) 14064741636278059008 == some .lt || FloatKind.f64.format.order (wide b) 14064741636278059008 == some .eq) = true)) (hR : R = some 0)
  | near (n : Int) (hf : ffin .f32 X = true) (habs : (FloatKind.f64.format.order (wide b % 9223372036854775808) 4841369599423283200 == some .gt || FloatKind.f64.format.order (wide b % 9223372036854775808) 4841369599423283200 == some .eq) = false)
      (h1 : (FloatKind.f64.format.order (wide b) 4841369599423283200 == some .gt || FloatKind.f64.format.order (wide b) 4841369599423283200 == some .eq) = false)
      (h2 : (FloatKind.f64.format.order (wide b) 14064741636278059008 == some .lt || FloatKind.f64.format.order (wide b) 14064741636278059008 == some .eq) = false)
      (hn : floatToIntVal .f64 (wide b) .i64 = some n) (hfit : Fits .f64 .f32 (fsin (fpart (some (wide b)) n))) (hR : R = fconv .f64 .f32 (fsin (fpart (some (wide b)) n)))

theorem sine_case {b : Nat} {X : Option Nat} (h : Fl .f32 b X) : ∃ R, SineCase b X R := by
  cases hf : ffin .f32 X with
  | false => exact ⟨none, .nan hf rfl⟩
  | true =>
    obtain ⟨h1, h2⟩ := fin_wide_word h hf
    have hw : Fl .f64 (wide b) (some (wide b)) := by
      refine ⟨?_, FloatKind.f64.format.write_lt _⟩
      have h3 := ffin_wide h
      rw [h2, hf] at h3
      have hx := h1 ▸ h.eq
      rcases shape .f32 b with ⟨s, m, e, k⟩ | ⟨s, hr, hg, _⟩ | k
      · obtain ⟨m', e', hw, _⟩ := k.wide
        exact hw.fl
      · exact fl_inf (wide_inf hr)
      · rw [k] at hx; cases hx
    have h3 : ffin .f64 (some (wide b)) = true := by rw [← h2, ffin_wide h]; exact hf
    rcases turn_cases hw h3 with ⟨habs, hfar⟩ | ⟨habs, k1, k2, n, hn, hbd⟩
    · exact ⟨some 0, .far hf habs hfar rfl⟩
    · exact ⟨_, .near n hf habs k1 k2 hn (fits_bd hbd (by omega)) rfl⟩

theorem narrow_none : Fits .f64 .f32 none := Or.inr fun _ h => by cases h
theorem narrow_null : Fits .f64 .f32 (some 0) ∧ fconv .f64 .f32 (some 0) = some 0 := ⟨Or.inr fun a ha => by rw [← Option.some.inj ha]; right; decide +kernel, by decide +kernel⟩

set_option maxHeartbeats 800000 in
theorem c_spec_l01Sine {b : Nat} {X R : Option Nat} (h : Fl .f32 b X) (hc : SineCase b X R) (w : World) :
    Calls Try.prog 36 #[.float .f32 b] w fun e w' => ∃ r, e = .returned (.float .f32 r) ∧ Fl .f32 r R ∧ Dr w w' := by
  have hw := ffin_wide h
  cases hc with
  | nan hf hR =>
    subst hR
    rw [hf] at hw
    have Hw := Lib.hid hw
    have hfit := narrow_none
    clear hw hf
    go_enter Try.func36, Try.ntmps36
    go_wp2_with (fail)
    (apply upon_wide s_f32 Try.underlying22; (first | assumption | exact Fl.const (of_decide_eq_true (by kernel_rfl))))
    intro y ny hy
    go_wp2_with (first | (go_at_call 49; refine (c_sineWide_nan hy Hw.out _).mono ?_; rintro e w' ⟨q, rfl, hq, nq, rfl⟩) | (apply upon_narrow s_f64 Try.underlying28; (first | assumption | exact Fl.const (of_decide_eq_true (by kernel_rfl))); assumption; intro r n hr) | go_in)
    go_ret
    exact ⟨r, rfl, hr, _, rfl⟩
  | far hf habs hfar hR =>
    subst hR
    obtain ⟨e1, e2⟩ := fin_wide_word h hf
    rw [hf] at hw
    have Hw := Lib.hid hw
    have E2 := Lib.hid e2
    have Hfar := Lib.hid hfar
    obtain ⟨hfit, hz⟩ := narrow_null
    have Hz := Lib.hid hz
    clear hw hf e1 e2 hfar habs hz
    go_enter Try.func36, Try.ntmps36
    go_wp2_with (fail)
    (apply upon_wide s_f32 Try.underlying22; (first | assumption | exact Fl.const (of_decide_eq_true (by kernel_rfl))))
    intro y ny hy
    have hyy : y = wide b := by
      have := hy.eq
      rw [E2.out] at this
      exact (fl_some this).1.symm
    subst hyy
    go_wp2_with (first | (go_at_call 49; refine (c_sineWide_far hy Hw.out Hfar.out _).mono ?_; rintro e w' ⟨q, rfl, hq, nq, rfl⟩) | (apply upon_narrow s_f64 Try.underlying28; (first | assumption | exact Fl.const (of_decide_eq_true (by kernel_rfl))); assumption; intro r n hr) | go_in)
    go_ret
    exact ⟨r, rfl, by rw [Hz.out] at hr; exact hr, _, rfl⟩
  | near n hf habs h1 h2 hn hfit hR =>
    subst hR
    obtain ⟨e1, e2⟩ := fin_wide_word h hf
    rw [hf] at hw
    have Hw := Lib.hid hw
    have E2 := Lib.hid e2
    have H1 := Lib.hid h1
    have H2 := Lib.hid h2
    have HN := Lib.hid hn
    clear hw hf e1 e2 habs h1 h2 hn
    go_enter Try.func36, Try.ntmps36
    go_wp2_with (fail)
    (apply upon_wide s_f32 Try.underlying22; (first | assumption | exact Fl.const (of_decide_eq_true (by kernel_rfl))))
    intro y ny hy
    have hyy : y = wide b := by
      have := hy.eq
      rw [E2.out] at this
      exact (fl_some this).1.symm
    subst hyy
    have hw' := Hw.out
    rw [E2.out] at hy hw'
    have Hw' := Lib.hid hw'
    clear hw'
    go_wp2_with (first | (go_at_call 49; refine (c_l01SineWide hy n HN.out Hw'.out H1.out H2.out _).mono ?_; rintro e w' ⟨q, rfl, hq, nq, rfl⟩) | (apply upon_narrow s_f64 Try.underlying28; (first | assumption | exact Fl.const (of_decide_eq_true (by kernel_rfl))); assumption; intro r n hr) | go_in)
    go_ret
    exact ⟨r, rfl, hr, _, rfl⟩

set_option maxHeartbeats 800000 in
theorem c_impl_SineTurns {b : Nat} {X R : Option Nat} (h : Fl .f32 b X) (hc : SineCase b X R) (w : World) :
    Calls Try.prog 13 #[.float .f32 b] w fun e w' => ∃ r, e = .returned (.float .f32 r) ∧ Fl .f32 r R ∧ Dr w w' := by
  have hw := ffin_wide h
  cases hc with
  | nan hf hR =>
    subst hR
    rw [hf] at hw
    clear hf
    go_enter Try.func13, Try.ntmps13
    go_wp2_with (fail)
    (apply upon_wide s_f32 Try.underlying22; (first | assumption | exact Fl.const (of_decide_eq_true (by kernel_rfl))))
    intro y ny hy
    go_wp2_with (first | (go_at_call 30; refine (c_isFiniteLong hy _).mono ?_; rintro e w' ⟨rfl, rfl⟩) | go_in)
    go_ret
    exact ⟨_, rfl, ⟨by decide +kernel, by decide +kernel⟩, _, rfl⟩
  | far hf habs hfar hR =>
    subst hR
    obtain ⟨e1, e2⟩ := fin_wide_word h hf
    rw [hf] at hw
    have E2 := Lib.hid e2
    clear hf e1 e2 hfar
    go_enter Try.func13, Try.ntmps13
    go_wp2_with (fail)
    (apply upon_wide s_f32 Try.underlying22; (first | assumption | exact Fl.const (of_decide_eq_true (by kernel_rfl))))
    intro y ny hy
    have hyy : y = wide b := by
      have := hy.eq
      rw [E2.out] at this
      exact (fl_some this).1.symm
    subst hyy
    go_wp2_with (first | (go_at_call 30; refine (c_isFiniteLong hy _).mono ?_; rintro e w' ⟨rfl, rfl⟩) | (go_at_call 40; refine (c_Abs _ hy.lt _).mono ?_; rintro e w' ⟨rfl, rfl⟩) | go_in)
    go_ret
    exact ⟨0, rfl, ⟨by decide +kernel, by decide +kernel⟩, _, rfl⟩
  | near n hf habs h1 h2 hn hfit hR =>
    subst hR
    obtain ⟨e1, e2⟩ := fin_wide_word h hf
    rw [hf] at hw
    have E2 := Lib.hid e2
    have HN := Lib.hid hn
    clear hf e1 e2 h1 h2 hn
    go_enter Try.func13, Try.ntmps13
    go_wp2_with (fail)
    (apply upon_wide s_f32 Try.underlying22; (first | assumption | exact Fl.const (of_decide_eq_true (by kernel_rfl))))
    intro y ny hy
    have hyy : y = wide b := by
      have := hy.eq
      rw [E2.out] at this
      exact (fl_some this).1.symm
    subst hyy
    have hy' := hy
    rw [E2.out] at hy'
    go_wp2_with (first | (go_at_call 30; refine (c_isFiniteLong hy _).mono ?_; rintro e w' ⟨rfl, rfl⟩) | (go_at_call 40; refine (c_Abs _ hy.lt _).mono ?_; rintro e w' ⟨rfl, rfl⟩) | (go_at_call 34; refine (c_sineOf hy' n HN.out _).mono ?_; rintro e w' ⟨q, rfl, hq, nq, rfl⟩) | (apply upon_narrow s_f64 Try.underlying28; (first | assumption | exact Fl.const (of_decide_eq_true (by kernel_rfl))); assumption; intro r n hr) | go_in)
    go_ret
    exact ⟨r, rfl, hr, _, rfl⟩

set_option maxHeartbeats 800000 in
theorem w_FnExactSineTurns {a : Nat} (ha : a < 4294967296) {w : World} :
    Calls Try.prog 4 #[.float .f32 a] w fun e w' => e = .returned (.bool true) ∧ Below w.heap.size w w' := by
  have fa := Fl.of32 ha
  obtain ⟨R, hc⟩ := sine_case fa
  go_enter Try.func4, Try.ntmps4
  go_wp2_with (first | (go_at_call 36; refine Calls.mono (c_spec_l01Sine fa hc _) ?_; rintro e w' ⟨r1, rfl, hr1, n1, rfl⟩) | (go_at_call 12; go_in) | (go_at_call 13; refine Calls.mono (c_impl_SineTurns fa hc _) ?_; rintro e w' ⟨r2, rfl, hr2, n2, rfl⟩) | (apply upon_wide s_f32 Try.underlying22; (first | assumption | exact Fl.const (of_decide_eq_true (by kernel_rfl))); intro r n hr) | (go_at_call 14; refine Calls.mono (c_sameFloat (by assumption) (by assumption) _) ?_; rintro e w' ⟨rfl, n3, rfl⟩))
  go_ret
  exact ⟨rfl, Dr.below ⟨_, rfl⟩⟩
open Go.ChangeShapes Go.WideShapes Go.ChangeAt Go.ChangeMaps in
theorem FnExactSineTurns_holds : Rows.FnExactSineTurnsSaid :=
  OpenClaim.holds_of_wide 4 Try.f4 rfl rfl rfl rfl rfl rfl rfl ⟨rfl, rfl, rfl, rfl, rfl⟩ rfl rfl rfl rfl rfl (by kernel_rfl) Try.func4 (by kernel_rfl)
    (of_decide_eq_true (by kernel_rfl)) (by unfold Func.isWrapper; first | (rw [if_pos (by decide +kernel)]; kernel_rfl) | (rw [if_neg (by decide +kernel)]; exact ⟨rfl, rfl⟩))
    (fun os started H enc _ => law_lifted os started H enc 4 Try.f4 Rows.fnExactSineTurnsSpec (by kernel_rfl) Try.func4
      (ChangeSpec.witness6 (enc := enc) (C := Try.checked) false ⟨#[], #[.float .f32 0], []⟩ 8 (by kernel_rfl) (by kernel_rfl) (by kernel_rfl) (by kernel_rfl))
      (by rw [Try.params4]; intro t ht; simp at ht; subst ht <;> exact ⟨by kernel_rfl, of_decide_eq_true (by kernel_rfl)⟩) rfl 4 (by kernel_rfl) Try.underlying4
      (by intro ds hds; rw [Try.params4] at hds; match ds, hds with | [_], _ => rfl)
      (by
        intro W base args ds ps hval hA hlt
        rw [Try.params4] at hA hval
        obtain ⟨v0, d0, rfl, rfl, h0⟩ := trodAll_one hA
        obtain ⟨a0, rfl, rfl, rfl, k0⟩ := open_float Try.underlying28 (hval 0 28 v0 rfl rfl) h0
        exact w_FnExactSineTurns (w := W) (wf32 k0)))

end Go.Proofs.Ytcfbpgfihmmnoab
