/- The law FnExactAngleTurns: every call of the law returns true and leaves the memory that was there as it was, whatever the arguments. No condition. -/
import Derived.Test.YtcfbpgfihmmnoabLaw
import Derived.Test.YtcfbpgfihmmnoabArc
import Derived.Test.YtcfbpgfihmmnoabLSineTurns
namespace Go.Proofs.Ytcfbpgfihmmnoab
open Go.RowKit Ieee

theorem fin0_32 : Fin_ .f32 0 false 0 0 := by
  have := Fin_.of_word .f32 false 0 0 (by decide +kernel) (Or.inl rfl) (by decide +kernel)
  have e : FloatKind.f32.format.word false (0 * FloatKind.f32.format.binade + 0) = 0 := by decide +kernel
  rwa [e] at this
theorem fin0_64 : Fin_ .f64 0 false 0 0 := by
  have := Fin_.of_word .f64 false 0 0 (by decide +kernel) (Or.inl rfl) (by decide +kernel)
  have e : FloatKind.f64.format.word false (0 * FloatKind.f64.format.binade + 0) = 0 := by decide +kernel
  rwa [e] at this

/-- A float32 made wide stands to 0 as it stood. -/
theorem order_wide0 {b : Nat} {s : Bool} {m e : Nat} (h : Fin_ .f32 b s m e) : FloatKind.f64.format.order (wide b) 0 = FloatKind.f32.format.order b 0 := by
  obtain ⟨m', e', hw, hv⟩ := h.wide
  rw [hw.order fin0_64, h.order fin0_32]
  obtain ⟨D, hD⟩ : ∃ D : Nat, D = 925 := ⟨_, rfl⟩
  rw [← hD] at hv
  have h1 : sv s m' e' = sv s m e * (2 ^ D : Nat) := by
    rw [← sv_add]; unfold sv; rw [hv]
  have h2 : sv false 0 0 = 0 := by decide
  have h3 := cmp_scale (sv s m e) 0 (2 ^ D) (Nat.two_pow_pos _)
  rw [Int.zero_mul] at h3
  rw [h1, h2, h3]

theorem bd_point {a b m e n j : Nat} (ha : Fin_ .f64 a false m e) (hb : Fin_ .f64 b false n j) : Bd (if (FloatKind.f64.format.order a b == some .gt) = true then fop .quo .f64 (some b) (some a) else fop .quo .f64 (some a) (some b)) 1075 := by
  rw [ha.order hb]
  have h1 : sv false m e = ((m * 2 ^ e : Nat) : Int) := rfl
  have h2 : sv false n j = ((n * 2 ^ j : Nat) : Int) := rfl
  by_cases h : n * 2 ^ j < m * 2 ^ e
  · have h3 : (some (compare (sv false m e) (sv false n j)) == some Ordering.gt) = true := by
      rw [h1, h2, cmp_eq, if_neg (by omega), if_neg (by omega)]; rfl
    rw [if_pos h3]
    exact bd_ratio rfl hb ha (Nat.le_of_lt h)
  · have h3 : (some (compare (sv false m e) (sv false n j)) == some Ordering.gt) = false := by
      rw [h1, h2, cmp_eq]
      by_cases hl : ((m * 2 ^ e : Nat) : Int) < ((n * 2 ^ j : Nat) : Int)
      · rw [if_pos hl]; rfl
      · rw [if_neg hl, if_pos (by omega)]; rfl
    rw [if_neg (by rw [h3]; simp)]
    exact bd_ratio rfl ha hb (by omega)

/-- The cases of a point, and what its angle is in each. -/
inductive AngleCase (y x : Nat) (Y X R : Option Nat) : Prop where
  | nan1 (hy : ffin .f32 Y = false) (hR : R = none)
  | nan2 (hy : ffin .f32 Y = true) (hx : ffin .f32 X = false) (hR : R = none)
  | zero (hy : ffin .f32 Y = true) (hx : ffin .f32 X = true) (zx : (FloatKind.f32.format.order x 0 == some .eq) = true) (zy : (FloatKind.f32.format.order y 0 == some .eq) = true)
      (zx' : (FloatKind.f64.format.order (wide x) 0 == some .eq) = true) (zy' : (FloatKind.f64.format.order (wide y) 0 == some .eq) = true) (hR : R = some 0)
  | gen (zx zy xneg yneg over : Bool) (hy : ffin .f32 Y = true) (hx : ffin .f32 X = true) (hz : (zx && zy) = false)
      (hzx : (FloatKind.f32.format.order x 0 == some .eq) = zx) (hzy : (FloatKind.f32.format.order y 0 == some .eq) = zy) (hxn : (FloatKind.f32.format.order x 0 == some .lt) = xneg) (hyn : (FloatKind.f32.format.order y 0 == some .lt) = yneg)
      (hzx' : (FloatKind.f64.format.order (wide x) 0 == some .eq) = zx) (hzy' : (FloatKind.f64.format.order (wide y) 0 == some .eq) = zy) (hxn' : (FloatKind.f64.format.order (wide x) 0 == some .lt) = xneg) (hyn' : (FloatKind.f64.format.order (wide y) 0 == some .lt) = yneg)
      (hA : Fl .f64 (wide y % 9223372036854775808) (some (wide y % 9223372036854775808))) (hB : Fl .f64 (wide x % 9223372036854775808) (some (wide x % 9223372036854775808)))
      (ho : (FloatKind.f64.format.order (wide y % 9223372036854775808) (wide x % 9223372036854775808) == some .gt) = over)
      (hfit : Fits .f64 .f32 (fang xneg yneg (fflat over (some (wide y % 9223372036854775808)) (some (wide x % 9223372036854775808)))))
      (hR : R = fconv .f64 .f32 (fang xneg yneg (fflat over (some (wide y % 9223372036854775808)) (some (wide x % 9223372036854775808)))))

theorem fin_of_ffin {b : Nat} {X : Option Nat} (h : Fl .f32 b X) (hf : ffin .f32 X = true) : ∃ s m e, Fin_ .f32 b s m e := by
  rcases shape .f32 b with ⟨s, m, e, k⟩ | ⟨s, hr, hg, _⟩ | k
  · exact ⟨s, m, e, k⟩
  · rw [← h.eq, fl_inf hr] at hf
    unfold ffin FloatKind.decode at hf
    simp only at hf
    rw [hr] at hf
    cases hf
  · rw [← h.eq, k] at hf; cases hf

theorem angle_case {y x : Nat} {Y X : Option Nat} (hy : Fl .f32 y Y) (hx : Fl .f32 x X) : ∃ R, AngleCase y x Y X R := by
  cases hfy : ffin .f32 Y with
  | false => exact ⟨none, .nan1 hfy rfl⟩
  | true =>
  cases hfx : ffin .f32 X with
  | false => exact ⟨none, .nan2 hfy hfx rfl⟩
  | true =>
    obtain ⟨s, m, e, ky⟩ := fin_of_ffin hy hfy
    obtain ⟨t, n, j, kx⟩ := fin_of_ffin hx hfx
    have oy := order_wide0 ky
    have ox := order_wide0 kx
    obtain ⟨m', e', wy, _⟩ := ky.wide
    obtain ⟨n', j', wx, _⟩ := kx.wide
    have ay := wy.abs
    have ax := wx.abs
    have hA : Fl .f64 (wide y % 9223372036854775808) (some (wide y % 9223372036854775808)) := ⟨ay.fl, by
      show _ < 2 ^ 64
      have := Nat.mod_lt (wide y) (show 0 < 9223372036854775808 by omega)
      omega⟩
    have hB : Fl .f64 (wide x % 9223372036854775808) (some (wide x % 9223372036854775808)) := ⟨ax.fl, by
      show _ < 2 ^ 64
      have := Nat.mod_lt (wide x) (show 0 < 9223372036854775808 by omega)
      omega⟩
    by_cases hz : ((FloatKind.f32.format.order x 0 == some .eq) && (FloatKind.f32.format.order y 0 == some .eq)) = true
    · rw [Bool.and_eq_true] at hz
      exact ⟨some 0, .zero hfy hfx hz.1 hz.2 (by rw [ox]; exact hz.1) (by rw [oy]; exact hz.2) rfl⟩
    · rw [Bool.not_eq_true] at hz
      exact ⟨_, .gen _ _ _ _ _ hfy hfx hz rfl rfl rfl rfl (by rw [ox]) (by rw [oy]) (by rw [ox]) (by rw [oy]) hA hB rfl (fits_bd (bd_fang (bd_fflat (bd_point ay ax))) (by omega)) rfl⟩


set_option maxRecDepth 4000 in
set_option maxHeartbeats 2000000 in
theorem c_angleWide_nan {y x : Nat} {Y X : Option Nat} (hy : Fl .f64 y Y) (hx : Fl .f64 x X) (hf : ffin .f64 Y = false ∨ (ffin .f64 Y = true ∧ ffin .f64 X = false)) (w : World) :
    Calls Try.prog 55 #[.float .f64 y, .float .f64 x] w fun e w' => ∃ r, e = .returned (.float .f64 r) ∧ Fl .f64 r none ∧ Dr w w' := by
  rcases hf with hfy | ⟨hfy, hfx⟩
  · have Hfy := Lib.hid hfy
    clear hfy
    go_enter Try.func55, Try.ntmps55
    go_wp2_with (fail)
    (apply upon_fop rfl; (first | assumption | exact Fl.const (of_decide_eq_true (by kernel_rfl))); (first | assumption | exact Fl.const (of_decide_eq_true (by kernel_rfl))))
    intro d nd hd
    have hz := self_nonzero hy Hfy.out hd
    clear hd
    go_wp2_with (go_in)
    go_ret
    exact ⟨_, rfl, ⟨by decide +kernel, by decide +kernel⟩, _, rfl⟩
  · have Hfy := Lib.hid hfy
    have Hfx := Lib.hid hfx
    clear hfy hfx
    go_enter Try.func55, Try.ntmps55
    go_wp2_with (fail)
    (apply upon_fop rfl; (first | assumption | exact Fl.const (of_decide_eq_true (by kernel_rfl))); (first | assumption | exact Fl.const (of_decide_eq_true (by kernel_rfl))))
    intro d nd hd
    have hz := self_zero hy Hfy.out hd
    clear hd
    go_wp2_with (fail)
    (apply upon_fop rfl; (first | assumption | exact Fl.const (of_decide_eq_true (by kernel_rfl))); (first | assumption | exact Fl.const (of_decide_eq_true (by kernel_rfl))))
    intro d2 nd2 hd2
    have hz2 := self_nonzero hx Hfx.out hd2
    clear hd2
    go_wp2_with (go_in)
    go_ret
    exact ⟨_, rfl, ⟨by decide +kernel, by decide +kernel⟩, _, rfl⟩

set_option maxRecDepth 4000 in
set_option maxHeartbeats 2000000 in
theorem c_angleWide_zero {y x : Nat} {Y X : Option Nat} (hy : Fl .f64 y Y) (hx : Fl .f64 x X) (hfy : ffin .f64 Y = true) (hfx : ffin .f64 X = true)
    (hzx : (FloatKind.f64.format.order x 0 == some .eq) = true) (hzy : (FloatKind.f64.format.order y 0 == some .eq) = true) (w : World) :
    Calls Try.prog 55 #[.float .f64 y, .float .f64 x] w fun e w' => ∃ r, e = .returned (.float .f64 r) ∧ Fl .f64 r (some 0) ∧ Dr w w' := by
  have Hfy := Lib.hid hfy
  have Hfx := Lib.hid hfx
  clear hfy hfx
  go_enter Try.func55, Try.ntmps55
  go_wp2_with (fail)
  (apply upon_fop rfl; (first | assumption | exact Fl.const (of_decide_eq_true (by kernel_rfl))); (first | assumption | exact Fl.const (of_decide_eq_true (by kernel_rfl))))
  intro d nd hd
  have hz := self_zero hy Hfy.out hd
  clear hd
  go_wp2_with (fail)
  (apply upon_fop rfl; (first | assumption | exact Fl.const (of_decide_eq_true (by kernel_rfl))); (first | assumption | exact Fl.const (of_decide_eq_true (by kernel_rfl))))
  intro d2 nd2 hd2
  have hz2 := self_zero hx Hfx.out hd2
  clear hd2
  go_wp2_with (fail)
  go_ret
  exact ⟨0, rfl, ⟨by decide +kernel, by decide +kernel⟩, _, rfl⟩

set_option maxHeartbeats 2000000 in
theorem c_spec_l01Angle {y x : Nat} {Y X R : Option Nat} (hy : Fl .f32 y Y) (hx : Fl .f32 x X) (hc : AngleCase y x Y X R) (w : World) :
    Calls Try.prog 37 #[.float .f32 y, .float .f32 x] w fun e w' => ∃ r, e = .returned (.float .f32 r) ∧ Fl .f32 r R ∧ Dr w w' := by
  have wy := ffin_wide hy
  have wx := ffin_wide hx
  have hfull : ∀ Q : Option Nat, Fits .f64 .f32 Q → (∀ W : World, ∀ yy xx : Nat, Fl .f64 yy (fconv .f32 .f64 Y) → Fl .f64 xx (fconv .f32 .f64 X) → Calls Try.prog 55 #[.float .f64 yy, .float .f64 xx] W fun e w' => ∃ r, e = .returned (.float .f64 r) ∧ Fl .f64 r Q ∧ Dr W w') →
      Calls Try.prog 37 #[.float .f32 y, .float .f32 x] w fun e w' => ∃ r, e = .returned (.float .f32 r) ∧ Fl .f32 r (fconv .f64 .f32 Q) ∧ Dr w w' := by
    intro Q hfit hw
    have HW := Lib.hid hw
    clear hw wy wx hc
    go_enter Try.func37, Try.ntmps37
    go_wp2_with (fail)
    (apply upon_wide s_f32 Try.underlying22; (first | assumption | exact Fl.const (of_decide_eq_true (by kernel_rfl))))
    intro yy ny hyy
    go_wp2_with (fail)
    (apply upon_wide s_f32 Try.underlying22; (first | assumption | exact Fl.const (of_decide_eq_true (by kernel_rfl))))
    intro xx nx hxx
    go_wp2_with (first | (go_at_call 55; refine Calls.mono (HW.out _ _ _ hyy hxx) ?_; rintro e w' ⟨q, rfl, hq, nq, rfl⟩) | (apply upon_narrow s_f64 Try.underlying28; (first | assumption | exact Fl.const (of_decide_eq_true (by kernel_rfl))); assumption; intro r n hr) | go_in)
    go_ret
    exact ⟨r, rfl, hr, _, rfl⟩
  cases hc with
  | nan1 hf hR =>
    subst hR
    rw [hf] at wy
    exact hfull none narrow_none fun W yy xx h1 h2 => c_angleWide_nan h1 h2 (Or.inl wy) W
  | nan2 hf hf2 hR =>
    subst hR
    rw [hf] at wy
    rw [hf2] at wx
    exact hfull none narrow_none fun W yy xx h1 h2 => c_angleWide_nan h1 h2 (Or.inr ⟨wy, wx⟩) W
  | zero hf hf2 zx zy zx' zy' hR =>
    subst hR
    obtain ⟨hfit, hz⟩ := narrow_null
    have e1 := (fin_wide_word hy hf).2
    have e2 := (fin_wide_word hx hf2).2
    rw [hf] at wy
    rw [hf2] at wx
    have h := hfull (some 0) hfit fun W yy xx h1 h2 => by
      have k1 : yy = wide y := by have := h1.eq; rw [e1] at this; exact (fl_some this).1.symm
      have k2 : xx = wide x := by have := h2.eq; rw [e2] at this; exact (fl_some this).1.symm
      subst k1; subst k2
      exact c_angleWide_zero h1 h2 wy wx zx' zy' W
    rw [hz] at h
    exact h
  | gen zx zy xneg yneg over hf hf2 hz hzx hzy hxn hyn hzx' hzy' hxn' hyn' hA hB ho hfit hR =>
    subst hR
    have e1 := (fin_wide_word hy hf).2
    have e2 := (fin_wide_word hx hf2).2
    rw [hf] at wy
    rw [hf2] at wx
    exact hfull _ hfit fun W yy xx h1 h2 => by
      have k1 : yy = wide y := by have := h1.eq; rw [e1] at this; exact (fl_some this).1.symm
      have k2 : xx = wide x := by have := h2.eq; rw [e2] at this; exact (fl_some this).1.symm
      subst k1; subst k2
      exact c_l01AngleWide h1 h2 wy wx zx zy xneg yneg over hz hzx' hzy' hxn' hyn' hA hB ho W

set_option maxRecDepth 4000 in
set_option maxHeartbeats 2000000 in
theorem c_impl_AngleTurns {y x : Nat} {Y X R : Option Nat} (hy : Fl .f32 y Y) (hx : Fl .f32 x X) (hc : AngleCase y x Y X R) (w : World) :
    Calls Try.prog 16 #[.float .f32 y, .float .f32 x] w fun e w' => ∃ r, e = .returned (.float .f32 r) ∧ Fl .f32 r R ∧ Dr w w' := by
  cases hc with
  | nan1 hf hR =>
    subst hR
    cases hf2 : ffin .f32 X
    all_goals
      go_enter Try.func16, Try.ntmps16
      go_wp2_with (first | (go_at_call 38; refine Calls.mono (c_impl_IsFinite hx _) ?_; rintro e w' ⟨rfl, n1, rfl⟩) | (go_at_call 38; refine Calls.mono (c_impl_IsFinite hy _) ?_; rintro e w' ⟨rfl, n2, rfl⟩) | go_in)
      go_ret
      exact ⟨_, rfl, ⟨by decide +kernel, by decide +kernel⟩, _, rfl⟩
  | nan2 hf hf2 hR =>
    subst hR
    go_enter Try.func16, Try.ntmps16
    go_wp2_with (first | (go_at_call 38; refine Calls.mono (c_impl_IsFinite hx _) ?_; rintro e w' ⟨rfl, n1, rfl⟩) | (go_at_call 38; refine Calls.mono (c_impl_IsFinite hy _) ?_; rintro e w' ⟨rfl, n2, rfl⟩) | go_in)
    go_ret
    exact ⟨_, rfl, ⟨by decide +kernel, by decide +kernel⟩, _, rfl⟩
  | zero hf hf2 zx zy zx' zy' hR =>
    subst hR
    clear zx' zy'
    go_enter Try.func16, Try.ntmps16
    go_wp2_with (first | (go_at_call 38; refine Calls.mono (c_impl_IsFinite hx _) ?_; rintro e w' ⟨rfl, n1, rfl⟩) | (go_at_call 38; refine Calls.mono (c_impl_IsFinite hy _) ?_; rintro e w' ⟨rfl, n2, rfl⟩) | go_in)
    go_ret
    exact ⟨0, rfl, ⟨by decide +kernel, by decide +kernel⟩, _, rfl⟩
  | gen zx zy xneg yneg over hf hf2 hz hzx hzy hxn hyn hzx' hzy' hxn' hyn' hA hB ho hfit hR =>
    subst hR
    have E1 := Lib.hid (fin_wide_word hy hf).2
    have E2 := Lib.hid (fin_wide_word hx hf2).2
    have hflat := fun W => c_flatAngle hA hB over ho W
    generalize fflat over (some (wide y % 9223372036854775808)) (some (wide x % 9223372036854775808)) = G at *
    have HFl := Lib.hid hflat
    clear hflat ho hA hB hzx' hzy' hxn' hyn'
    have hcase : zx = false ∨ (zx = true ∧ zy = false) := by cases zx <;> cases zy <;> simp_all
    rcases hcase with rfl | ⟨rfl, rfl⟩
    all_goals
      clear hz
      cases xneg <;> cases yneg
      all_goals
        go_enter Try.func16, Try.ntmps16
        go_wp2_with (first | (go_at_call 38; refine Calls.mono (c_impl_IsFinite hx _) ?_; rintro e w' ⟨rfl, n1, rfl⟩) | (go_at_call 38; refine Calls.mono (c_impl_IsFinite hy _) ?_; rintro e w' ⟨rfl, n2, rfl⟩))
        (apply upon_wide s_f32 Try.underlying22; (first | assumption | exact Fl.const (of_decide_eq_true (by kernel_rfl))))
        intro yy ny hyy
        have k1 : yy = wide y := by have := hyy.eq; rw [E1.out] at this; exact (fl_some this).1.symm
        subst k1
        go_wp2_with (go_at_call 40; refine Calls.mono (c_Abs _ hyy.lt _) ?_; rintro e w' ⟨rfl, rfl⟩)
        (apply upon_wide s_f32 Try.underlying22; (first | assumption | exact Fl.const (of_decide_eq_true (by kernel_rfl))))
        intro xx nx hxx
        have k2 : xx = wide x := by have := hxx.eq; rw [E2.out] at this; exact (fl_some this).1.symm
        subst k2
        go_wp2_with (first | (go_at_call 40; refine Calls.mono (c_Abs _ hxx.lt _) ?_; rintro e w' ⟨rfl, rfl⟩) | (go_at_call 39; refine Calls.mono (HFl.out _) ?_; rintro e w' ⟨q, rfl, hq, nq, rfl⟩))
      · have hG : Fl .f64 q (fang false false G) := hq
        go_wp2_with (first | (apply upon_narrow s_f64 Try.underlying28; (first | assumption | exact Fl.const (of_decide_eq_true (by kernel_rfl))); assumption; intro r n hr) | go_in)
        go_ret
        exact ⟨r, rfl, hr, _, rfl⟩
      · have hG : Fl .f64 (Op.negFloat .f64 q) (fang false true G) := fneg_fl hq
        clear hq
        go_wp2_with (first | (apply upon_narrow s_f64 Try.underlying28; (first | assumption | exact Fl.const (of_decide_eq_true (by kernel_rfl))); assumption; intro r n hr) | go_in)
        go_ret
        exact ⟨r, rfl, hr, _, rfl⟩
      · (apply upon_fop rfl; (first | assumption | exact Fl.const (of_decide_eq_true (by kernel_rfl))); (first | assumption | exact Fl.const (of_decide_eq_true (by kernel_rfl))))
        intro h nh hh
        have hG : Fl .f64 h (fang true false G) := hh
        clear hh
        go_wp2_with (first | (apply upon_narrow s_f64 Try.underlying28; (first | assumption | exact Fl.const (of_decide_eq_true (by kernel_rfl))); assumption; intro r n hr) | go_in)
        go_ret
        exact ⟨r, rfl, hr, _, rfl⟩
      · (apply upon_fop rfl; (first | assumption | exact Fl.const (of_decide_eq_true (by kernel_rfl))); (first | assumption | exact Fl.const (of_decide_eq_true (by kernel_rfl))))
        intro h nh hh
        have hG : Fl .f64 (Op.negFloat .f64 h) (fang true true G) := fneg_fl hh
        clear hh
        go_wp2_with (first | (apply upon_narrow s_f64 Try.underlying28; (first | assumption | exact Fl.const (of_decide_eq_true (by kernel_rfl))); assumption; intro r n hr) | go_in)
        go_ret
        exact ⟨r, rfl, hr, _, rfl⟩

set_option maxHeartbeats 800000 in
theorem w_FnExactAngleTurns {a b : Nat} (ha : a < 4294967296) (hb : b < 4294967296) {w : World} :
    Calls Try.prog 5 #[.float .f32 a, .float .f32 b] w fun e w' => e = .returned (.bool true) ∧ Below w.heap.size w w' := by
  have fa := Fl.of32 ha
  have fb := Fl.of32 hb
  obtain ⟨R, hc⟩ := angle_case fa fb
  go_enter Try.func5, Try.ntmps5
  go_wp2_with (first | (go_at_call 37; refine Calls.mono (c_spec_l01Angle fa fb hc _) ?_; rintro e w' ⟨r1, rfl, hr1, n1, rfl⟩) | (go_at_call 15; go_in) | (go_at_call 16; refine Calls.mono (c_impl_AngleTurns fa fb hc _) ?_; rintro e w' ⟨r2, rfl, hr2, n2, rfl⟩) | (apply upon_wide s_f32 Try.underlying22; (first | assumption | exact Fl.const (of_decide_eq_true (by kernel_rfl))); intro r n hr) | (go_at_call 14; refine Calls.mono (c_sameFloat (by assumption) (by assumption) _) ?_; rintro e w' ⟨rfl, n3, rfl⟩))
  go_ret
  exact ⟨rfl, Dr.below ⟨_, rfl⟩⟩
open Go.ChangeShapes Go.WideShapes Go.ChangeAt Go.ChangeMaps in
theorem FnExactAngleTurns_holds : Rows.FnExactAngleTurnsSaid :=
  OpenClaim.holds_of_wide 5 Try.f5 rfl rfl rfl rfl rfl rfl rfl ⟨rfl, rfl, rfl, rfl, rfl⟩ rfl rfl rfl rfl rfl (by kernel_rfl) Try.func5 (by kernel_rfl)
    (of_decide_eq_true (by kernel_rfl)) (by unfold Func.isWrapper; first | (rw [if_pos (by decide +kernel)]; kernel_rfl) | (rw [if_neg (by decide +kernel)]; exact ⟨rfl, rfl⟩))
    (fun os started H enc _ => law_lifted os started H enc 5 Try.f5 Rows.fnExactAngleTurnsSpec (by kernel_rfl) Try.func5
      (ChangeSpec.witness6 (enc := enc) (C := Try.checked) false ⟨#[], #[.float .f32 0, .float .f32 0], []⟩ 8 (by kernel_rfl) (by kernel_rfl) (by kernel_rfl) (by kernel_rfl))
      (by rw [Try.params5]; intro t ht; simp at ht; subst ht <;> exact ⟨by kernel_rfl, of_decide_eq_true (by kernel_rfl)⟩) rfl 4 (by kernel_rfl) Try.underlying4
      (by intro ds hds; rw [Try.params5] at hds; match ds, hds with | [_, _], _ => rfl)
      (by
        intro W base args ds ps hval hA hlt
        rw [Try.params5] at hA hval
        obtain ⟨v0, v1, d0, d1, p0, p1, rfl, rfl, rfl, h0, h1⟩ := trodAll_two hA
        obtain ⟨a0, rfl, rfl, rfl, k0⟩ := open_float Try.underlying28 (hval 0 28 v0 rfl rfl) h0
        obtain ⟨a1, rfl, rfl, rfl, k1⟩ := open_float Try.underlying28 (hval 1 28 v1 rfl rfl) h1
        exact w_FnExactAngleTurns (w := W) (wf32 k0) (wf32 k1)))

end Go.Proofs.Ytcfbpgfihmmnoab
