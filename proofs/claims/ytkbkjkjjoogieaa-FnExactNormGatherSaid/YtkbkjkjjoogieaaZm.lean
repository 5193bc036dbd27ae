/- Contracts: gathers without what comes first, on both sides. Condition: the gather is read. -/
import Derived.Test.YtkbkjkjjoogieaaZi
import Derived.Test.YtkbkjkjjoogieaaPk
namespace Go.Proofs.Ytkbkjkjjoogieaa
open Go.RowKit Ieee

theorem fin_nzero : Fin_ .f32 2147483648 true 0 0 := by
  have h := Fin_.of_word .f32 true 0 0 (by decide +kernel) (Or.inl rfl) (by decide +kernel)
  have e : FloatKind.f32.format.word true (0 * FloatKind.f32.format.binade + 0) = 2147483648 := by decide +kernel
  rwa [e] at h
theorem quo_nought {a c m e : Nat} {s : Bool} (ha : Fin_ .f32 a s 0 0) (hc : Fin_ .f32 c false m e) (hm : m ≠ 0) (hw : FloatKind.f32.format.word s 0 = a) : fop .quo .f32 (some a) (some c) = some a := by
  have em : fop .quo .f32 (some a) (some c) = ((FloatKind.f32.format.read a).quotient (FloatKind.f32.format.fractionBits + 2) (FloatKind.f32.format.read c)).map FloatKind.f32.format.write := rfl
  rw [em, hc.read, ha.read]
  simp only [Datum.quotient, if_neg hm, Nat.zero_shiftLeft, Nat.zero_div, Nat.mul_zero, Nat.zero_mod, Bool.xor_false]
  show some (FloatKind.f32.format.nearest s 0 _) = some a
  rw [near_zero, hw]
theorem quo_zero {r : Nat} {S : Option Nat} (fs : Fl .f32 r S) (hS : fabove S = true) : fop .quo .f32 (some 2147483648) S = some 2147483648 ∧ fop .quo .f32 (some 0) S = some 0 := by
  unfold fabove at hS
  rw [Bool.and_eq_true] at hS
  obtain ⟨hf, hg⟩ := hS
  have hX := fs.eq
  rcases shape .f32 r with ⟨s, m, e, k⟩ | ⟨s, hr, _, _⟩ | k
  · rw [k.fl] at hX
    subst hX
    have hgo := fs.ogt0
    rw [hg, k.order fin_zero, sv_zero] at hgo
    have hcm : compare (sv s m e) 0 = .gt := by
      have h9 : some (compare (sv s m e) 0) = some Ordering.gt := by simpa using hgo
      exact Option.some.inj h9
    rw [cmp_eq] at hcm
    have hpos : 0 < sv s m e := by
      by_cases h1 : sv s m e < 0
      · rw [if_pos h1] at hcm; cases hcm
      · rw [if_neg h1] at hcm
        by_cases h2 : sv s m e = 0
        · rw [if_pos h2] at hcm; cases hcm
        · omega
    have hm : m ≠ 0 := by rintro rfl; rw [sv_zero] at hpos; omega
    have hs : s = false := by
      cases s
      · rfl
      · rw [sv_neg] at hpos; have := sv_pos (show 0 < m by omega) e; omega
    subst hs
    exact ⟨quo_nought fin_nzero k hm (by decide +kernel), quo_nought fin_zero k hm (by decide +kernel)⟩
  · rw [fl_inf hr] at hX
    subst hX
    unfold ffin FloatKind.decode at hf
    simp only at hf
    rw [hr] at hf; cases hf
  · rw [k] at hX; subst hX; cases hf
theorem abs_form {b : Nat} {P : Option Nat} (fp : Fl .f32 b P) (hP : ffin .f32 P = true) : ∃ m e, e * 8388608 + m < 255 * 8388608 ∧ Fin_ .f32 (e * 8388608 + m) false m e ∧ fconv .f64 .f32 (fabs64 P) = some (e * 8388608 + m) ∧ (∃ c m' e', fabs64 P = some c ∧ Fin_ .f64 c false m' e' ∧ narrow c = e * 8388608 + m) ∧
    (fsz P = some (e * 8388608 + m) ∨ (fsz P = some 2147483648 ∧ e * 8388608 + m = 0)) := by
  have hPn : P ≠ none := by rintro rfl; cases hP
  have hb : b < 4294967296 := fp.lt
  have hX := fp.eq
  rcases shape .f32 b with ⟨s, m0, e0, k⟩ | ⟨s, hr, _, _⟩ | k
  · rw [k.fl] at hX
    obtain ⟨m1, e1, hw, _⟩ := k.wide
    have h40 : fabs64 P = some (wide b % 9223372036854775808) := by
      rw [← hX]; unfold fabs64 fconv; rw [if_neg (by decide)]; rfl
    rcases abs2 fp hPn with ⟨a, c, t, m, e, m', e', h1, h2, h3, h4, h5, h6⟩ | ⟨a, c, h1, h2, h4, h5⟩
    · obtain ⟨q1, q2, q3, q4⟩ := h2.e32
      have hfw : Fin_ .f32 (e * 8388608 + m) false m e := by
        have hf := Fin_.of_word .f32 false m e h2.lt h2.low h2.top
        have e2 : FloatKind.f32.format.word false (e * FloatKind.f32.format.binade + m) = e * 8388608 + m := by rw [bin32]; simp [Format.word]
        rwa [e2] at hf
      have hna : narrow c = e * 8388608 + m := by
        unfold narrow FloatKind.encode FloatKind.decode
        rw [h5.read]
        show single.nearest false m' (double.leastPlace + (e' : Int)) = _
        rw [double_least, narrow_word false m e m' e' q1 q3 q4 h6, single_binade]
        simp [Format.word]
      refine ⟨m, e, q4, hfw, ?_, ⟨c, m', e', h4, h5, hna⟩, ?_⟩
      · rw [h4]
        unfold fconv
        rw [if_neg (by decide)]
        show some (narrow c) = _
        rw [hna]
      · have hab : a < 4294967296 := by
          have := h1
          unfold fsz at this
          split at this
          · rw [← hX] at this; simp only [fneg32, Option.map_some, Option.some.injEq] at this; rw [← this]; exact neg32_lt hb
          · rw [← hX] at this; cases this; exact hb
        have hwd := word32 h2 hab
        cases t
        · left
          simp only [Bool.false_eq_true, if_false, Nat.zero_add] at hwd
          rw [h1, hwd]
        · right
          have hm0 : m = 0 := by
            rcases Nat.eq_zero_or_pos m with h0 | h0
            · exact h0
            · rw [sv_neg] at h3; have := sv_pos h0 e; omega
          subst hm0
          have he0 : e = 0 := by rcases q3 with h0 | h0; exact h0; omega
          subst he0
          simp only [if_true] at hwd
          rw [h1, hwd]
          exact ⟨rfl, rfl⟩
    · rw [h40] at h4
      cases h4
      have := hw.abs.read
      rw [h5] at this; cases this
  · rw [fl_inf hr] at hX
    subst hX
    unfold ffin FloatKind.decode at hP
    simp only at hP
    rw [hr] at hP; cases hP
  · rw [k] at hX; exact absurd hX.symm hPn
theorem lt_noughts (a : Nat) : (FloatKind.f32.format.order a 2147483648 == some .lt) = (FloatKind.f32.format.order a 0 == some .lt) := by
  rcases shape .f32 a with ⟨s, m, e, k⟩ | ⟨s, hr, _, _⟩ | k
  · rw [k.order fin_nzero, k.order fin_zero, sv_zero, sv_zero]
  · unfold Format.order
    rw [hr, fin_nzero.read, fin_zero.read]
    cases s <;> rfl
  · have e1 := order_fl .f32 a 2147483648
    have e2 := order_fl .f32 a 0
    rw [k] at e1 e2
    rw [e1, e2]; rfl
/-- What comes first is the same, whichever way the sign is taken off. -/
theorem mute_same {b r : Nat} {P S : Option Nat} (fp : Fl .f32 b P) (fs : Fl .f32 r S) (hP : ffin .f32 P = true) (hS : fabove S = true) (k : Nat) :
    flt32 (some (mk k)) (fop .quo .f32 (fconv .f64 .f32 (fabs64 P)) S) = flt32 (some (mk k)) (fop .quo .f32 (fsz P) S) := by
  obtain ⟨m, e, _, _, h1, _, h2 | ⟨h2, h3⟩⟩ := abs_form fp hP
  · rw [h1, h2]
  · rw [h1, h2, h3, (quo_zero fs hS).1, (quo_zero fs hS).2]
    exact (lt_noughts (mk k)).symm
theorem fits_abs {b : Nat} {P : Option Nat} (fp : Fl .f32 b P) (hP : ffin .f32 P = true) : Fits .f64 .f32 (fabs64 P) := by
  obtain ⟨m, e, _, hf, _, ⟨c, m', e', h1, h2, h3⟩, _⟩ := abs_form fp hP
  right
  intro a ha
  rw [h1] at ha
  cases ha
  right
  show (FloatKind.f32.decode (narrow c)).isInfinity = false
  rw [h3]
  unfold FloatKind.decode
  rw [hf.read]; rfl
@[local go_sem] theorem run_neg33 {P : Program} (w : World) (k : FloatKind) (b : Nat) : (Op.unary .neg (.float k b)).run P w = .ok (.float k (Op.negFloat k b)) w := rfl
set_option maxRecDepth 20000 in
set_option maxHeartbeats 2000000 in
theorem c_l04Size {w : World} {b : Nat} {P : Option Nat} (fp : Fl .f32 b P) :
    Calls Try.prog 93 #[.float .f32 b] w fun e w' => ∃ r, e = .returned (.float .f32 r) ∧ Fl .f32 r (fsz P) ∧ Dr w w' := by
  have ho := fp.olt0
  have hng := fneg32_fl fp
  cases hl : lt0 P
  · rw [hl] at ho
    rw [show fsz P = P from if_neg (by rw [show flt32 P fz = lt0 P from rfl, hl]; decide)]
    have HB := Lib.hid fp
    clear hng
    go_enter Try.func93, Try.ntmps93
    go_wp2
    go_ret
    exact ⟨_, rfl, HB.out, 0, rfl⟩
  · rw [hl] at ho
    rw [show fsz P = fneg32 P from if_pos hl]
    have HB := Lib.hid hng
    clear hng
    go_enter Try.func93, Try.ntmps93
    go_wp2
    go_ret
    exact ⟨_, rfl, HB.out, 0, rfl⟩
set_option maxRecDepth 20000 in
set_option maxHeartbeats 2000000 in
theorem c_absoluteOf {w : World} {b : Nat} {P : Option Nat} (fp : Fl .f32 b P) (hP : ffin .f32 P = true) :
    Calls Try.prog 128 #[.float .f32 b] w fun e w' => ∃ r, e = .returned (.float .f32 r) ∧ Fl .f32 r (fconv .f64 .f32 (fabs64 P)) ∧ Dr w w' := by
  have hft := fits_abs fp hP
  clear hP
  go_enter Try.func128, Try.ntmps128
  go_wp2_with (first | (apply upon_wide s_f32 Try.underlying86; (exact fp); intro r4 n4 hr4) | (go_at_call 111; refine Calls.mono (c_Abs _ hr4.lt _) ?_; rintro e w5 ⟨rfl, rfl⟩; have hab := fabs64_fl hr4) | (apply upon_narrow s_f64 Try.underlying79; (exact hab); (exact hft); intro r6 n6 hr6))
  go_ret
  exact ⟨_, rfl, hr6, _, by first | rfl | (simp only [World.drewN_drewN]; rfl)⟩
def muG (S : Option Nat) (G : Gat) (i k : Nat) : Bool := flt32 (some (mk k)) (fop .quo .f32 (fsz (G.p.getD i none)) S)
end Go.Proofs.Ytkbkjkjjoogieaa
