/- Pure facts for chapter 1's numbers: finite, subnormal, flushed, by bits and by the order. No condition but that words are 32 or 64 bits. -/
import Derived.Test.YtfmhdnhaaohdjaaConv
namespace Go.Proofs.Ytfmhdnhaaohdjaa
open Ieee

theorem and_mask (n w s : Nat) : n &&& ((2 ^ w - 1) * 2 ^ s) = (n / 2 ^ s % 2 ^ w) * 2 ^ s := by
  rw [← Nat.shiftLeft_eq, ← Nat.shiftLeft_eq, ← Nat.shiftRight_eq_div_pow]
  apply Nat.eq_of_testBit_eq
  intro i
  simp only [Nat.testBit_and, Nat.testBit_shiftLeft, Nat.testBit_two_pow_sub_one, Nat.testBit_mod_two_pow, Nat.testBit_shiftRight]
  by_cases h : s ≤ i
  · rw [show s + (i - s) = i by omega]
    simp [h, Bool.and_comm]
  · simp [h]

theorem word_mod (b : Nat) : b &&& (18446744073709551615 - 9223372036854775808) = b % 9223372036854775808 := by
  have := and_mask b 63 0
  simp only [Nat.pow_zero, Nat.mul_one, Nat.div_one] at this
  exact this

theorem cmp_eq (x y : Int) : compare x y = if x < y then .lt else if x = y then .eq else .gt := rfl

/-- The greatest finite float64. -/
theorem fin_max : Fin_ .f64 9218868437227405311 false (2 ^ 53 - 1) 2045 := by
  have h := Fin_.of_word .f64 false (2 ^ 53 - 1) 2045 (by decide +kernel) (Or.inr (by decide +kernel)) (by decide +kernel)
  have e : FloatKind.f64.format.word false (2045 * FloatKind.f64.format.binade + (2 ^ 53 - 1)) = 9218868437227405311 := by decide +kernel
  rwa [e] at h

theorem sw64 : FloatKind.f64.format.signWeight = 9223372036854775808 := by decide +kernel
theorem sw32 : FloatKind.f32.format.signWeight = 2147483648 := by decide +kernel
theorem bin64 : FloatKind.f64.format.binade = 4503599627370496 := by decide +kernel
theorem bin32 : FloatKind.f32.format.binade = 8388608 := by decide +kernel
theorem inf64 : FloatKind.f64.format.infRung = 2047 * 4503599627370496 := by decide +kernel
theorem inf32 : FloatKind.f32.format.infRung = 255 * 8388608 := by decide +kernel

/-- The absolute value of a finite word. -/
theorem Fin_.abs {b : Nat} {s : Bool} {m e : Nat} (h : Fin_ .f64 b s m e) : Fin_ .f64 (b % 9223372036854775808) false m e := by
  have hr := h.rung
  rw [sw64] at hr
  rw [hr]
  have := Fin_.of_word .f64 false m e h.lt h.low h.top
  simpa [Format.word] using this

theorem inf_abs {b : Nat} (hg : b % FloatKind.f64.format.signWeight = FloatKind.f64.format.infRung) : FloatKind.f64.format.read (b % 9223372036854775808) = .infinity false := by
  rw [sw64] at hg
  rw [hg]
  decide +kernel

theorem nan_rung (k : FloatKind) (b : Nat) : fl k b = none ↔ k.format.infRung < b % k.format.signWeight := by
  have hbi := binade_le_inf k
  unfold fl FloatKind.decode Format.read
  simp only
  generalize b % k.format.signWeight = rung
  by_cases h1 : rung < k.format.binade
  · simp only [if_pos h1, Datum.isNaN]; simp; omega
  · simp only [if_neg h1]
    by_cases h2 : rung < k.format.infRung
    · simp only [if_pos h2, Datum.isNaN]; simp; omega
    · simp only [if_neg h2]
      by_cases h3 : rung = k.format.infRung
      · simp only [if_pos h3, Datum.isNaN]; simp; omega
      · simp only [if_neg h3, Datum.isNaN]; simp; omega

theorem nan_abs {b : Nat} (h : fl .f64 b = none) : fl .f64 (b % 9223372036854775808) = none := by
  rw [nan_rung] at h ⊢
  rw [sw64] at h ⊢
  omega

theorem cmp_le (m e n j : Nat) (hm : m ≤ n) (he : e ≤ j) : (some (compare (sv false m e) (sv false n j)) == some Ordering.gt) = false := by
  have hle : m * 2 ^ e ≤ n * 2 ^ j := Nat.mul_le_mul hm (Nat.pow_le_pow_right (by omega) he)
  unfold sv
  simp only [Bool.false_eq_true, if_false]
  generalize n * 2 ^ j = B at *
  generalize m * 2 ^ e = A at *
  rw [cmp_eq]
  by_cases h1 : (A : Int) < B
  · rw [if_pos h1]; rfl
  · rw [if_neg h1, if_pos (by omega)]; rfl

/-- Greater than all finite ones: infinite. -/
theorem abs_gt_max (b : Nat) (hn : fl .f64 b ≠ none) : (FloatKind.f64.format.order (b % 9223372036854775808) 9218868437227405311 == some .gt) = !ffin .f64 (fl .f64 b) := by
  rcases shape .f64 b with ⟨s, m, e, h⟩ | ⟨s, hr, hg, _⟩ | h
  · rw [h.ffin, h.abs.order fin_max]
    have hm : m ≤ 2 ^ 53 - 1 := by have := h.lt; rw [bin64] at this; omega
    have he : e ≤ 2045 := by have h1 := h.top; have h2 := h.low; rw [bin64, inf64] at h1; rw [bin64] at h2; omega
    exact cmp_le m e _ _ hm he
  · have hf : ffin .f64 (fl .f64 b) = false := by rw [fl_inf hr]; unfold ffin FloatKind.decode; simp only; rw [hr]; rfl
    rw [hf]
    unfold Format.order
    rw [inf_abs hg, fin_max.read]
    rfl
  · exact absurd h hn

/-- A 32-bit number made wide is finite where it is. -/
theorem ffin_wide {b : Nat} {X : Option Nat} (h : Fl .f32 b X) : ffin .f64 (fconv .f32 .f64 X) = ffin .f32 X := by
  rw [← h.eq]
  unfold fconv; rw [if_neg (by decide)]
  rcases shape .f32 b with ⟨s, m, e, h⟩ | ⟨s, hr, hg, _⟩ | h
  · obtain ⟨m', e', hw, _⟩ := h.wide
    rw [h.ffin, h.fl]
    have := hw.ffin
    rw [hw.fl] at this
    exact this
  · rw [fl_inf hr]
    have h1 := wide_inf hr
    unfold ffin FloatKind.decode
    simp only [Option.map_some]
    have e1 : FloatKind.f64.encode (FloatKind.f32.format.read b) = wide b := rfl
    rw [e1, h1, hr]
  · rw [h]; rfl

/-- The bits that tell a number: one for every NaN. -/
def fbits (x : Option Nat) : Int := match x with | none => 2143289344 | some b => b

/-- Subnormal. -/
def fsubn (x : Option Nat) : Bool := match x with | none => false | some b => decide (b % 2147483648 ≠ 0 ∧ b % 2147483648 < 8388608)

theorem mask32 (b : Nat) : b &&& 2139095040 = (b / 8388608 % 256) * 8388608 := and_mask b 8 23
theorem mask32_zero (b : Nat) : (b &&& 2139095040 = 0) ↔ b % 2147483648 < 8388608 := by rw [mask32]; omega
theorem sign32 (b : Nat) (hb : b < 4294967296) : b &&& 2147483648 = b / 2147483648 * 2147483648 := by
  have := and_mask b 1 31
  simp only [Nat.reducePow, Nat.reduceSub, Nat.one_mul] at this
  rw [this]; omega

def fzero32 (X : Option Nat) : Bool := match X with | none => false | some c => decide (c % 2147483648 = 0)
def ftiny32 (X : Option Nat) : Bool := match X with | none => false | some c => decide (c % 2147483648 < 8388608)
/-- Zero, of a float32. -/
theorem zero32 (b : Nat) : (FloatKind.f32.format.order b 0 == some .eq) = fzero32 (fl .f32 b) := by
  have h0 : Fin_ .f32 0 false 0 0 := by
    have := Fin_.of_word .f32 false 0 0 (by decide +kernel) (Or.inl rfl) (by decide +kernel)
    have e : FloatKind.f32.format.word false (0 * FloatKind.f32.format.binade + 0) = 0 := by decide +kernel
    rwa [e] at this
  rcases shape .f32 b with ⟨s, m, e, h⟩ | ⟨s, hr, hg, _⟩ | h
  · rw [h.order h0, h.fl]
    have hz : sv false 0 0 = 0 := by decide
    rw [hz]
    have hr := h.rung
    rw [sw32] at hr
    simp only [fzero32, hr]
    have hl := h.low
    by_cases hm : m = 0
    · have he : e = 0 := by rw [bin32] at hl; omega
      subst hm; subst he
      cases s <;> simp [sv]
    · have hne : e * FloatKind.f32.format.binade + m ≠ 0 := by omega
      have hs : sv s m e ≠ 0 := by
        unfold sv
        have := Nat.mul_ne_zero hm (show 2 ^ e ≠ 0 by have := Nat.two_pow_pos e; omega)
        split <;> omega
      rw [cmp_eq]
      simp only [hne, decide_false]
      by_cases hlt : sv s m e < 0
      · rw [if_pos hlt]; rfl
      · rw [if_neg hlt, if_neg hs]; rfl
  · rw [fl_inf hr]
    have hx : b % 2147483648 = 255 * 8388608 := by rw [sw32, inf32] at hg; exact hg
    simp only [fzero32, hx]
    unfold Format.order
    rw [hr, h0.read]
    cases s <;> rfl
  · rw [h, order_fl, h]; rfl

theorem fin_tiny : Fin_ .f64 4039728865751334912 false (2 ^ 52) 896 := by
  have h := Fin_.of_word .f64 false (2 ^ 52) 896 (by decide +kernel) (Or.inr (by decide +kernel)) (by decide +kernel)
  have e : FloatKind.f64.format.word false (896 * FloatKind.f64.format.binade + 2 ^ 52) = 4039728865751334912 := by decide +kernel
  rwa [e] at h

theorem cmp_scaled (m' e' a n j c d : Nat) (hv : m' * 2 ^ e' = a * 2 ^ d) (hn : n * 2 ^ j = c * 2 ^ d) : compare (sv false m' e') (sv false n j) = if a < c then .lt else if a = c then .eq else .gt := by
  unfold sv
  simp only [Bool.false_eq_true, if_false, hv, hn]
  rw [Int.natCast_mul, Int.natCast_mul, cmp_scale _ _ _ (Nat.two_pow_pos _), cmp_eq]
  by_cases h1 : a < c
  · rw [if_pos h1, if_pos (by omega)]
  · rw [if_neg h1, if_neg (by omega)]
    by_cases h2 : a = c
    · rw [if_pos h2, if_pos (by omega)]
    · rw [if_neg h2, if_neg (by omega)]

theorem pow_mix (a b c d : Nat) (h : a + b = c + d) : 2 ^ a * 2 ^ b = 2 ^ c * 2 ^ d := by rw [← Nat.pow_add, ← Nat.pow_add, h]

/-- Nearer to 0 than 2 to the -126th, as 64-bit numbers tell it. -/
theorem tiny32 {b r : Nat} (h : Fl .f64 r (fconv .f32 .f64 (fl .f32 b))) :
    (FloatKind.f64.format.order (r % 9223372036854775808) 4039728865751334912 == some .lt) = ftiny32 (fl .f32 b) := by
  have he := h.eq
  unfold fconv at he; rw [if_neg (by decide)] at he
  rcases shape .f32 b with ⟨s, m, e, k⟩ | ⟨s, hr, hg, _⟩ | k
  · obtain ⟨m', e', hw, hv⟩ := k.wide
    rw [k.fl] at he ⊢
    have hr : r = wide b := by
      obtain ⟨h1, _⟩ := fl_some he
      exact h1.symm
    rw [hr, hw.abs.order fin_tiny]
    have hrg := k.rung
    rw [sw32] at hrg
    simp only [ftiny32, hrg]
    have hl := k.low
    have hlt := k.lt
    rw [bin32] at hl hlt
    rw [cmp_scaled m' e' (m * 2 ^ e) (2 ^ 52) 896 (2 ^ 23) 925 (by rw [hv, Nat.pow_add, Nat.mul_assoc]) (pow_mix 52 896 23 925 (by omega)), show (2 : Nat) ^ 23 = 8388608 from rfl]
    have hiff : (m * 2 ^ e < 8388608) ↔ (e * FloatKind.f32.format.binade + m < 8388608) := by
      rw [bin32]
      rcases hl with h0 | h0
      · subst h0; simp
      · by_cases he0 : e = 0
        · subst he0; simp
        · have : m * 1 ≤ m * 2 ^ e := Nat.mul_le_mul_left _ (Nat.two_pow_pos _)
          constructor <;> intro <;> omega
    by_cases hc : m * 2 ^ e < 8388608
    · rw [if_pos hc]
      simp [hiff.1 hc]
    · rw [if_neg hc]
      have hc' : ¬ (e * FloatKind.f32.format.binade + m < 8388608) := fun hh => hc (hiff.2 hh)
      simp only [hc', decide_false]
      split <;> rfl
  · rw [fl_inf hr] at he ⊢
    have hx : b % 2147483648 = 255 * 8388608 := by rw [sw32, inf32] at hg; exact hg
    have hr' : r = wide b := by
      obtain ⟨h1, _⟩ := fl_some he
      exact h1.symm
    have hwi := wide_inf hr
    rw [hr']
    have hgi : wide b % FloatKind.f64.format.signWeight = FloatKind.f64.format.infRung := by
      rcases shape .f64 (wide b) with ⟨t, n, j, q⟩ | ⟨t, q1, q2, _⟩ | q
      · rw [q.read] at hwi; cases hwi
      · exact q2
      · rw [fl_inf hwi] at q; cases q
    unfold Format.order
    rw [inf_abs hgi, fin_tiny.read]
    simp only [ftiny32, hx]
    rfl
  · rw [k] at he ⊢
    have : fl .f64 r = none := he
    rw [order_fl, nan_abs this]; rfl

/-- Flushed: a zero of its sign for what is nearer to 0 than the least normal number. -/
def fflush (X : Option Nat) : Option Nat := X.map fun b => if b % 2147483648 < 8388608 then b / 2147483648 * 2147483648 else b

theorem fl_zero32 (c : Nat) : fl .f32 (c / 2147483648 * 2147483648) = some (c / 2147483648 * 2147483648) := by
  cases h : fl .f32 (c / 2147483648 * 2147483648) with
  | none => rw [nan_rung, sw32] at h; omega
  | some d => rw [(fl_some h).1]

theorem wide_sign {c : Nat} (hc : c < 4294967296) (h : fsubn (fl .f32 c) = true) : fconv .f32 .f64 (fl .f32 c) = some (wide c) ∧ wide c / 9223372036854775808 * 9223372036854775808 = c / 2147483648 * 9223372036854775808 := by
  rcases shape .f32 c with ⟨s, m, e, k⟩ | ⟨s, hr, hg, _⟩ | k
  · obtain ⟨m', e', hw, _⟩ := k.wide
    rw [k.fl]
    refine ⟨rfl, ?_⟩
    have h1 := k.sign
    have h2 := hw.sign
    rw [sw32] at h1
    rw [sw64] at h2
    have hlt : wide c < 18446744073709551616 := FloatKind.f64.format.write_lt _
    rw [h1] at h2
    have hq1 : c / 2147483648 = 0 ∨ c / 2147483648 = 1 := by omega
    have hq2 : wide c / 9223372036854775808 = 0 ∨ wide c / 9223372036854775808 = 1 := by omega
    rcases hq1 with q1 | q1 <;> rcases hq2 with q2 | q2 <;> rw [q1, q2] at h2 ⊢ <;> simp at h2
  · rw [fl_inf hr] at h
    rw [sw32, inf32] at hg
    simp [fsubn] at h
    omega
  · rw [k] at h; cases h

theorem narrow_zero (q : Nat) (hq : q = 0 ∨ q = 1) : fl .f64 (q * 9223372036854775808) = some (q * 9223372036854775808) ∧ Fits .f64 .f32 (some (q * 9223372036854775808)) ∧ fconv .f64 .f32 (some (q * 9223372036854775808)) = some (q * 2147483648) := by
  rcases hq with rfl | rfl
  · refine ⟨by decide +kernel, Or.inr fun a ha => ?_, by decide +kernel⟩
    rw [← Option.some.inj ha]; right; decide +kernel
  · refine ⟨by decide +kernel, Or.inr fun a ha => ?_, by decide +kernel⟩
    rw [← Option.some.inj ha]; right; decide +kernel
end Go.Proofs.Ytfmhdnhaaohdjaa
