/- Rounding of 64-bit floats keeps a lower bound that is a power of two. No condition. -/
import Derived.Test.YtkoiimjpalhgbabBd
import Derived.Test.YtkoiimjpalhgbabNum
namespace Go.Proofs.Ytkoiimjpalhgbab
open Ieee

theorem two52 : (4503599627370496 : Nat) = 2 ^ 52 := by decide +kernel
theorem nearest_lt (f : Format) (mag : Nat) (place : Int) : f.nearest false mag place < f.signWeight := by
  have hi := f.infRung_lt
  unfold Format.nearest
  split
  · simp only [Format.word, Bool.false_eq_true, if_false]; omega
  · simp only [Format.word, Bool.false_eq_true, if_false]
    exact Nat.lt_of_le_of_lt (Nat.min_le_right _ _) hi

theorem low_lead (b C mag G : Nat) (hG1 : mag < 2 ^ (G + 1)) (h : 2 ^ C ≤ mag * 2 ^ b) : C ≤ G + b := by
  have h1 : 2 ^ C < 2 ^ (G + 1 + b) := by
    refine Nat.lt_of_le_of_lt h ?_
    rw [Nat.pow_add 2 (G + 1) b]
    exact Nat.mul_lt_mul_of_pos_right hG1 (Nat.two_pow_pos _)
  have := (Nat.pow_lt_pow_iff_right (by omega)).1 h1
  omega

theorem low_cut (mag G : Nat) (hG0 : 2 ^ G ≤ mag) : 2 ^ 52 ≤ Toward.even.cut false (mag <<< (52 - G)) (G - 52) := by
  refine Nat.le_trans ?_ (cut_spec false _ _).1
  rw [Nat.le_div_iff_mul_le (Nat.two_pow_pos _), Nat.shiftLeft_eq]
  have hp : 2 ^ 52 * 2 ^ (G - 52) = 2 ^ G * 2 ^ (52 - G) := by
    rw [← Nat.pow_add, ← Nat.pow_add]
    congr 1; omega
  rw [hp]
  exact Nat.mul_le_mul_right _ hG0

theorem low_near (mag b G : Nat) (h0 : mag ≠ 0) (hG : mag.log2 = G) (hb : 52 ≤ G + b) :
    FloatKind.f64.format.nearest false mag (-1074 + (b : Int)) = FloatKind.f64.format.word false (min ((G + b - 52) * 4503599627370496 + Toward.even.cut false (mag <<< (52 - G)) (G - 52)) (2047 * 4503599627370496)) := by
  unfold Format.nearest
  rw [if_neg h0, hG, frac64, least64, bin64, inf64]
  have he : max (-1074 + (b : Int) + (G : Int) - ((52 : Nat) : Int)) (-1074) = -1074 + ((G + b - 52 : Nat) : Int) := by omega
  simp only [he]
  rw [show (-1074 + (b : Int) - (-1074 + ((G + b - 52 : Nat) : Int))).toNat = 52 - G by omega, show (-1074 + ((G + b - 52 : Nat) : Int) - (-1074 + (b : Int))).toNat = G - 52 by omega, show (-1074 + ((G + b - 52 : Nat) : Int) - -1074).toNat = G + b - 52 by omega]

theorem low_rung (B C X kept e' m' : Nat) (hC : C ≤ X) (hX : X + 1 ≤ 2047) (hk : B ≤ kept) (hr : min (X * B + kept) (2047 * B) = e' * B + m') (k1 : m' < 2 * B) (k2 : e' = 0 ∨ B ≤ m') : C ≤ e' ∧ B ≤ m' := by
  have q1 : C * B + B ≤ e' * B + m' := by
    rw [← hr]
    have h1 : C * B ≤ X * B := Nat.mul_le_mul_right _ hC
    have h2 : (C + 1) * B ≤ 2047 * B := Nat.mul_le_mul_right _ (by omega)
    rw [Nat.add_mul, Nat.one_mul] at h2
    exact Nat.le_min.2 ⟨by omega, h2⟩
  have q2 : C ≤ e' := by
    rcases Nat.lt_or_ge e' C with hlt | hge
    · have h3 : (e' + 1) * B ≤ C * B := Nat.mul_le_mul_right _ hlt
      rw [Nat.add_mul, Nat.one_mul] at h3
      omega
    · exact hge
  refine ⟨q2, ?_⟩
  rcases k2 with rfl | h
  · have : C = 0 := by omega
    subst this
    omega
  · exact h

/-- ROUNDING KEEPS A LOWER BOUND THAT IS A POWER OF TWO. -/
theorem round_lo (mag b C : Nat) (hC : 52 ≤ C) (hb : ∀ G, mag.log2 = G → G + b - 52 + 1 ≤ 2047) (h : 2 ^ C ≤ mag * 2 ^ b) {m' e' : Nat} (hw : Fin_ .f64 (FloatKind.f64.format.nearest false mag (-1074 + (b : Int))) false m' e') : 2 ^ C ≤ m' * 2 ^ e' := by
  have h0 : mag ≠ 0 := by rintro rfl; rw [Nat.zero_mul] at h; have := Nat.two_pow_pos C; omega
  have hCG := low_lead b C mag mag.log2 Nat.lt_log2_self h
  have hk := low_cut mag mag.log2 ((Nat.le_log2 h0 (k := mag.log2)).1 (Nat.le_refl _))
  have hn := low_near mag b mag.log2 h0 rfl (by omega)
  have hX := hb _ rfl
  generalize mag.log2 = G at *
  generalize Toward.even.cut false (mag <<< (52 - G)) (G - 52) = kept at *
  have hr := hw.rung
  have hi := FloatKind.f64.format.infRung_lt
  rw [sw64, inf64] at hi
  rw [hn, sw64, bin64] at hr
  simp only [Format.word, Bool.false_eq_true, if_false] at hr
  rw [Nat.mod_eq_of_lt (Nat.lt_of_le_of_lt (Nat.min_le_right _ _) hi)] at hr
  have k1 := hw.lt
  have k2 := hw.low
  rw [bin64] at k1 k2
  have hB : 4503599627370496 = 2 ^ 52 := two52
  generalize 4503599627370496 = B at *
  obtain ⟨he, hm⟩ := low_rung B (C - 52) (G + b - 52) kept e' m' (by omega) hX (by rw [hB]; exact hk) hr k1 k2
  have hx : 2 ^ C = 2 ^ 52 * 2 ^ (C - 52) := by rw [← Nat.pow_add]; congr 1; omega
  rw [hx, ← hB]
  exact Nat.mul_le_mul hm (Nat.pow_le_pow_right (by omega) he)

end Go.Proofs.Ytkoiimjpalhgbab
