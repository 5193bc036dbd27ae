/- Half a float: to divide by 2 is to multiply by one half, to the last bit; rounding does not change where a number is written with more zeros. No condition. -/
import Derived.Test.YtmhfnchpkeeckaaConv
namespace Go.Proofs.Ytmhfnchpkeeckaa
open Ieee

theorem cut_shift (neg : Bool) (n d D : Nat) (hn : n ≠ 0) : Toward.even.cut neg (n * 2 ^ d) (D + d) = Toward.even.cut neg n D := by
  have h0 := (Nat.le_log2 hn (k := n.log2)).1 (Nat.le_refl _)
  have h1 : n < 2 ^ (n.log2 + 1) := Nat.lt_log2_self
  have hl : (n * 2 ^ d).log2 = n.log2 + d := log2_pow n n.log2 d h0 h1
  have hg : (1 <<< min (D + d) ((n * 2 ^ d).log2 + 2)) = (1 <<< min D (n.log2 + 2)) * 2 ^ d := by
    rw [hl, Nat.one_shiftLeft, Nat.one_shiftLeft, ← Nat.pow_add]
    congr 1
    omega
  have hp : 0 < 2 ^ d := Nat.two_pow_pos _
  unfold Toward.cut
  simp only [hg]
  generalize 1 <<< min D (n.log2 + 2) = g
  rw [Nat.mul_div_mul_right _ _ hp, Nat.mul_mod_mul_right]
  have e1 : (decide (g * 2 ^ d < 2 * (n % g * 2 ^ d))) = decide (g < 2 * (n % g)) := by
    rw [← Nat.mul_assoc]
    rw [Bool.eq_iff_iff]; simp only [decide_eq_true_eq]
    exact Nat.mul_lt_mul_right hp
  have e2 : (g * 2 ^ d == 2 * (n % g * 2 ^ d)) = (g == 2 * (n % g)) := by
    rw [← Nat.mul_assoc]
    rw [Bool.eq_iff_iff]; simp only [beq_iff_eq]
    exact ⟨fun h => Nat.eq_of_mul_eq_mul_right hp h, fun h => congrArg (· * 2 ^ d) h⟩
  rw [e1, e2]

theorem nearest_shift (f : Format) (neg : Bool) (m d : Nat) (place : Int) : f.nearest neg (m * 2 ^ d) place = f.nearest neg m (place + (d : Int)) := by
  by_cases hm : m = 0
  · subst hm; simp [Format.nearest]
  · have hp : 0 < 2 ^ d := Nat.two_pow_pos _
    have hm' : m * 2 ^ d ≠ 0 := Nat.mul_ne_zero hm (by omega)
    have h0 := (Nat.le_log2 hm (k := m.log2)).1 (Nat.le_refl _)
    have h1 : m < 2 ^ (m.log2 + 1) := Nat.lt_log2_self
    have hl : (m * 2 ^ d).log2 = m.log2 + d := log2_pow m m.log2 d h0 h1
    unfold Format.nearest
    rw [if_neg hm, if_neg hm', hl]
    have hlast : place + ((m.log2 + d : Nat) : Int) - (f.fractionBits : Int) = place + (d : Int) + (m.log2 : Int) - (f.fractionBits : Int) := by omega
    rw [hlast]
    generalize max (place + (d : Int) + (m.log2 : Int) - (f.fractionBits : Int)) f.leastPlace = last
    have key : Toward.even.cut neg ((m * 2 ^ d) <<< (place - last).toNat) (last - place).toNat = Toward.even.cut neg (m <<< (place + (d : Int) - last).toNat) (last - (place + (d : Int))).toNat := by
      rw [Nat.shiftLeft_eq, Nat.shiftLeft_eq]
      by_cases c1 : place + (d : Int) ≤ last
      · have a1 : (place - last).toNat = 0 := by omega
        have a2 : (place + (d : Int) - last).toNat = 0 := by omega
        have a3 : (last - place).toNat = (last - (place + (d : Int))).toNat + d := by omega
        rw [a1, a2, a3, Nat.pow_zero, Nat.mul_one, Nat.mul_one]
        exact cut_shift neg m d _ hm
      · have a2 : (last - (place + (d : Int))).toNat = 0 := by omega
        have hx := cut_exact .even neg (m * 2 ^ (place + (d : Int) - last).toNat) 0
        rw [Nat.pow_zero, Nat.mul_one] at hx
        rw [a2, hx]
        have a3 : m * 2 ^ d * 2 ^ (place - last).toNat = m * 2 ^ (place + (d : Int) - last).toNat * 2 ^ (last - place).toNat := by
          rw [Nat.mul_assoc, Nat.mul_assoc, ← Nat.pow_add, ← Nat.pow_add]
          congr 2
          omega
        rw [a3]
        exact cut_exact .even neg _ _
    simp only [key]

/-- The bits of 2 and of one half. -/
def k32two : Option Nat := fl .f32 1073741824
def k32half : Option Nat := fl .f32 1056964608
theorem read_two : FloatKind.f32.format.read 1073741824 = .number false 8388608 (-22) := by decide +kernel
theorem read_half : FloatKind.f32.format.read 1056964608 = .number false 8388608 (-24) := by decide +kernel

theorem half_quot (f : Format) (s : Bool) (m n T : Nat) (i : Int) (hT : T = 23) (hn : n = 2 ^ T) (hlog : n.log2 = T) (hm : m.log2 ≤ T) :
    ((Datum.number s m i).quotient (T + 2) (.number false n (-22))).map f.write = some (f.nearest s m (i - 1)) := by
  have hn0 : 0 < n := by rw [hn]; exact Nat.two_pow_pos _
  simp only [Datum.quotient, hlog]
  rw [if_neg (by omega)]
  obtain ⟨q, hq⟩ : ∃ q, T + 2 + T - m.log2 = q + T := ⟨T + 2 - m.log2, by omega⟩
  have e1 : m * 2 ^ (q + T) = m * 2 ^ q * n := by rw [Nat.pow_add, hn, Nat.mul_assoc]
  simp only [hq, Nat.shiftLeft_eq, e1]
  rw [Nat.mul_div_cancel _ hn0, Nat.mul_mod_left]
  have e2 : 2 * (m * 2 ^ q) = m * 2 ^ (q + 1) := by rw [Nat.pow_succ, Nat.mul_comm 2, Nat.mul_assoc]
  simp only [Option.map_some, bne_self_eq_false, Bool.toNat_false, Nat.add_zero, Format.write, Bool.xor_false, e2]
  rw [nearest_shift]
  congr 2
  omega
theorem half_prod (f : Format) (s : Bool) (m n T : Nat) (i : Int) (hT : T = 23) (hn : n = 2 ^ T) :
    ((Datum.number false n (-24)).product (.number s m i)).map f.write = some (f.nearest s m (i - 1)) := by
  have e3 : n * m = m * 2 ^ T := by rw [hn, Nat.mul_comm]
  simp only [Datum.product, Option.map_some, Format.write, Bool.false_xor, e3]
  rw [nearest_shift]
  congr 2
  omega

theorem half_bits (x : Nat) : floatBits .quo .f32 x 1073741824 = floatBits .mul .f32 1056964608 x := by
  show ((FloatKind.f32.format.read x).quotient (23 + 2) (FloatKind.f32.format.read 1073741824)).map FloatKind.f32.format.write = ((FloatKind.f32.format.read 1056964608).product (FloatKind.f32.format.read x)).map FloatKind.f32.format.write
  rw [read_two, read_half]
  obtain ⟨n, hn⟩ : ∃ n, n = (8388608 : Nat) := ⟨_, rfl⟩
  have h2 : n = 2 ^ 23 := by rw [hn]
  have hlog : n.log2 = 23 := by rw [hn]; decide +kernel
  have hb : FloatKind.f32.format.binade = n := by rw [hn]; exact single_binade
  rw [← hn]
  rcases read_form FloatKind.f32.format (binade_le_inf .f32) x with ⟨s, m, e, h, h1, _, _⟩ | ⟨s, h, _⟩ | h
  · rw [h]
    rw [hb] at h1
    have hm : m.log2 ≤ 23 := by
      by_cases h0 : m = 0
      · subst h0; decide
      · have : m.log2 < 24 := (Nat.log2_lt h0).2 (by omega)
        omega
    rw [half_quot _ s m n 23 _ rfl h2 hlog hm, half_prod _ s m n 23 _ rfl h2]
  · rw [h]
    have hn0 : n ≠ 0 := by omega
    simp [Datum.quotient, Datum.product, hn0]
  · cases hr : FloatKind.f32.format.read x <;> rw [hr] at h <;> simp [Datum.isNaN] at h
    rfl

/-- HALF A FLOAT. -/
theorem fop_half (X : Option Nat) : fop .quo .f32 X k32two = fop .mul .f32 k32half X := by
  have e2 : k32two = some 1073741824 := by decide +kernel
  have eh : k32half = some 1056964608 := by decide +kernel
  rw [e2, eh]
  cases X with
  | none => rfl
  | some b => exact half_bits b
end Go.Proofs.Ytmhfnchpkeeckaa
