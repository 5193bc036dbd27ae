/- A quarter of a float is a quarter times it, and the float divided by four. No condition. -/
import Derived.Test.YtmhfnchpkeeckaaHalf
namespace Go.Proofs.Ytmhfnchpkeeckaa
open Ieee
/-- The bits of 4 and of a quarter. -/
def k32four : Option Nat := fl .f32 1082130432
def k32quart : Option Nat := fl .f32 1048576000
theorem read_four : FloatKind.f32.format.read 1082130432 = .number false 8388608 (-21) := by decide +kernel
theorem read_quart : FloatKind.f32.format.read 1048576000 = .number false 8388608 (-25) := by decide +kernel

theorem quart_quot (f : Format) (s : Bool) (m n T : Nat) (i : Int) (hT : T = 23) (hn : n = 2 ^ T) (hlog : n.log2 = T) (hm : m.log2 ≤ T) :
    ((Datum.number s m i).quotient (T + 2) (.number false n (-21))).map f.write = some (f.nearest s m (i - 2)) := by
  have hn0 : 0 < n := by rw [hn]; exact Nat.two_pow_pos _
  simp only [Datum.quotient, hlog]
  rw [if_neg (by omega)]
  obtain ⟨q, hq⟩ : ∃ q, T + 2 + T - m.log2 = q + T := ⟨T + 2 - m.log2, by omega⟩
  have e1 : m * 2 ^ (q + T) = m * 2 ^ q * n := by rw [Nat.pow_add, hn, Nat.mul_assoc]
  simp only [hq, Nat.shiftLeft_eq, e1]
  rw [Nat.mul_div_cancel _ hn0, Nat.mul_mod_left]
  have e2 : 2 * (m * 2 ^ q) = m * 2 ^ (q + 1) := by rw [Nat.pow_succ, Nat.mul_comm 2, Nat.mul_assoc]
  simp only [Option.map_some, bne_self_eq_false, Bool.toNat_false, Nat.add_zero, Format.write, Bool.xor_false, e2]
  rw [nearest_shift]
  congr 2
  omega
theorem quart_prod (f : Format) (s : Bool) (m n T : Nat) (i : Int) (hT : T = 23) (hn : n = 2 ^ T) :
    ((Datum.number false n (-25)).product (.number s m i)).map f.write = some (f.nearest s m (i - 2)) := by
  have e3 : n * m = m * 2 ^ T := by rw [hn, Nat.mul_comm]
  simp only [Datum.product, Option.map_some, Format.write, Bool.false_xor, e3]
  rw [nearest_shift]
  congr 2
  omega

theorem quart_bits (x : Nat) : floatBits .quo .f32 x 1082130432 = floatBits .mul .f32 1048576000 x := by
  show ((FloatKind.f32.format.read x).quotient (23 + 2) (FloatKind.f32.format.read 1082130432)).map FloatKind.f32.format.write = ((FloatKind.f32.format.read 1048576000).product (FloatKind.f32.format.read x)).map FloatKind.f32.format.write
  rw [read_four, read_quart]
  obtain ⟨n, hn⟩ : ∃ n, n = (8388608 : Nat) := ⟨_, rfl⟩
  have h2 : n = 2 ^ 23 := by rw [hn]
  have hlog : n.log2 = 23 := by rw [hn]; decide +kernel
  have hb : FloatKind.f32.format.binade = n := by rw [hn]; exact single_binade
  rw [← hn]
  rcases read_form FloatKind.f32.format (binade_le_inf .f32) x with ⟨s, m, e, h, h1, _, _⟩ | ⟨s, h, _⟩ | h
  · rw [h]
    rw [hb] at h1
    have hm : m.log2 ≤ 23 := by
      by_cases h0 : m = 0
      · subst h0; decide
      · have : m.log2 < 24 := (Nat.log2_lt h0).2 (by omega)
        omega
    rw [quart_quot _ s m n 23 _ rfl h2 hlog hm, quart_prod _ s m n 23 _ rfl h2]
  · rw [h]
    have hn0 : n ≠ 0 := by omega
    simp [Datum.quotient, Datum.product, hn0]
  · cases hr : FloatKind.f32.format.read x <;> rw [hr] at h <;> simp [Datum.isNaN] at h
    rfl

/-- A QUARTER OF A FLOAT. -/
theorem fop_quart (X : Option Nat) : fop .quo .f32 X k32four = fop .mul .f32 k32quart X := by
  have e2 : k32four = some 1082130432 := by decide +kernel
  have eh : k32quart = some 1048576000 := by decide +kernel
  rw [e2, eh]
  cases X with
  | none => rfl
  | some b => exact quart_bits b
end Go.Proofs.Ytmhfnchpkeeckaa
