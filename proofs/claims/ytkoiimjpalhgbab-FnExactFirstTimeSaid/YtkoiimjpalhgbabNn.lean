/- Floats that are not below zero: sums, halves, reciprocals keep that. No condition. -/
import Derived.Test.YtkoiimjpalhgbabGm
namespace Go.Proofs.Ytkoiimjpalhgbab
open Ieee

def pl (d : Datum) : Bool := match d with | .number s _ _ => !s | .infinity s => !s | .nan .. => false
/-- A number with the sign plus, or +infinity. -/
def Nng (X : Option Nat) : Prop := ∃ b, X = some b ∧ pl (FloatKind.f32.format.read b) = true

theorem near_plus (mag : Nat) (place : Int) : FloatKind.f32.format.nearest false mag place < FloatKind.f32.format.signWeight := by
  have hi := FloatKind.f32.format.infRung_lt
  unfold Format.nearest
  split
  · simp only [Format.word, Bool.false_eq_true, if_false]; omega
  · simp only [Format.word, Bool.false_eq_true, if_false]
    exact Nat.lt_of_le_of_lt (Nat.min_le_right _ _) hi
theorem nng_write {d : Datum} (h : pl d = true) : Nng (some (FloatKind.f32.format.write d)) := by
  refine ⟨_, rfl, ?_⟩
  cases d with
  | nan => cases h
  | infinity s =>
    have : s = false := by simpa [pl] using h
    subst this
    decide +kernel
  | number s m i =>
    have : s = false := by simpa [pl] using h
    subst this
    have hlt : FloatKind.f32.format.write (.number false m i) < FloatKind.f32.format.signWeight := near_plus m i
    have hfl : fl .f32 (FloatKind.f32.format.write (.number false m i)) = some (FloatKind.f32.format.write (.number false m i)) := encode_fl (k := .f32) (d := .number false m i) rfl
    generalize FloatKind.f32.format.write (.number false m i) = b at hlt hfl
    have h0 : b / FloatKind.f32.format.signWeight = 0 := Nat.div_eq_of_lt hlt
    rcases shape .f32 b with ⟨t, m', e', h1⟩ | ⟨t, hr, _, hs⟩ | h1
    · have := h1.sign
      rw [h0] at this
      rw [h1.read, this]; rfl
    · rw [h0] at hs
      rw [hr, hs]; rfl
    · rw [h1] at hfl; cases hfl
theorem signed_plus (m k : Nat) : 0 ≤ signed false m k := by unfold signed; simp only [Bool.false_eq_true, if_false]; exact Int.natCast_nonneg _
theorem nng_add {X Y : Option Nat} (hx : Nng X) (hy : Nng Y) : Nng (fop .add .f32 X Y) := by
  obtain ⟨a, rfl, ha⟩ := hx
  obtain ⟨b, rfl, hb⟩ := hy
  have e : fop .add .f32 (some a) (some b) = ((FloatKind.f32.format.read a).sum (FloatKind.f32.format.read b)).map FloatKind.f32.format.write := rfl
  rw [e]
  generalize FloatKind.f32.format.read a = p at ha
  generalize FloatKind.f32.format.read b = q at hb
  cases p with
  | nan => cases ha
  | infinity s =>
    obtain rfl : s = false := by simpa [pl] using ha
    cases q with
    | nan => cases hb
    | infinity t =>
      obtain rfl : t = false := by simpa [pl] using hb
      exact nng_write (d := .infinity false) rfl
    | number t n j => exact nng_write (d := .infinity false) rfl
  | number s m i =>
    obtain rfl : s = false := by simpa [pl] using ha
    cases q with
    | nan => cases hb
    | infinity t =>
      obtain rfl : t = false := by simpa [pl] using hb
      exact nng_write (d := .infinity false) rfl
    | number t n j =>
      obtain rfl : t = false := by simpa [pl] using hb
      refine nng_write (d := _) ?_
      have h1 := signed_plus m (i - min i j).toNat
      have h2 := signed_plus n (j - min i j).toNat
      show (!(if signed false m (i - min i j).toNat + signed false n (j - min i j).toNat = 0 then false && false else decide (signed false m (i - min i j).toNat + signed false n (j - min i j).toNat < 0))) = true
      split
      · rfl
      · rw [decide_eq_false (by omega)]; rfl
theorem nng_half {X : Option Nat} (hx : Nng X) : Nng (fop .mul .f32 k32half X) := by
  obtain ⟨a, rfl, ha⟩ := hx
  have e2 : k32half = some 1056964608 := by decide +kernel
  have e : fop .mul .f32 (some 1056964608) (some a) = ((FloatKind.f32.format.read 1056964608).product (FloatKind.f32.format.read a)).map FloatKind.f32.format.write := rfl
  rw [e2, e, read_half]
  generalize FloatKind.f32.format.read a = p at ha
  cases p with
  | nan => cases ha
  | infinity s =>
    obtain rfl : s = false := by simpa [pl] using ha
    exact nng_write (d := .infinity false) rfl
  | number s m i =>
    obtain rfl : s = false := by simpa [pl] using ha
    refine nng_write (d := .number (false ^^ false) _ _) rfl
theorem read_one32 : FloatKind.f32.format.read 1065353216 = .number false 8388608 (-23) := by decide +kernel
theorem nng_recip {X : Option Nat} (hx : Nng X) : Nng (fop .quo .f32 fu X) := by
  obtain ⟨a, rfl, ha⟩ := hx
  have e2 : fu = some 1065353216 := by decide +kernel
  have e : fop .quo .f32 (some 1065353216) (some a) = ((FloatKind.f32.format.read 1065353216).quotient (FloatKind.f32.format.fractionBits + 2) (FloatKind.f32.format.read a)).map FloatKind.f32.format.write := rfl
  rw [e2, e, read_one32]
  generalize FloatKind.f32.format.read a = p at ha
  cases p with
  | nan => cases ha
  | infinity s =>
    obtain rfl : s = false := by simpa [pl] using ha
    exact nng_write (d := .number (false ^^ false) 0 0) rfl
  | number s m i =>
    obtain rfl : s = false := by simpa [pl] using ha
    by_cases hm : m = 0
    · subst hm
      exact nng_write (d := .infinity (false ^^ false)) rfl
    · simp only [Datum.quotient, if_neg hm]
      exact nng_write (d := .number (false ^^ false) _ _) rfl
theorem nng_zero : Nng fz := ⟨0, by decide +kernel, by decide +kernel⟩
theorem nng_ge0 {X : Option Nat} (hx : Nng X) : ge0 X = true := by
  obtain ⟨a, rfl, ha⟩ := hx
  have ez : fz = some 0 := by decide +kernel
  have e : ford .f32 (some a) (some 0) = (FloatKind.f32.format.read a).order (FloatKind.f32.format.read 0) := rfl
  have r0 : FloatKind.f32.format.read 0 = .number false 0 (-149) := by decide +kernel
  unfold ge0
  rw [ez, e, r0]
  generalize FloatKind.f32.format.read a = p at ha
  cases p with
  | nan => cases ha
  | infinity s =>
    obtain rfl : s = false := by simpa [pl] using ha
    rfl
  | number s m i =>
    obtain rfl : s = false := by simpa [pl] using ha
    have h1 := signed_plus m (i - min i (-149)).toNat
    have h2 : signed false 0 ((-149 : Int) - min i (-149)).toNat = 0 := by unfold signed; simp
    have key : ∀ x y : Int, compare x y = if x < y then .lt else if x = y then .eq else .gt := fun x y => rfl
    simp only [Datum.order, h2]
    generalize signed false m (i - min i (-149)).toNat = z at h1
    rw [key]
    by_cases c1 : z = 0
    · subst c1; rfl
    · rw [if_neg (by omega), if_neg c1]; rfl
end Go.Proofs.Ytkoiimjpalhgbab
