/- Small whole numbers as floats: exact, and their differences with 16384. No condition but that they are small. -/
import Derived.Test.YtfmhdnhaaohdjaaTq
namespace Go.Proofs.Ytfmhdnhaaohdjaa
open Go.RowKit Ieee

/-- A whole number below 2^24 at place -D', exactly. -/
theorem near_small (neg : Bool) (x d : Nat) (h0 : x ≠ 0) (h1 : x < 2 ^ 24) (hd : d ≤ 149) :
    FloatKind.f32.format.nearest neg (x * 2 ^ d) (-(d : Int)) = FloatKind.f32.format.word neg ((126 + x.log2) * FloatKind.f32.format.binade + x * 2 ^ (23 - x.log2)) := by
  have hlo : x.log2 < 24 := (Nat.log2_lt h0).2 h1
  have hn : x * 2 ^ d ≠ 0 := Nat.mul_ne_zero h0 (by have := Nat.two_pow_pos d; omega)
  have hl : FloatKind.f32.format.leastPlace = -149 := zleast
  have hk : x * 2 ^ (23 - x.log2) < 2 ^ 24 := by
    have hb : x < 2 ^ (x.log2 + 1) := Nat.lt_log2_self
    calc x * 2 ^ (23 - x.log2) < 2 ^ (x.log2 + 1) * 2 ^ (23 - x.log2) := Nat.mul_lt_mul_of_pos_right hb (Nat.two_pow_pos _)
      _ = 2 ^ 24 := by rw [← Nat.pow_add]; congr 1; omega
  refine nearest_exact _ neg (x * 2 ^ d) (-(d : Int)) (126 + x.log2) (x * 2 ^ (23 - x.log2)) hn ?_ ?_ ?_
  · rw [log2_shift h0, hl, zfrac]; omega
  · rw [hl]
    rcases Nat.lt_or_ge (126 + x.log2) (149 - d) with h | h
    · rw [show (-(d : Int) - (-149 + ((126 + x.log2 : Nat) : Int))).toNat = 149 - d - (126 + x.log2) by omega, show (-149 + ((126 + x.log2 : Nat) : Int) - -(d : Int)).toNat = 0 by omega, Nat.pow_zero, Nat.mul_one, Nat.mul_assoc, ← Nat.pow_add]
      congr 2; omega
    · rw [show (-(d : Int) - (-149 + ((126 + x.log2 : Nat) : Int))).toNat = 0 by omega, show (-149 + ((126 + x.log2 : Nat) : Int) - -(d : Int)).toNat = 126 + x.log2 - (149 - d) by omega, Nat.pow_zero, Nat.mul_one, Nat.mul_assoc, ← Nat.pow_add]
      congr 2; omega
  · rw [bin32, inf32]
    have : 2 ^ 24 = 16777216 := by decide
    omega
theorem near_zero (neg : Bool) (place : Int) : FloatKind.f32.format.nearest neg 0 place = FloatKind.f32.format.word neg 0 := by simp [Format.nearest]
theorem int_word (a : Nat) (h0 : a ≠ 0) (h1 : a < 2 ^ 24) : Fin_ .f32 (floatOfInt .f32 (a : Int)) false (a * 2 ^ (23 - a.log2)) (126 + a.log2) := by
  have e : floatOfInt .f32 (a : Int) = FloatKind.f32.format.nearest false (a * 2 ^ 0) (-((0 : Nat) : Int)) := by
    show FloatKind.f32.format.nearest (decide ((a : Int) < 0)) (a : Int).natAbs 0 = _
    rw [decide_eq_false (by omega), Int.natAbs_natCast, Nat.pow_zero, Nat.mul_one]; rfl
  rw [e, near_small false a 0 h0 h1 (by omega)]
  have hlo : a.log2 < 24 := (Nat.log2_lt h0).2 h1
  have hk : a * 2 ^ (23 - a.log2) < 2 ^ 24 := by
    have hb : a < 2 ^ (a.log2 + 1) := Nat.lt_log2_self
    calc a * 2 ^ (23 - a.log2) < 2 ^ (a.log2 + 1) * 2 ^ (23 - a.log2) := Nat.mul_lt_mul_of_pos_right hb (Nat.two_pow_pos _)
      _ = 2 ^ 24 := by rw [← Nat.pow_add]; congr 1; omega
  have hk2 : 2 ^ 23 ≤ a * 2 ^ (23 - a.log2) := by
    have hb : 2 ^ a.log2 ≤ a := Nat.log2_self_le h0
    calc 2 ^ 23 = 2 ^ a.log2 * 2 ^ (23 - a.log2) := by rw [← Nat.pow_add]; congr 1; omega
      _ ≤ a * 2 ^ (23 - a.log2) := Nat.mul_le_mul_right _ hb
  have e23 : 2 ^ 23 = 8388608 := by decide
  have e24 : 2 ^ 24 = 16777216 := by decide
  refine Fin_.of_word .f32 false _ _ ?_ ?_ ?_
  · rw [bin32]; omega
  · right; rw [bin32]; omega
  · rw [bin32, inf32]; omega
theorem sig_sub (x c l : Nat) : signed false x 0 + signed true c l = (x : Int) - ((c * 2 ^ l : Nat) : Int) := by
  rw [signed_sv, signed_sv]; unfold sv; simp only [Bool.false_eq_true, if_false, if_true, Nat.pow_zero, Nat.mul_one]; omega
/-- A whole number below 32768, less 16384, exactly. -/
theorem sub_16384 (a : Nat) (ha : a < 32768) : fop .sub .f32 (fint (a : Int)) f16384 = fint ((a : Int) - 16384) := by
  have r1 : FloatKind.f32.format.read 1182793728 = .number false 8388608 (-9) := by decide +kernel
  have n1 : f16384 = some 1182793728 := by decide +kernel
  have n0 : fint (a : Int) = some (floatOfInt .f32 (a : Int)) := mk_fl a
  have n2 : fint ((a : Int) - 16384) = some (floatOfInt .f32 ((a : Int) - 16384)) := encode_fl (k := .f32) (d := .number (((a : Int) - 16384) < 0) ((a : Int) - 16384).natAbs 0) rfl
  rw [n0, n1, n2]
  have e0 : fop .sub .f32 (some (floatOfInt .f32 (a : Int))) (some 1182793728) = ((FloatKind.f32.format.read (floatOfInt .f32 (a : Int))).sum (FloatKind.f32.format.read 1182793728).opposite).map FloatKind.f32.format.write := rfl
  rw [e0, r1]
  have e2 : floatOfInt .f32 ((a : Int) - 16384) = FloatKind.f32.format.nearest (decide ((a : Int) - 16384 < 0)) ((a : Int) - 16384).natAbs 0 := rfl
  rw [e2]
  by_cases h0 : a = 0
  · subst h0; decide +kernel
  have h := int_word a h0 (by omega)
  rw [h.read, zleast]
  have hlo : a.log2 < 15 := (Nat.log2_lt h0).2 (by omega)
  generalize a.log2 = l at hlo
  have key : ∀ T : Int, T = ((a : Int) - 16384) * ((2 ^ (23 - l) : Nat) : Int) → FloatKind.f32.format.write (.number (if T = 0 then false && true else decide (T < 0)) T.natAbs (-149 + ((126 + l : Nat) : Int))) = FloatKind.f32.format.nearest (decide ((a : Int) - 16384 < 0)) ((a : Int) - 16384).natAbs 0 := by
    intro T hT
    have hp : (0 : Int) < ((2 ^ (23 - l) : Nat) : Int) := by have := Nat.two_pow_pos (23 - l); omega
    show FloatKind.f32.format.nearest _ T.natAbs (-149 + ((126 + l : Nat) : Int)) = _
    by_cases hz : a = 16384
    · subst hz
      have : T = 0 := by rw [hT]; simp
      subst this
      rw [if_pos rfl]
      show FloatKind.f32.format.nearest false 0 _ = FloatKind.f32.format.nearest false 0 0
      rw [near_zero, near_zero]
    · have hT0 : T ≠ 0 := by
        rw [hT]; exact Int.mul_ne_zero (by omega) (by omega)
      have hneg : decide (T < 0) = decide ((a : Int) - 16384 < 0) := by
        rcases Int.lt_or_le ((a : Int) - 16384) 0 with h1 | h1
        · have : T < 0 := by rw [hT]; exact Int.mul_neg_of_neg_of_pos h1 hp
          rw [decide_eq_true this, decide_eq_true h1]
        · have : ¬ T < 0 := by rw [hT]; have := Int.mul_nonneg h1 (Int.le_of_lt hp); omega
          rw [decide_eq_false this, decide_eq_false (by omega)]
      have habs : T.natAbs = ((a : Int) - 16384).natAbs * 2 ^ (23 - l) := by rw [hT, Int.natAbs_mul, Int.natAbs_natCast]
      rw [if_neg hT0, hneg, habs]
      have hx : ((a : Int) - 16384).natAbs < 2 ^ 24 := by have : 2 ^ 24 = 16777216 := by decide
                                                          omega
      have hx0 : ((a : Int) - 16384).natAbs ≠ 0 := by omega
      have s1 := near_small (decide ((a : Int) - 16384 < 0)) _ (23 - l) hx0 hx (by omega)
      have s2 := near_small (decide ((a : Int) - 16384 < 0)) _ 0 hx0 hx (by omega)
      rw [show (-149 + ((126 + l : Nat) : Int)) = -((23 - l : Nat) : Int) by omega, s1, ← s2, Nat.pow_zero, Nat.mul_one]
      rfl
  have ks : ∀ (m : Nat) (i : Int) (n : Nat) (j : Int), (Datum.number false m i).sum (Datum.number false n j).opposite = some (.number (if signed false m (i - min i j).toNat + signed true n (j - min i j).toNat = 0 then false && true else decide (signed false m (i - min i j).toNat + signed true n (j - min i j).toNat < 0)) (signed false m (i - min i j).toNat + signed true n (j - min i j).toNat).natAbs (min i j)) := fun _ _ _ _ => rfl
  rw [ks]
  have hmin : min (-149 + ((126 + l : Nat) : Int)) (-9) = -149 + ((126 + l : Nat) : Int) := by omega
  rw [hmin, Option.map_some]
  refine congrArg some (key _ ?_)
  rw [show (-149 + ((126 + l : Nat) : Int) - (-149 + ((126 + l : Nat) : Int))).toNat = 0 by omega, show (-9 - (-149 + ((126 + l : Nat) : Int))).toNat = 14 - l by omega]
  have e14 : 8388608 * 2 ^ (14 - l) = 16384 * 2 ^ (23 - l) := by
    rw [show (8388608 : Nat) = 2 ^ 23 by decide, show (16384 : Nat) = 2 ^ 14 by decide, ← Nat.pow_add, ← Nat.pow_add]
    congr 1; omega
  rw [sig_sub, e14, Int.sub_mul, Int.natCast_mul, Int.natCast_mul]
  rfl
end Go.Proofs.Ytfmhdnhaaohdjaa
