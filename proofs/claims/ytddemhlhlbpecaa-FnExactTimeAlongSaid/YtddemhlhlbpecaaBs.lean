/- Bounds of numbers of 32 bits. No condition but the bounds. -/
import Derived.Test.YtddemhlhlbpecaaWa
import Derived.Test.YtddemhlhlbpecaaBd
namespace Go.Proofs.Ytddemhlhlbpecaa
open Go.RowKit Ieee

/-- A finite number of 32 bits, bound by 2 to the power E - 149. -/
def Bs (X : Option Nat) (E : Nat) : Prop := ∃ b s m e, X = some b ∧ Fin_ .f32 b s m e ∧ m * 2 ^ e ≤ 2 ^ E
theorem Bs.mono {X : Option Nat} {E F : Nat} (h : Bs X E) (hf : E ≤ F) : Bs X F := by
  obtain ⟨b, s, m, e, h0, h1, h2⟩ := h
  exact ⟨b, s, m, e, h0, h1, Nat.le_trans h2 (Nat.pow_le_pow_right (by omega) hf)⟩



theorem bs_near (s : Bool) (mag : Nat) (place : Int) (F : Nat) (h1 : 23 ≤ F) (h2 : F ≤ 276)
    (h : mag * 2 ^ (place + 149).toNat ≤ 2 ^ F * 2 ^ (-149 - place).toNat) : Bs (some (FloatKind.f32.format.write (.number s mag place))) F := by
  obtain ⟨m', e', hw, hle⟩ := round_le .f32 s mag place F h1 (by rw [inf32, bin32, frac32]; omega) (by rw [least32]; rw [show place - -149 = place + 149 by omega]; exact h)
  exact ⟨_, s, m', e', rfl, hw, hle⟩

theorem bs_mul {X Y : Option Nat} {E E' : Nat} (F : Nat) (hx : Bs X E) (hy : Bs Y E') (h1 : 23 ≤ F) (h2 : F ≤ 276) (h : E + E' ≤ F + 149) : Bs (fop .mul .f32 X Y) F := by
    obtain ⟨a, s, m, e, rfl, ha, hae⟩ := hx
    obtain ⟨b, t, n, j, rfl, hb, hbe⟩ := hy
    have e1 : fop .mul .f32 (some a) (some b) = some (FloatKind.f32.format.write (.number (s ^^ t) (m * n) (FloatKind.f32.format.leastPlace + (e : Int) + (FloatKind.f32.format.leastPlace + (j : Int))))) := by
      show floatBits .mul .f32 a b = _
      unfold floatBits Format.mul
      rw [ha.read, hb.read]; rfl
    rw [e1, least32]
    refine bs_near _ _ _ F h1 h2 ?_
    rw [show (-149 + (e : Int) + (-149 + (j : Int)) + 149).toNat = (e + j) - 149 by omega, show (-149 - (-149 + (e : Int) + (-149 + (j : Int)))).toNat = 149 - (e + j) by omega]
    refine shift_le _ _ _ _ ?_
    have h3 : m * n * 2 ^ (e + j) = (m * 2 ^ e) * (n * 2 ^ j) := by rw [Nat.pow_add]; ac_rfl
    rw [h3]
    refine Nat.le_trans (Nat.mul_le_mul hae hbe) ?_
    rw [← Nat.pow_add]
    exact Nat.pow_le_pow_right (by omega) h

theorem bs_sum {s t : Bool} {m n e j E E' : Nat} (F : Nat) (hae : m * 2 ^ e ≤ 2 ^ E) (hbe : n * 2 ^ j ≤ 2 ^ E') (h1 : 23 ≤ F) (h2 : F ≤ 276) (h : E + 1 ≤ F) (h' : E' + 1 ≤ F) :
    ∃ d, (Datum.number s m (-149 + (e : Int))).sum (.number t n (-149 + (j : Int))) = some d ∧ Bs (some (FloatKind.f32.format.write d)) F := by
  refine ⟨_, rfl, ?_⟩
  refine bs_near _ _ _ F h1 h2 ?_
  have hb : ∃ b : Nat, min (-149 + (e : Int)) (-149 + (j : Int)) = -149 + (b : Int) ∧ b ≤ e ∧ b ≤ j := ⟨min e j, by omega, by omega, by omega⟩
  obtain ⟨b, hb, hbe', hbj⟩ := hb
  rw [hb]
  rw [show (-149 + (b : Int) + 149).toNat = b by omega, show (-149 - (-149 + (b : Int))).toNat = 0 by omega, show (-149 + (e : Int) - (-149 + (b : Int))).toNat = e - b by omega, show (-149 + (j : Int) - (-149 + (b : Int))).toNat = j - b by omega, Nat.pow_zero, Nat.mul_one]
  have hn := Int.natAbs_add_le (signed s m (e - b)) (signed t n (j - b))
  rw [signed_abs, signed_abs] at hn
  have h3 := Nat.mul_le_mul_right (2 ^ b) hn
  rw [Nat.add_mul, Nat.mul_assoc, Nat.mul_assoc, ← Nat.pow_add, ← Nat.pow_add, Nat.sub_add_cancel hbe', Nat.sub_add_cancel hbj] at h3
  have h4 : 2 ^ E ≤ 2 ^ (F - 1) := Nat.pow_le_pow_right (by omega) (by omega)
  have h5 : 2 ^ E' ≤ 2 ^ (F - 1) := Nat.pow_le_pow_right (by omega) (by omega)
  have h6 : 2 ^ F = 2 ^ (F - 1) + 2 ^ (F - 1) := by rw [← Nat.two_mul, ← Nat.pow_succ', show (F - 1).succ = F by omega]
  omega

theorem bs_add {X Y : Option Nat} {E E' : Nat} (F : Nat) (hx : Bs X E) (hy : Bs Y E') (h1 : 23 ≤ F) (h2 : F ≤ 276) (h : E + 1 ≤ F) (h' : E' + 1 ≤ F) : Bs (fop .add .f32 X Y) F := by
    obtain ⟨a, s, m, e, rfl, ha, hae⟩ := hx
    obtain ⟨b, t, n, j, rfl, hb, hbe⟩ := hy
    obtain ⟨d, hd, hbd⟩ := bs_sum (s := s) (t := t) F hae hbe h1 h2 h h'
    have e1 : fop .add .f32 (some a) (some b) = some (FloatKind.f32.format.write d) := by
      show floatBits .add .f32 a b = _
      unfold floatBits Format.add
      rw [ha.read, hb.read, least32, hd]; rfl
    rw [e1]; exact hbd

theorem bs_sub {X Y : Option Nat} {E E' : Nat} (F : Nat) (hx : Bs X E) (hy : Bs Y E') (h1 : 23 ≤ F) (h2 : F ≤ 276) (h : E + 1 ≤ F) (h' : E' + 1 ≤ F) : Bs (fop .sub .f32 X Y) F := by
    obtain ⟨a, s, m, e, rfl, ha, hae⟩ := hx
    obtain ⟨b, t, n, j, rfl, hb, hbe⟩ := hy
    obtain ⟨d, hd, hbd⟩ := bs_sum (s := s) (t := !t) F hae hbe h1 h2 h h'
    have e1 : fop .sub .f32 (some a) (some b) = some (FloatKind.f32.format.write d) := by
      show floatBits .sub .f32 a b = _
      unfold floatBits Format.sub
      rw [ha.read, hb.read, least32]
      simp only [Datum.opposite]
      rw [hd]; rfl
    rw [e1]; exact hbd

/-- A quotient by a number of at least 2 to the power C - 149. -/
theorem bs_quo {X : Option Nat} {c : Nat} {t : Bool} {n j E C : Nat} (F : Nat) (hx : Bs X E) (hc : Fin_ .f32 c t n j) (hC : 2 ^ C ≤ n * 2 ^ j) (h1 : 23 ≤ F) (h2 : F ≤ 276) (h : E + 150 ≤ F + C) : Bs (fop .quo .f32 X (some c)) F := by
    obtain ⟨a, s, m, e, rfl, ha, hae⟩ := hx
    have hn0 : n ≠ 0 := by
      intro h0; subst h0; have := Nat.two_pow_pos C; omega
    have e1 : fop .quo .f32 (some a) (some c) = some (FloatKind.f32.format.write (.number (s ^^ t) (2 * ((m <<< (25 + n.log2 - m.log2)) / n) + ((m <<< (25 + n.log2 - m.log2)) % n != 0).toNat) (FloatKind.f32.format.leastPlace + (e : Int) - (FloatKind.f32.format.leastPlace + (j : Int)) - ((25 + n.log2 - m.log2 : Nat) : Int) - 1))) := by
      show floatBits .quo .f32 a c = _
      unfold floatBits Format.div
      rw [ha.read, hc.read, frac32]
      simp only [Datum.quotient, if_neg hn0]
      rfl
    rw [e1, least32]
    refine bs_near _ _ _ F h1 h2 ?_
    generalize hmo : 25 + n.log2 - m.log2 = more
    rw [Nat.shiftLeft_eq]
    by_cases hm0 : m = 0
    · subst hm0; simp
    · have hnl : n < 2 ^ (n.log2 + 1) := Nat.lt_log2_self
      have hml := (Nat.le_log2 hm0 (k := m.log2)).1 (Nat.le_refl _)
      have hge : n ≤ m * 2 ^ more := by
        have k1 : 2 ^ (m.log2 + more) ≤ m * 2 ^ more := by rw [Nat.pow_add]; exact Nat.mul_le_mul_right _ hml
        have k2 : 2 ^ (n.log2 + 1) ≤ 2 ^ (m.log2 + more) := Nat.pow_le_pow_right (by omega) (by omega)
        omega
      have hq1 : 1 ≤ m * 2 ^ more / n := (Nat.le_div_iff_mul_le (by omega)).2 (by omega)
      have ht := Bool.toNat_le (m * 2 ^ more % n != 0)
      generalize (m * 2 ^ more % n != 0).toNat = bit at *
      have hqn : m * 2 ^ more / n * n ≤ m * 2 ^ more := Nat.div_mul_le_self _ _
      generalize m * 2 ^ more / n = q at *
      have hmag : (2 * q + bit) * n ≤ 4 * (m * 2 ^ more) := by
        have k1 : (2 * q + bit) * n ≤ 4 * q * n := Nat.mul_le_mul_right _ (by omega)
        have k2 : 4 * q * n = 4 * (q * n) := Nat.mul_assoc _ _ _
        omega
      generalize 2 * q + bit = mag at *
      obtain ⟨T, hT⟩ : ∃ T : Nat, T = 148 := ⟨_, rfl⟩
      rw [show (-149 + (e : Int) - (-149 + (j : Int)) - (more : Int) - 1 + 149).toNat = (e + T) - (j + more) by omega, show (-149 - (-149 + (e : Int) - (-149 + (j : Int)) - (more : Int) - 1)).toNat = (j + more) - (e + T) by omega]
      refine shift_le _ _ _ _ ?_
      -- mag * 2^(e+T) * 2^C ≤ 2^(F + j + more) * 2^C
      have k3 : mag * 2 ^ (e + T) * 2 ^ C ≤ 2 ^ (F + (j + more)) * 2 ^ C := by
        have k4 : mag * 2 ^ (e + T) * 2 ^ C ≤ mag * 2 ^ (e + T) * (n * 2 ^ j) := Nat.mul_le_mul_left _ hC
        have k5 : mag * 2 ^ (e + T) * (n * 2 ^ j) = mag * n * (2 ^ e * 2 ^ T * 2 ^ j) := by rw [Nat.pow_add]; ac_rfl
        have k6 : mag * n * (2 ^ e * 2 ^ T * 2 ^ j) ≤ 4 * (m * 2 ^ more) * (2 ^ e * 2 ^ T * 2 ^ j) := Nat.mul_le_mul_right _ hmag
        have k7 : 4 * (m * 2 ^ more) * (2 ^ e * 2 ^ T * 2 ^ j) = (m * 2 ^ e) * (2 ^ 2 * 2 ^ more * 2 ^ T * 2 ^ j) := by
          rw [show (4 : Nat) = 2 ^ 2 from rfl]; ac_rfl
        have k8 : (m * 2 ^ e) * (2 ^ 2 * 2 ^ more * 2 ^ T * 2 ^ j) ≤ 2 ^ E * (2 ^ 2 * 2 ^ more * 2 ^ T * 2 ^ j) := Nat.mul_le_mul_right _ hae
        have k9 : 2 ^ E * (2 ^ 2 * 2 ^ more * 2 ^ T * 2 ^ j) ≤ 2 ^ (F + (j + more)) * 2 ^ C := by
          rw [← Nat.pow_add, ← Nat.pow_add, ← Nat.pow_add, ← Nat.pow_add, ← Nat.pow_add]
          exact Nat.pow_le_pow_right (by omega) (by omega)
        exact Nat.le_trans k4 (k5 ▸ Nat.le_trans k6 (k7 ▸ Nat.le_trans k8 k9))
      exact Nat.le_of_mul_le_mul_right k3 (Nat.two_pow_pos C)

end Go.Proofs.Ytddemhlhlbpecaa
