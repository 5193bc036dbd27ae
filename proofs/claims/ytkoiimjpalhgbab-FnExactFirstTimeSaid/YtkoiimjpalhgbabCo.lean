/- The cosine of a sine below 1 is above 0. No condition. -/
import Derived.Test.YtkoiimjpalhgbabLo
import Derived.Test.YtkoiimjpalhgbabNn
namespace Go.Proofs.Ytkoiimjpalhgbab
open Ieee

/-- What is no less than the least float is not rounded to 0. -/
theorem near_nz (mag : Nat) (place : Int) (h0 : mag ≠ 0) (h : -149 ≤ place + (mag.log2 : Int)) : FloatKind.f32.format.nearest false mag place ≠ 0 := by
  have hG : 2 ^ mag.log2 ≤ mag := (Nat.le_log2 h0 (k := mag.log2)).1 (Nat.le_refl _)
  unfold Format.nearest
  rw [if_neg h0, least32, frac32, bin32, inf32]
  generalize hl : max (place + (mag.log2 : Int) - ((23 : Nat) : Int)) (-149) = last
  have hk := (cut_spec false (mag <<< (place - last).toNat) (last - place).toNat).1
  have h1 : 1 ≤ mag <<< (place - last).toNat / 2 ^ (last - place).toNat := by
    rw [Nat.le_div_iff_mul_le (Nat.two_pow_pos _), Nat.one_mul, Nat.shiftLeft_eq]
    rcases Int.le_total last place with hp | hp
    · rw [show (last - place).toNat = 0 by omega, Nat.pow_zero]
      exact Nat.mul_pos (by omega) (Nat.two_pow_pos _)
    · rw [show (place - last).toNat = 0 by omega, Nat.pow_zero, Nat.mul_one]
      exact Nat.le_trans (Nat.pow_le_pow_right (by omega) (by omega)) hG
  simp only [Format.word, Bool.false_eq_true, if_false]
  generalize Toward.even.cut false (mag <<< (place - last).toNat) (last - place).toNat = kept at hk ⊢
  intro hz
  have := Nat.min_le_left ((last - -149).toNat * 8388608 + kept) (255 * 8388608)
  rcases Nat.le_total ((last - -149).toNat * 8388608 + kept) (255 * 8388608) with hm | hm
  · rw [Nat.min_eq_left hm] at hz; omega
  · rw [Nat.min_eq_right hm] at hz; omega

/-- A float above 0, no infinity. -/
def PosF (X : Option Nat) : Prop := ∃ b m e, X = some b ∧ Fin_ .f32 b false m e ∧ m ≠ 0
theorem posF_word {b : Nat} {m e : Nat} (h : Fin_ .f32 b false m e) (hb : b ≠ 0) (hlt : b < 2147483648) : m ≠ 0 := by
  intro hm
  subst hm
  have hr := h.rung
  have hl := h.low
  rw [bin32] at hr hl
  rw [sw32, Nat.mod_eq_of_lt hlt] at hr
  have he : e = 0 := by omega
  subst he
  omega
/-- A finite sum, product .. above 0, written: above 0. -/
theorem posF_near (mag : Nat) (place : Int) (h0 : mag ≠ 0) (h : -149 ≤ place + (mag.log2 : Int)) (hf : ∃ m e, Fin_ .f32 (FloatKind.f32.format.nearest false mag place) false m e) : PosF (some (FloatKind.f32.format.nearest false mag place)) := by
  obtain ⟨m, e, h1⟩ := hf
  have hz := near_nz mag place h0 h
  have hlt := near_plus mag place
  rw [sw32] at hlt
  exact ⟨_, m, e, rfl, h1, posF_word h1 hz hlt⟩
/-- A sine below 1. -/
def Sin1 (X : Option Nat) : Prop := ∃ b m e, X = some b ∧ Fin_ .f32 b false m e ∧ m * 2 ^ e < 2 ^ 149
theorem fin_one32 : Fin_ .f32 1065353216 false (2 ^ 23) 126 := by
  have h := Fin_.of_word .f32 false (2 ^ 23) 126 (by decide +kernel) (Or.inr (by decide +kernel)) (by decide +kernel)
  have e : FloatKind.f32.format.word false (126 * FloatKind.f32.format.binade + 2 ^ 23) = 1065353216 := by decide +kernel
  rwa [e] at h
theorem sin1_of {X : Option Nat} (hn : Nng X) (h : lt1 X = true) : Sin1 X := by
  obtain ⟨b, rfl, hb⟩ := hn
  have eu : fu = some 1065353216 := by decide +kernel
  have e : ford .f32 (some b) (some 1065353216) = FloatKind.f32.format.order b 1065353216 := rfl
  unfold lt1 at h
  rw [eu, e] at h
  rcases shape .f32 b with ⟨s, m, e, h1⟩ | ⟨s, hr, _, _⟩ | h1
  · have hs : s = false := by rw [h1.read] at hb; simpa [pl] using hb
    subst hs
    rw [h1.order fin_one32] at h
    refine ⟨b, m, e, rfl, h1, ?_⟩
    have key : ∀ x y : Int, compare x y = if x < y then .lt else if x = y then .eq else .gt := fun x y => rfl
    rw [key] at h
    have e1 : sv false m e = ((m * 2 ^ e : Nat) : Int) := rfl
    have e2 : sv false (2 ^ 23) 126 = ((2 ^ 149 : Nat) : Int) := by unfold sv; simp only [Bool.false_eq_true, if_false]
    rw [e1, e2] at h
    generalize m * 2 ^ e = p at h ⊢
    generalize 2 ^ 149 = q at h ⊢
    by_cases c1 : (p : Int) < (q : Int)
    · omega
    · rw [if_neg c1] at h
      split at h <;> cases h
  · have hs : s = false := by rw [hr] at hb; simpa [pl] using hb
    subst hs
    exfalso
    unfold Format.order at h
    rw [hr, fin_one32.read] at h
    cases h
  · exfalso
    unfold fl FloatKind.decode at h1
    split at h1
    · rename_i hn; revert hb hn; cases FloatKind.f32.format.read b <;> simp [pl, Datum.isNaN]
    · cases h1
theorem sin1_half {m e : Nat} (h : m < 2 ^ 24) (h1 : e = 0 ∨ 2 ^ 23 ≤ m) (h2 : m * 2 ^ e < 2 ^ 149) (h3 : ¬ m * 2 ^ e ≤ 2 ^ 148) : e = 125 := by
  have hlo : 125 ≤ e := by
    rcases Nat.lt_or_ge e 125 with hlt | hge
    · exfalso
      apply h3
      have h4 : m * 2 ^ e ≤ 2 ^ 24 * 2 ^ 124 := Nat.mul_le_mul (Nat.le_of_lt h) (Nat.pow_le_pow_right (by omega) (by omega))
      rwa [← Nat.pow_add] at h4
    · exact hge
  have hhi : e ≤ 125 := by
    rcases Nat.lt_or_ge 125 e with hlt | hge
    · exfalso
      have h4 : 2 ^ 23 * 2 ^ 126 ≤ m * 2 ^ e := Nat.mul_le_mul (by omega) (Nat.pow_le_pow_right (by omega) (by omega))
      rw [← Nat.pow_add] at h4
      omega
    · exact hge
  omega
/-- The square of a sine below 1 is below 1. -/
theorem sin1_sq {X : Option Nat} (h : Sin1 X) : Sin1 (fop .mul .f32 X X) := by
  obtain ⟨b, m, e, rfl, h1, h2⟩ := h
  have em : fop .mul .f32 (some b) (some b) = ((FloatKind.f32.format.read b).product (FloatKind.f32.format.read b)).map FloatKind.f32.format.write := rfl
  rw [em, h1.read, least32]
  simp only [Datum.product, Option.map_some, Bool.xor_self]
  show Sin1 (some (FloatKind.f32.format.nearest false (m * m) (-149 + (e : Int) + (-149 + (e : Int)))))
  obtain ⟨k1, k2, k3, k4⟩ := h1.e32
  by_cases hs : m * 2 ^ e ≤ 2 ^ 148
  · obtain ⟨m', e', g1, g2⟩ := round_le .f32 false (m * m) (-149 + (e : Int) + (-149 + (e : Int))) 148 (by decide) (by decide +kernel) (by
      rw [least32]
      obtain ⟨U, hU⟩ : ∃ U, U = 148 := ⟨_, rfl⟩
      rw [← hU] at hs
      have hsq : m * m * 2 ^ (2 * e) ≤ 2 ^ (U + U) := by
        have := Nat.mul_le_mul hs hs
        rw [← Nat.pow_add] at this
        have e9 : m * 2 ^ e * (m * 2 ^ e) = m * m * 2 ^ (2 * e) := by rw [show 2 * e = e + e by omega, Nat.pow_add]; ac_rfl
        rwa [e9] at this
      rw [show (-149 + (e : Int) + (-149 + (e : Int)) - -149).toNat = 2 * e - 149 by omega, show (-149 - (-149 + (e : Int) + (-149 + (e : Int)))).toNat = 149 - 2 * e by omega]
      have h3 := shift_le (m * m) (2 * e) 149 U (Nat.le_trans hsq (Nat.pow_le_pow_right (by omega) (by omega)))
      rwa [hU] at h3)
    exact ⟨_, m', e', rfl, g1, Nat.lt_of_le_of_lt g2 (Nat.pow_lt_pow_right (by omega) (by omega))⟩
  · have he := sin1_half k1 k3 h2 hs
    subst he
    have hm : m < 16777216 := k1
    by_cases hq : m * m < 2 ^ 47
    · obtain ⟨m', e', g1, g2⟩ := round_le .f32 false (m * m) (-149 + ((125 : Nat) : Int) + (-149 + ((125 : Nat) : Int))) 148 (by decide) (by decide +kernel) (by
        rw [least32]
        rw [show (-149 + ((125 : Nat) : Int) + (-149 + ((125 : Nat) : Int)) - -149).toNat = 101 by decide, show (-149 - (-149 + ((125 : Nat) : Int) + (-149 + ((125 : Nat) : Int)))).toNat = 0 by decide, Nat.pow_zero, Nat.mul_one]
        have h9 : m * m * 2 ^ 101 ≤ 2 ^ 47 * 2 ^ 101 := Nat.mul_le_mul_right _ (Nat.le_of_lt hq)
        rwa [← Nat.pow_add] at h9)
      exact ⟨_, m', e', rfl, g1, Nat.lt_of_le_of_lt g2 (Nat.pow_lt_pow_right (by omega) (by omega))⟩
    · have hup : m * m ≤ 16777215 * 16777215 := Nat.mul_le_mul (by omega) (by omega)
      have hl : (m * m).log2 = 47 := by
        rw [Nat.log2_eq_iff (by omega)]
        constructor
        · omega
        · have : (16777215 * 16777215 : Nat) < 2 ^ (47 + 1) := by decide
          omega
      have hc := (cut_spec false (m * m) 24).2
      have hc0 := (cut_spec false (m * m) 24).1
      have hd : m * m / 2 ^ 24 ≤ 16777214 := Nat.le_trans (Nat.div_le_div_right hup) (by decide)
      have hd0 : 8388608 ≤ m * m / 2 ^ 24 := by
        rw [Nat.le_div_iff_mul_le (by decide)]
        have : (8388608 * 2 ^ 24 : Nat) = 2 ^ 47 := by decide
        omega
      have hn0 : FloatKind.f32.format.nearest false (m * m) (-149 + ((125 : Nat) : Int) + (-149 + ((125 : Nat) : Int))) = FloatKind.f32.format.word false (125 * FloatKind.f32.format.binade + Toward.even.cut false (m * m) 24) := by
        unfold Format.nearest
        rw [if_neg (by omega), hl, least32, frac32, bin32, inf32]
        have e1 : max (-149 + ((125 : Nat) : Int) + (-149 + ((125 : Nat) : Int)) + ((47 : Nat) : Int) - ((23 : Nat) : Int)) (-149) = -24 := by omega
        simp only [e1]
        rw [show ((-149 + ((125 : Nat) : Int) + (-149 + ((125 : Nat) : Int)) - -24).toNat) = 0 by omega, show ((-24 - (-149 + ((125 : Nat) : Int) + (-149 + ((125 : Nat) : Int)))).toNat) = 24 by omega, show ((-24 : Int) - -149).toNat = 125 by omega, Nat.shiftLeft_zero, Nat.min_eq_left (by omega)]
      generalize Toward.even.cut false (m * m) 24 = kept at hc hc0 hn0
      rw [hn0]
      refine ⟨_, kept, 125, rfl, Fin_.of_word .f32 false kept 125 (by have e1 := bin32; omega) (Or.inr (by have e1 := bin32; omega)) (by have e1 := bin32; have e2 := inf32; omega), ?_⟩
      have h9 : kept * 2 ^ 125 < 2 ^ 24 * 2 ^ 125 := Nat.mul_lt_mul_of_pos_right (by omega) (Nat.two_pow_pos _)
      rwa [← Nat.pow_add] at h9
/-- 1 less what is below 1 is above 0. -/
theorem posF_less {P : Option Nat} (h : Sin1 P) : PosF (fop .sub .f32 fu P) := by
  obtain ⟨b, m, e, rfl, h1, h2⟩ := h
  have eu : fu = some 1065353216 := by decide +kernel
  have em : fop .sub .f32 (some 1065353216) (some b) = ((FloatKind.f32.format.read 1065353216).sum (FloatKind.f32.format.read b).opposite).map FloatKind.f32.format.write := rfl
  rw [eu, em, fin_one32.read, h1.read, least32]
  obtain ⟨c, hc⟩ : ∃ c, c = min 126 e := ⟨_, rfl⟩
  have hbase : min (-149 + ((126 : Nat) : Int)) (-149 + (e : Int)) = -149 + (c : Int) := by omega
  have e1 : (2 ^ 23 * 2 ^ (126 - c)) * 2 ^ c = 2 ^ 149 := by rw [Nat.mul_assoc, ← Nat.pow_add, ← Nat.pow_add]; congr 1; omega
  have e2 : (m * 2 ^ (e - c)) * 2 ^ c = m * 2 ^ e := by rw [Nat.mul_assoc, ← Nat.pow_add]; congr 2; omega
  have hlt : m * 2 ^ (e - c) < 2 ^ 23 * 2 ^ (126 - c) := by
    rw [← e1, ← e2] at h2
    exact Nat.lt_of_mul_lt_mul_right h2
  simp only [Datum.opposite, Datum.sum, Option.map_some, hbase, Bool.not_false]
  rw [show (-149 + ((126 : Nat) : Int) - (-149 + (c : Int))).toNat = 126 - c by omega, show (-149 + (e : Int) - (-149 + (c : Int))).toNat = e - c by omega]
  have s1 : signed false (2 ^ 23) (126 - c) = ((2 ^ 23 * 2 ^ (126 - c) : Nat) : Int) := by unfold signed; rw [Nat.shiftLeft_eq]; rfl
  have s2 : signed true m (e - c) = -((m * 2 ^ (e - c) : Nat) : Int) := by unfold signed; rw [Nat.shiftLeft_eq]; rfl
  rw [s1, s2]
  generalize 2 ^ 23 * 2 ^ (126 - c) = A at *
  generalize m * 2 ^ (e - c) = B at *
  have ht : ((A : Nat) : Int) + -((B : Nat) : Int) = ((A - B : Nat) : Int) := by omega
  rw [ht, if_neg (by omega), decide_eq_false (by omega)]
  show PosF (some (FloatKind.f32.format.nearest false ((A - B : Nat) : Int).natAbs (-149 + (c : Int))))
  rw [Int.natAbs_natCast]
  refine posF_near _ _ (by omega) (by omega) ?_
  obtain ⟨m', e', g1, _⟩ := round_le .f32 false (A - B) (-149 + (c : Int)) 149 (by decide) (by decide +kernel) (by
    rw [least32, show (-149 + (c : Int) - -149).toNat = c by omega, show (-149 - (-149 + (c : Int))).toNat = 0 by omega, Nat.pow_zero, Nat.mul_one, ← e1]
    exact Nat.mul_le_mul_right _ (Nat.sub_le _ _))
  exact ⟨m', e', g1⟩
/-- The root of what is above 0 is above 0. -/
theorem posF_root {X : Option Nat} (h : PosF X) : PosF (froot X) := by
  obtain ⟨b, m, e, rfl, h1, hm⟩ := h
  obtain ⟨m', e', hw, hv⟩ := h1.wide
  have hbd := bd_sqrt (bd_wide h1 rfl) (by omega) rfl
  have e1 : froot (some b) = fconv .f64 .f32 (fsqrt (some (wide b))) := rfl
  rw [e1]
  have e2 : fsqrt (some (wide b)) = ((FloatKind.f64.format.read (wide b)).root (FloatKind.f64.format.fractionBits + 2)).map FloatKind.f64.format.write := rfl
  rw [e2] at hbd ⊢
  rw [hw.read, least64, frac64] at hbd ⊢
  have hp : 2 ^ 925 ≤ m' * 2 ^ e' := by
    rw [hv, Nat.pow_add, ← Nat.mul_assoc]
    exact Nat.le_mul_of_pos_left _ (Nat.mul_pos (by omega) (Nat.two_pow_pos _))
  have hm0 : m' ≠ 0 := by rintro rfl; rw [Nat.zero_mul] at hp; have := Nat.two_pow_pos 925; omega
  have k1 := hw.lt
  have k2 := hw.low
  have k3 := hw.top
  rw [bin64] at k1 k2 k3
  rw [inf64] at k3
  have hlo := low_lead e' 925 m' 52 (by omega) hp
  have hl : m'.log2 = 52 := by
    rw [Nat.log2_eq_iff hm0]
    omega
  have he' : e' ≤ 2046 := by omega
  simp only [Datum.root, if_neg hm0, Bool.false_eq_true, if_false, Option.map_some, hl] at hbd ⊢
  generalize hmo : 2 * (52 + 2) - 52 + ((-1074 + (e' : Int) - ((2 * (52 + 2) - 52 : Nat) : Int)) % 2).toNat = more at hbd ⊢
  have hmore : 56 ≤ more ∧ more ≤ 57 := by omega
  have hlt := rootFrom_lt (m' <<< more) ((m' <<< more).log2 / 2 + 1) 0
  have hn : (m' <<< more).log2 = 52 + more := by
    rw [Nat.shiftLeft_eq]
    exact log2_pow m' 52 more (by omega) (by omega)
  have hn0 : m' <<< more ≠ 0 := by rw [Nat.shiftLeft_eq]; exact Nat.mul_ne_zero hm0 (Nat.ne_of_gt (Nat.two_pow_pos _))
  rw [hn] at hlt
  have hbit := Bool.toNat_le (Datum.rootFrom (m' <<< more) ((m' <<< more).log2 / 2 + 1) 0 * Datum.rootFrom (m' <<< more) ((m' <<< more).log2 / 2 + 1) 0 != m' <<< more)
  have hmag0 : 2 * Datum.rootFrom (m' <<< more) ((m' <<< more).log2 / 2 + 1) 0 + (Datum.rootFrom (m' <<< more) ((m' <<< more).log2 / 2 + 1) 0 * Datum.rootFrom (m' <<< more) ((m' <<< more).log2 / 2 + 1) 0 != m' <<< more).toNat ≠ 0 := by
    by_cases hz : Datum.rootFrom (m' <<< more) ((m' <<< more).log2 / 2 + 1) 0 = 0
    · rw [hz]
      have : ((0 : Nat) * 0 != m' <<< more) = true := by rw [bne_iff_ne]; omega
      rw [this]; decide
    · omega
  have hw55 : (2 : Nat) ^ ((52 + more) / 2 + 1) ≤ 2 ^ 55 := Nat.pow_le_pow_right (by omega) (by omega)
  rw [hn] at hmag0 hbit hbd ⊢
  generalize (Datum.rootFrom (m' <<< more) ((52 + more) / 2 + 1) 0 * Datum.rootFrom (m' <<< more) ((52 + more) / 2 + 1) 0 != m' <<< more).toNat = bit at *
  generalize Datum.rootFrom (m' <<< more) ((52 + more) / 2 + 1) 0 = whole at *
  obtain ⟨g, hg⟩ : ∃ g : Nat, (-1074 + (e' : Int) - (more : Int)) / 2 - 1 = -1074 + (g : Int) ∧ 944 ≤ g ∧ g ≤ 1600 := ⟨((-1074 + (e' : Int) - (more : Int)) / 2 - 1 + 1074).toNat, by omega⟩
  obtain ⟨hg1, hg2, hg3⟩ := hg
  rw [hg1] at hbd ⊢
  have hmagU : 2 * whole + bit < 2 ^ 57 := by have : (2 : Nat) ^ 57 = 4 * 2 ^ 55 := by decide
                                              omega
  generalize 2 * whole + bit = mag at *
  have hwr : FloatKind.f64.format.write (.number false mag (-1074 + (g : Int))) = FloatKind.f64.format.nearest false mag (-1074 + (g : Int)) := rfl
  rw [hwr] at hbd ⊢
  obtain ⟨s, m2, e2', g1, g2⟩ := hbd _ rfl
  have hsg : s = false := by
    have := g1.sign
    rw [Nat.div_eq_of_lt (nearest_lt _ mag _)] at this
    exact this
  subst hsg
  obtain ⟨T, hT⟩ : ∃ T, T = 940 := ⟨_, rfl⟩
  have hlow : 2 ^ T ≤ mag * 2 ^ g := Nat.le_trans (Nat.pow_le_pow_right (by omega) (by omega)) (Nat.le_mul_of_pos_left _ (Nat.pos_of_ne_zero hmag0))
  have hG : ∀ G, mag.log2 = G → G + g - 52 + 1 ≤ 2047 := by
    intro G hG
    have : mag.log2 < 57 := (Nat.log2_lt hmag0).2 hmagU
    omega
  have h940 := round_lo mag g T (by omega) hG hlow g1
  have e4 : fconv .f64 .f32 (some (FloatKind.f64.format.nearest false mag (-1074 + (g : Int)))) = some (FloatKind.f32.format.write (FloatKind.f64.format.read (FloatKind.f64.format.nearest false mag (-1074 + (g : Int))))) := rfl
  rw [e4, g1.read, least64]
  show PosF (some (FloatKind.f32.format.nearest false m2 (-1074 + (e2' : Int))))
  have hm2 : m2 ≠ 0 := by rintro rfl; rw [Nat.zero_mul] at h940; have := Nat.two_pow_pos T; omega
  have hle := low_lead e2' T m2 m2.log2 Nat.lt_log2_self h940
  refine posF_near _ _ hm2 (by omega) ?_
  obtain ⟨m3, e3, g5, _⟩ := round_le .f32 false m2 (-1074 + (e2' : Int)) 225 (by decide) (by decide +kernel) (by
    rw [least32, show (-1074 + (e2' : Int) - -149).toNat = e2' - 925 by omega, show (-149 - (-1074 + (e2' : Int))).toNat = 925 - e2' by omega]
    exact shift_le' m2 e2' 925 225 1150 (by omega) g2)
  exact ⟨m3, e3, g5⟩
/-- The cosine of a sine below 1 is above 0. -/
theorem posF_cos {X : Option Nat} (h : Sin1 X) : PosF (fcos X) := posF_root (posF_less (sin1_sq h))
theorem nng_quo {N C : Option Nat} (hN : Nng N) (hC : PosF C) : Nng (fop .quo .f32 N C) := by
  obtain ⟨a, rfl, ha⟩ := hN
  obtain ⟨c, m, e, rfl, hc, hm⟩ := hC
  have em : fop .quo .f32 (some a) (some c) = ((FloatKind.f32.format.read a).quotient (FloatKind.f32.format.fractionBits + 2) (FloatKind.f32.format.read c)).map FloatKind.f32.format.write := rfl
  rw [em, hc.read]
  generalize FloatKind.f32.format.read a = p at ha
  cases p with
  | nan => cases ha
  | infinity s =>
    obtain rfl : s = false := by simpa [pl] using ha
    exact nng_write (d := .infinity (false ^^ false)) rfl
  | number s n i =>
    obtain rfl : s = false := by simpa [pl] using ha
    simp only [Datum.quotient, if_neg hm]
    exact nng_write (d := .number (false ^^ false) _ _) rfl
/-- What is no less than 0, times what is above 0. -/
theorem nng_mul {N C : Option Nat} (hN : Nng N) (hC : PosF C) : Nng (fop .mul .f32 N C) := by
  obtain ⟨a, rfl, ha⟩ := hN
  obtain ⟨c, m, e, rfl, hc, hm⟩ := hC
  have em : fop .mul .f32 (some a) (some c) = ((FloatKind.f32.format.read a).product (FloatKind.f32.format.read c)).map FloatKind.f32.format.write := rfl
  rw [em, hc.read]
  generalize FloatKind.f32.format.read a = p at ha
  cases p with
  | nan => cases ha
  | infinity s =>
    obtain rfl : s = false := by simpa [pl] using ha
    simp only [Datum.product, if_neg hm]
    exact nng_write (d := .infinity (false ^^ false)) rfl
  | number s n i =>
    obtain rfl : s = false := by simpa [pl] using ha
    exact nng_write (d := .number (false ^^ false) _ _) rfl
/-- What is above 0, times a sine. -/
theorem nng_mulS {N C : Option Nat} (hN : PosF N) (hC : Sin1 C) : Nng (fop .mul .f32 N C) := by
  obtain ⟨a, n, i, rfl, ha, _⟩ := hN
  obtain ⟨c, m, e, rfl, hc, _⟩ := hC
  have em : fop .mul .f32 (some a) (some c) = ((FloatKind.f32.format.read a).product (FloatKind.f32.format.read c)).map FloatKind.f32.format.write := rfl
  rw [em, hc.read, ha.read]
  exact nng_write (d := .number (false ^^ false) _ _) rfl
theorem nng_twice {X : Option Nat} (hx : Nng X) : Nng (fop .mul .f32 k32two X) := by
  obtain ⟨a, rfl, ha⟩ := hx
  have e2 : k32two = some 1073741824 := by decide +kernel
  have e : fop .mul .f32 (some 1073741824) (some a) = ((FloatKind.f32.format.read 1073741824).product (FloatKind.f32.format.read a)).map FloatKind.f32.format.write := rfl
  rw [e2, e, read_two]
  generalize FloatKind.f32.format.read a = p at ha
  cases p with
  | nan => cases ha
  | infinity s =>
    obtain rfl : s = false := by simpa [pl] using ha
    exact nng_write (d := .infinity false) rfl
  | number s m i =>
    obtain rfl : s = false := by simpa [pl] using ha
    refine nng_write (d := .number (false ^^ false) _ _) rfl
end Go.Proofs.Ytkoiimjpalhgbab
