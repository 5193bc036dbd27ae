/- Bounds of floats by powers of two: what operations keep them, and that a number so bound is not too great for 32 bits. No condition but the bounds. -/
import Derived.Test.YtfmhdnhaaohdjaaNum
namespace Go.Proofs.Ytfmhdnhaaohdjaa
open Ieee

theorem cut_form (neg : Bool) (n d : Nat) : ∃ t : Bool, Toward.even.cut neg n d = n / (1 <<< min d (n.log2 + 2)) + t.toNat := ⟨_, rfl⟩

theorem cut_spec (neg : Bool) (n d : Nat) : n / 2 ^ d ≤ Toward.even.cut neg n d ∧ Toward.even.cut neg n d ≤ n / 2 ^ d + 1 := by
  obtain ⟨t, ht⟩ := cut_form neg n d
  have h1 := Bool.toNat_le t
  rw [ht]
  by_cases h : d ≤ n.log2 + 2
  · rw [Nat.min_eq_left h, Nat.one_shiftLeft]
    omega
  · have hn : n < 2 ^ (n.log2 + 1) := Nat.lt_log2_self
    have h2 : 2 ^ (n.log2 + 2) = 2 * 2 ^ (n.log2 + 1) := by rw [Nat.pow_succ]; omega
    have h3 : 2 ^ (n.log2 + 2) ≤ 2 ^ d := Nat.pow_le_pow_right (by omega) (by omega)
    rw [Nat.min_eq_right (by omega), Nat.one_shiftLeft, Nat.div_eq_of_lt (show n < 2 ^ d by omega), Nat.div_eq_of_lt (show n < 2 ^ (n.log2 + 2) by omega)]
    omega


/-- ROUNDING KEEPS A BOUND THAT IS A POWER OF TWO. 'X': the power, counted from the least place. -/
theorem round_le (k : FloatKind) (s : Bool) (mag : Nat) (place : Int) (X : Nat) (hp : k.format.fractionBits ≤ X) (htop : (X - k.format.fractionBits + 2) * k.format.binade ≤ k.format.infRung)
    (h : mag * 2 ^ (place - k.format.leastPlace).toNat ≤ 2 ^ X * 2 ^ (k.format.leastPlace - place).toNat) :
    ∃ m' e', Fin_ k (k.format.nearest s mag place) s m' e' ∧ m' * 2 ^ e' ≤ 2 ^ X := by
  have hbin : k.format.binade = 2 ^ k.format.fractionBits := rfl
  generalize hL : k.format.leastPlace = L at *
  generalize hq : k.format.fractionBits = q at *
  generalize hB : k.format.binade = B at *
  have hBpos : 0 < B := by rw [hbin]; exact Nat.two_pow_pos _
  by_cases h0 : mag = 0
  · subst h0
    have hw := Fin_.of_word k s 0 0 (by rw [hB]; omega) (Or.inl rfl) (by
      have h1 : 2 * B ≤ (X - q + 2) * B := Nat.mul_le_mul_right _ (by omega)
      rw [hB]; omega)
    have e : k.format.nearest s 0 place = k.format.word s (0 * k.format.binade + 0) := by simp [Format.nearest]
    rw [e]
    exact ⟨0, 0, hw, by simp⟩
  · have hG0 := (Nat.le_log2 h0 (k := mag.log2)).1 (Nat.le_refl _)
    have hG1 : mag < 2 ^ (mag.log2 + 1) := Nat.lt_log2_self
    generalize hG : mag.log2 = G at *
    -- the place of the highest digit
    have hGX : G + (place - L).toNat ≤ X + (L - place).toNat := by
      have h1 : 2 ^ G * 2 ^ (place - L).toNat ≤ 2 ^ X * 2 ^ (L - place).toNat := Nat.le_trans (Nat.mul_le_mul_right _ hG0) h
      rw [← Nat.pow_add, ← Nat.pow_add] at h1
      exact (Nat.pow_le_pow_iff_right (by omega)).1 h1
    obtain ⟨e, he⟩ : ∃ e : Nat, max (place + (G : Int) - (q : Int)) L = L + (e : Int) := ⟨(max (place + (G : Int) - (q : Int)) L - L).toNat, by omega⟩
    have heX : e + q ≤ X := by omega
    -- the digits that are kept
    have hkept : ∃ kept, Toward.even.cut s (mag <<< (place - (L + (e : Int))).toNat) ((L + (e : Int)) - place).toNat = kept ∧ kept ≤ 2 * B ∧ (e = 0 ∨ B ≤ kept) ∧ (kept = 2 * B → e + q + 1 ≤ X) ∧ kept * 2 ^ e ≤ 2 ^ X := by
      refine ⟨_, rfl, ?_⟩
      rw [Nat.shiftLeft_eq]
      rcases Int.le_total (L + (e : Int)) place with hc | hc
      · -- nothing is dropped
        have hd : ((L + (e : Int)) - place).toNat = 0 := by omega
        obtain ⟨u, hu⟩ : ∃ u : Nat, place = L + (e : Int) + (u : Int) := ⟨(place - (L + (e : Int))).toNat, by omega⟩
        have hu' : (place - (L + (e : Int))).toNat = u := by omega
        rw [hd, hu']
        have hx := cut_exact .even s (mag * 2 ^ u) 0
        rw [Nat.pow_zero, Nat.mul_one] at hx
        rw [hx]
        have hlt : mag * 2 ^ u < 2 * B := by
          have h1 : mag * 2 ^ u < 2 ^ (G + 1) * 2 ^ u := Nat.mul_lt_mul_of_pos_right hG1 (Nat.two_pow_pos _)
          have h2 : 2 ^ (G + 1) * 2 ^ u ≤ 2 * B := by
            rw [hbin, ← Nat.pow_add, ← Nat.pow_succ']
            exact Nat.pow_le_pow_right (by omega) (by omega)
          omega
        refine ⟨by omega, ?_, fun hh => by omega, ?_⟩
        · by_cases he0 : e = 0
          · exact Or.inl he0
          · right
            have hqu : q = G + u := by omega
            rw [hbin, hqu, Nat.pow_add]
            exact Nat.mul_le_mul_right _ hG0
        · rw [Nat.mul_assoc, ← Nat.pow_add]
          have h1 : (place - L).toNat = u + e := by omega
          have h2 : (L - place).toNat = 0 := by omega
          rw [h1, h2] at h
          simpa using h
      · -- digits are dropped
        obtain ⟨d, hd⟩ : ∃ d : Nat, L + (e : Int) = place + (d : Int) := ⟨((L + (e : Int)) - place).toNat, by omega⟩
        have hu' : (place - (L + (e : Int))).toNat = 0 := by omega
        have hd' : ((L + (e : Int)) - place).toNat = d := by omega
        rw [hu', hd', Nat.pow_zero, Nat.mul_one]
        obtain ⟨c1, c2⟩ := cut_spec s mag d
        have hGd : G ≤ q + d := by omega
        have hlt : mag / 2 ^ d < 2 * B := by
          rw [Nat.div_lt_iff_lt_mul (Nat.two_pow_pos _), hbin, ← Nat.pow_succ', ← Nat.pow_add]
          exact Nat.lt_of_lt_of_le hG1 (Nat.pow_le_pow_right (by omega) (by omega))
        have hlow : e = 0 ∨ B ≤ mag / 2 ^ d := by
          by_cases he0 : e = 0
          · exact Or.inl he0
          · right
            have hGq : G = q + d := by omega
            rw [Nat.le_div_iff_mul_le (Nat.two_pow_pos _), hbin, ← Nat.pow_add, ← hGq]
            exact hG0
        by_cases hX : e + q + 1 ≤ X
        · refine ⟨by omega, by omega, fun _ => hX, ?_⟩
          have h1 : Toward.even.cut s mag d * 2 ^ e ≤ 2 * B * 2 ^ e := Nat.mul_le_mul_right _ (by omega)
          have h2 : 2 * B * 2 ^ e ≤ 2 ^ X := by
            rw [hbin, ← Nat.pow_succ', ← Nat.pow_add]
            exact Nat.pow_le_pow_right (by omega) (by omega)
          omega
        · have hXe : X = e + q := by omega
          -- the number is at most 2 ^ (q + d), and then the digits at most B
          have hm : mag ≤ 2 ^ q * 2 ^ d := by
            rcases Int.le_total L place with hp' | hp'
            · have h1 : (L - place).toNat = 0 := by omega
              obtain ⟨v, hv⟩ : ∃ v : Nat, (place - L).toNat = v ∧ e = v + d := ⟨(place - L).toNat, rfl, by omega⟩
              rw [h1, hv.1, Nat.pow_zero, Nat.mul_one, hXe, hv.2, show v + d + q = (q + d) + v by omega, Nat.pow_add 2 (q + d)] at h
              rw [← Nat.pow_add]
              exact Nat.le_of_mul_le_mul_right h (Nat.two_pow_pos v)
            · have h1 : (place - L).toNat = 0 := by omega
              have h2 : (L - place).toNat + e = d := by omega
              rw [h1, Nat.pow_zero, Nat.mul_one, hXe, ← Nat.pow_add, show e + q + (L - place).toNat = q + d by omega] at h
              rw [← Nat.pow_add]; exact h
          have hkB : Toward.even.cut s mag d ≤ B := by
            rcases Nat.lt_or_ge mag (2 ^ q * 2 ^ d) with hl | hg
            · have : mag / 2 ^ d < B := by rw [Nat.div_lt_iff_lt_mul (Nat.two_pow_pos _), hbin]; exact hl
              omega
            · have : mag = 2 ^ q * 2 ^ d := by omega
              rw [this, cut_exact, hbin]
              exact Nat.le_refl _
          refine ⟨by omega, by omega, fun hh => by omega, ?_⟩
          have h1 : Toward.even.cut s mag d * 2 ^ e ≤ B * 2 ^ e := Nat.mul_le_mul_right _ hkB
          have h2 : B * 2 ^ e = 2 ^ X := by rw [hbin, ← Nat.pow_add, hXe, Nat.add_comm]
          omega
    obtain ⟨kept, hk, k1, k2, k3, k4⟩ := hkept
    have hmono : (e + 2) * B ≤ (X - q + 2) * B := Nat.mul_le_mul_right _ (by omega)
    have hexp : (e + 2) * B = e * B + 2 * B := Nat.add_mul _ _ _
    have hnear : k.format.nearest s mag place = k.format.word s (e * B + kept) := by
      unfold Format.nearest
      rw [if_neg h0, hG, hq, hL, hB]
      simp only [he, hk]
      rw [show (L + (e : Int) - L).toNat = e by omega]
      congr 1
      by_cases h2B : kept = 2 * B
      · have := k3 h2B
        have hm2 : (e + 3) * B ≤ (X - q + 2) * B := Nat.mul_le_mul_right _ (by omega)
        have hexp2 : (e + 3) * B = e * B + 3 * B := Nat.add_mul _ _ _
        exact Nat.min_eq_left (by omega)
      · exact Nat.min_eq_left (by omega)
    rw [hnear]
    by_cases h2B : kept = 2 * B
    · have := k3 h2B
      have hm2 : (e + 3) * B ≤ (X - q + 2) * B := Nat.mul_le_mul_right _ (by omega)
      have hexp2 : (e + 3) * B = e * B + 3 * B := Nat.add_mul _ _ _
      have hexp3 : (e + 1) * B = e * B + B := by rw [Nat.add_mul, Nat.one_mul]
      have hw := Fin_.of_word k s B (e + 1) (by rw [hB]; omega) (Or.inr (by rw [hB]; exact Nat.le_refl _)) (by rw [hB]; omega)
      rw [hB, show (e + 1) * B + B = e * B + kept by omega] at hw
      refine ⟨B, e + 1, hw, ?_⟩
      rw [h2B] at k4
      rw [Nat.pow_succ, Nat.mul_comm (2 ^ e) 2, ← Nat.mul_assoc, Nat.mul_comm B 2]
      exact k4
    · have hw := Fin_.of_word k s kept e (by rw [hB]; omega) (by rw [hB]; exact k2) (by rw [hB]; omega)
      rw [hB] at hw
      exact ⟨kept, e, hw, k4⟩

theorem least64 : FloatKind.f64.format.leastPlace = -1074 := by decide +kernel
theorem least32 : FloatKind.f32.format.leastPlace = -149 := by decide +kernel
theorem frac64 : FloatKind.f64.format.fractionBits = 52 := rfl
theorem frac32 : FloatKind.f32.format.fractionBits = 23 := rfl

theorem shift_le (m e D X : Nat) (h : m * 2 ^ e ≤ 2 ^ (X + D)) : m * 2 ^ (e - D) ≤ 2 ^ X * 2 ^ (D - e) := by
  rcases Nat.le_total D e with hd | hd
  · obtain ⟨u, rfl⟩ := Nat.exists_eq_add_of_le hd
    rw [show D + u - D = u by omega, show D - (D + u) = 0 by omega, Nat.pow_zero, Nat.mul_one]
    rw [Nat.add_comm D u, Nat.pow_add, Nat.pow_add, ← Nat.mul_assoc] at h
    exact Nat.le_of_mul_le_mul_right h (Nat.two_pow_pos D)
  · obtain ⟨u, rfl⟩ := Nat.exists_eq_add_of_le hd
    rw [show e - (e + u) = 0 by omega, show e + u - e = u by omega, Nat.pow_zero, Nat.mul_one, ← Nat.pow_add]
    rw [show X + (e + u) = (X + u) + e by omega, Nat.pow_add 2 (X + u)] at h
    exact Nat.le_of_mul_le_mul_right h (Nat.two_pow_pos e)

theorem shift_le' (m e D X E : Nat) (hE : E = X + D) (h : m * 2 ^ e ≤ 2 ^ E) : m * 2 ^ (e - D) ≤ 2 ^ X * 2 ^ (D - e) := shift_le m e D X (by rw [← hE]; exact h)

/-- A 64-bit float that is no infinity, bound by 2 to the power E - 1074. -/
def Bd (X : Option Nat) (E : Nat) : Prop := ∀ b, X = some b → ∃ s m e, Fin_ .f64 b s m e ∧ m * 2 ^ e ≤ 2 ^ E

theorem Bd.mono {X : Option Nat} {E F : Nat} (h : Bd X E) (hf : E ≤ F) : Bd X F := fun b hb => by
  obtain ⟨s, m, e, h1, h2⟩ := h b hb
  exact ⟨s, m, e, h1, Nat.le_trans h2 (Nat.pow_le_pow_right (by omega) hf)⟩
theorem bd_none (E : Nat) : Bd none E := fun _ h => by cases h

theorem bd_near (s : Bool) (mag : Nat) (place : Int) (F : Nat) (h1 : 52 ≤ F) (h2 : F ≤ 2097)
    (h : mag * 2 ^ (place + 1074).toNat ≤ 2 ^ F * 2 ^ (-1074 - place).toNat) : Bd (some (FloatKind.f64.format.write (.number s mag place))) F := by
  intro b hb
  have hbb := Option.some.inj hb
  obtain ⟨m', e', hw, hle⟩ := round_le .f64 s mag place F h1 (by rw [inf64, bin64, frac64]; omega) (by rw [least64]; rw [show place - -1074 = place + 1074 by omega]; exact h)
  rw [← hbb]
  exact ⟨s, m', e', hw, hle⟩

theorem bd_mul {X Y : Option Nat} {E E' : Nat} (F : Nat) (hx : Bd X E) (hy : Bd Y E') (h1 : 52 ≤ F) (h2 : F ≤ 2097) (h : E + E' ≤ F + 1074) : Bd (fop .mul .f64 X Y) F := by
  cases X with
  | none => exact bd_none _
  | some a =>
  cases Y with
  | none => exact bd_none _
  | some b =>
    obtain ⟨s, m, e, ha, hae⟩ := hx a rfl
    obtain ⟨t, n, j, hb, hbe⟩ := hy b rfl
    have e1 : fop .mul .f64 (some a) (some b) = some (FloatKind.f64.format.write (.number (s ^^ t) (m * n) (FloatKind.f64.format.leastPlace + (e : Int) + (FloatKind.f64.format.leastPlace + (j : Int))))) := by
      show floatBits .mul .f64 a b = _
      unfold floatBits Format.mul
      rw [ha.read, hb.read]; rfl
    rw [e1, least64]
    refine bd_near _ _ _ F h1 h2 ?_
    rw [show (-1074 + (e : Int) + (-1074 + (j : Int)) + 1074).toNat = (e + j) - 1074 by omega, show (-1074 - (-1074 + (e : Int) + (-1074 + (j : Int)))).toNat = 1074 - (e + j) by omega]
    refine shift_le _ _ _ _ ?_
    have h3 : m * n * 2 ^ (e + j) = (m * 2 ^ e) * (n * 2 ^ j) := by rw [Nat.pow_add]; ac_rfl
    rw [h3]
    refine Nat.le_trans (Nat.mul_le_mul hae hbe) ?_
    rw [← Nat.pow_add]
    exact Nat.pow_le_pow_right (by omega) h

theorem signed_abs (s : Bool) (m k : Nat) : (signed s m k).natAbs = m * 2 ^ k := by
  unfold signed; rw [Nat.shiftLeft_eq]
  split
  · rw [Int.natAbs_neg, Int.natAbs_natCast]
  · rw [Int.natAbs_natCast]

theorem bd_sum {s t : Bool} {m n e j E E' : Nat} (F : Nat) (hae : m * 2 ^ e ≤ 2 ^ E) (hbe : n * 2 ^ j ≤ 2 ^ E') (h1 : 52 ≤ F) (h2 : F ≤ 2097) (h : E + 1 ≤ F) (h' : E' + 1 ≤ F) :
    ∃ d, (Datum.number s m (-1074 + (e : Int))).sum (.number t n (-1074 + (j : Int))) = some d ∧ Bd (some (FloatKind.f64.format.write d)) F := by
  refine ⟨_, rfl, ?_⟩
  refine bd_near _ _ _ F h1 h2 ?_
  have hb : ∃ b : Nat, min (-1074 + (e : Int)) (-1074 + (j : Int)) = -1074 + (b : Int) ∧ b ≤ e ∧ b ≤ j := ⟨min e j, by omega, by omega, by omega⟩
  obtain ⟨b, hb, hbe', hbj⟩ := hb
  rw [hb]
  rw [show (-1074 + (b : Int) + 1074).toNat = b by omega, show (-1074 - (-1074 + (b : Int))).toNat = 0 by omega, show (-1074 + (e : Int) - (-1074 + (b : Int))).toNat = e - b by omega, show (-1074 + (j : Int) - (-1074 + (b : Int))).toNat = j - b by omega, Nat.pow_zero, Nat.mul_one]
  have hn := Int.natAbs_add_le (signed s m (e - b)) (signed t n (j - b))
  rw [signed_abs, signed_abs] at hn
  have h3 := Nat.mul_le_mul_right (2 ^ b) hn
  rw [Nat.add_mul, Nat.mul_assoc, Nat.mul_assoc, ← Nat.pow_add, ← Nat.pow_add, Nat.sub_add_cancel hbe', Nat.sub_add_cancel hbj] at h3
  have h4 : 2 ^ E ≤ 2 ^ (F - 1) := Nat.pow_le_pow_right (by omega) (by omega)
  have h5 : 2 ^ E' ≤ 2 ^ (F - 1) := Nat.pow_le_pow_right (by omega) (by omega)
  have h6 : 2 ^ F = 2 ^ (F - 1) + 2 ^ (F - 1) := by rw [← Nat.two_mul, ← Nat.pow_succ', show (F - 1).succ = F by omega]
  omega

theorem bd_add {X Y : Option Nat} {E E' : Nat} (F : Nat) (hx : Bd X E) (hy : Bd Y E') (h1 : 52 ≤ F) (h2 : F ≤ 2097) (h : E + 1 ≤ F) (h' : E' + 1 ≤ F) : Bd (fop .add .f64 X Y) F := by
  cases X with
  | none => exact bd_none _
  | some a =>
  cases Y with
  | none => exact bd_none _
  | some b =>
    obtain ⟨s, m, e, ha, hae⟩ := hx a rfl
    obtain ⟨t, n, j, hb, hbe⟩ := hy b rfl
    obtain ⟨d, hd, hbd⟩ := bd_sum (s := s) (t := t) F hae hbe h1 h2 h h'
    have e1 : fop .add .f64 (some a) (some b) = some (FloatKind.f64.format.write d) := by
      show floatBits .add .f64 a b = _
      unfold floatBits Format.add
      rw [ha.read, hb.read, least64, hd]; rfl
    rw [e1]; exact hbd

theorem bd_sub {X Y : Option Nat} {E E' : Nat} (F : Nat) (hx : Bd X E) (hy : Bd Y E') (h1 : 52 ≤ F) (h2 : F ≤ 2097) (h : E + 1 ≤ F) (h' : E' + 1 ≤ F) : Bd (fop .sub .f64 X Y) F := by
  cases X with
  | none => exact bd_none _
  | some a =>
  cases Y with
  | none => exact bd_none _
  | some b =>
    obtain ⟨s, m, e, ha, hae⟩ := hx a rfl
    obtain ⟨t, n, j, hb, hbe⟩ := hy b rfl
    obtain ⟨d, hd, hbd⟩ := bd_sum (s := s) (t := !t) F hae hbe h1 h2 h h'
    have e1 : fop .sub .f64 (some a) (some b) = some (FloatKind.f64.format.write d) := by
      show floatBits .sub .f64 a b = _
      unfold floatBits Format.sub
      rw [ha.read, hb.read, least64]
      simp only [Datum.opposite]
      rw [hd]; rfl
    rw [e1]; exact hbd

/-- A quotient by a number of at least 2 to the power C - 1074. -/
theorem bd_quo {X : Option Nat} {c : Nat} {t : Bool} {n j E C : Nat} (F : Nat) (hx : Bd X E) (hc : Fin_ .f64 c t n j) (hC : 2 ^ C ≤ n * 2 ^ j) (h1 : 52 ≤ F) (h2 : F ≤ 2097) (h : E + 1075 ≤ F + C) : Bd (fop .quo .f64 X (some c)) F := by
  cases X with
  | none => exact bd_none _
  | some a =>
    obtain ⟨s, m, e, ha, hae⟩ := hx a rfl
    have hn0 : n ≠ 0 := by
      intro h0; subst h0; have := Nat.two_pow_pos C; omega
    have e1 : fop .quo .f64 (some a) (some c) = some (FloatKind.f64.format.write (.number (s ^^ t) (2 * ((m <<< (54 + n.log2 - m.log2)) / n) + ((m <<< (54 + n.log2 - m.log2)) % n != 0).toNat) (FloatKind.f64.format.leastPlace + (e : Int) - (FloatKind.f64.format.leastPlace + (j : Int)) - ((54 + n.log2 - m.log2 : Nat) : Int) - 1))) := by
      show floatBits .quo .f64 a c = _
      unfold floatBits Format.div
      rw [ha.read, hc.read, frac64]
      simp only [Datum.quotient, if_neg hn0]
      rfl
    rw [e1, least64]
    refine bd_near _ _ _ F h1 h2 ?_
    generalize hmo : 54 + n.log2 - m.log2 = more
    rw [Nat.shiftLeft_eq]
    by_cases hm0 : m = 0
    · subst hm0; simp
    · have hnl : n < 2 ^ (n.log2 + 1) := Nat.lt_log2_self
      have hml := (Nat.le_log2 hm0 (k := m.log2)).1 (Nat.le_refl _)
      have hge : n ≤ m * 2 ^ more := by
        have k1 : 2 ^ (m.log2 + more) ≤ m * 2 ^ more := by rw [Nat.pow_add]; exact Nat.mul_le_mul_right _ hml
        have k2 : 2 ^ (n.log2 + 1) ≤ 2 ^ (m.log2 + more) := Nat.pow_le_pow_right (by omega) (by omega)
        omega
      have hq1 : 1 ≤ m * 2 ^ more / n := (Nat.le_div_iff_mul_le (by omega)).2 (by omega)
      have ht := Bool.toNat_le (m * 2 ^ more % n != 0)
      generalize (m * 2 ^ more % n != 0).toNat = bit at *
      have hqn : m * 2 ^ more / n * n ≤ m * 2 ^ more := Nat.div_mul_le_self _ _
      generalize m * 2 ^ more / n = q at *
      have hmag : (2 * q + bit) * n ≤ 4 * (m * 2 ^ more) := by
        have k1 : (2 * q + bit) * n ≤ 4 * q * n := Nat.mul_le_mul_right _ (by omega)
        have k2 : 4 * q * n = 4 * (q * n) := Nat.mul_assoc _ _ _
        omega
      generalize 2 * q + bit = mag at *
      obtain ⟨T, hT⟩ : ∃ T : Nat, T = 1073 := ⟨_, rfl⟩
      rw [show (-1074 + (e : Int) - (-1074 + (j : Int)) - (more : Int) - 1 + 1074).toNat = (e + T) - (j + more) by omega, show (-1074 - (-1074 + (e : Int) - (-1074 + (j : Int)) - (more : Int) - 1)).toNat = (j + more) - (e + T) by omega]
      refine shift_le _ _ _ _ ?_
      -- mag * 2^(e+T) * 2^C ≤ 2^(F + j + more) * 2^C
      have k3 : mag * 2 ^ (e + T) * 2 ^ C ≤ 2 ^ (F + (j + more)) * 2 ^ C := by
        have k4 : mag * 2 ^ (e + T) * 2 ^ C ≤ mag * 2 ^ (e + T) * (n * 2 ^ j) := Nat.mul_le_mul_left _ hC
        have k5 : mag * 2 ^ (e + T) * (n * 2 ^ j) = mag * n * (2 ^ e * 2 ^ T * 2 ^ j) := by rw [Nat.pow_add]; ac_rfl
        have k6 : mag * n * (2 ^ e * 2 ^ T * 2 ^ j) ≤ 4 * (m * 2 ^ more) * (2 ^ e * 2 ^ T * 2 ^ j) := Nat.mul_le_mul_right _ hmag
        have k7 : 4 * (m * 2 ^ more) * (2 ^ e * 2 ^ T * 2 ^ j) = (m * 2 ^ e) * (2 ^ 2 * 2 ^ more * 2 ^ T * 2 ^ j) := by
          rw [show (4 : Nat) = 2 ^ 2 from rfl]; ac_rfl
        have k8 : (m * 2 ^ e) * (2 ^ 2 * 2 ^ more * 2 ^ T * 2 ^ j) ≤ 2 ^ E * (2 ^ 2 * 2 ^ more * 2 ^ T * 2 ^ j) := Nat.mul_le_mul_right _ hae
        have k9 : 2 ^ E * (2 ^ 2 * 2 ^ more * 2 ^ T * 2 ^ j) ≤ 2 ^ (F + (j + more)) * 2 ^ C := by
          rw [← Nat.pow_add, ← Nat.pow_add, ← Nat.pow_add, ← Nat.pow_add, ← Nat.pow_add]
          exact Nat.pow_le_pow_right (by omega) (by omega)
        exact Nat.le_trans k4 (k5 ▸ Nat.le_trans k6 (k7 ▸ Nat.le_trans k8 k9))
      exact Nat.le_of_mul_le_mul_right k3 (Nat.two_pow_pos C)

/-- What is bound by 2 to the power 127 is not too great for 32 bits. -/
theorem fits_bd {X : Option Nat} {E : Nat} (h : Bd X E) (hE : E ≤ 1201) : Fits .f64 .f32 X := by
  right
  intro a ha
  right
  obtain ⟨X, hX⟩ : ∃ X : Nat, X = 276 := ⟨_, rfl⟩
  obtain ⟨s, m, e, hf, hle⟩ := h.mono (show E ≤ X + 925 by omega) a ha
  unfold FloatKind.decode FloatKind.encode
  rw [hf.read, least64]
  obtain ⟨m', e', hw, _⟩ := round_le .f32 s m (-1074 + (e : Int)) X (by rw [frac32]; omega) (by rw [inf32, bin32, frac32]; omega) (by
    rw [least32, show (-1074 + (e : Int) - -149).toNat = e - 925 by omega, show (-149 - (-1074 + (e : Int))).toNat = 925 - e by omega]
    exact shift_le _ _ 925 X hle)
  show (FloatKind.f32.format.read (FloatKind.f32.format.nearest s m (-1074 + (e : Int)))).isInfinity = false
  rw [hw.read]; rfl
end Go.Proofs.Ytfmhdnhaaohdjaa
