/- Turns that are not far: their whole part is an int64, what is left is bound, and so is the sine. Condition: the number of turns is nearer to 0 than 2 to the 52nd. -/
import Derived.Test.YtcjddnkebdjhoaaSine
namespace Go.Proofs.Ytcjddnkebdjhoaa
open Go.RowKit Ieee

theorem fin_far : Fin_ .f64 4841369599423283200 false (2 ^ 52) 1074 := by
  have h := Fin_.of_word .f64 false (2 ^ 52) 1074 (by decide +kernel) (Or.inr (by decide +kernel)) (by decide +kernel)
  have e : FloatKind.f64.format.word false (1074 * FloatKind.f64.format.binade + 2 ^ 52) = 4841369599423283200 := by decide +kernel
  rwa [e] at h
theorem fin_farneg : Fin_ .f64 14064741636278059008 true (2 ^ 52) 1074 := by
  have h := Fin_.of_word .f64 true (2 ^ 52) 1074 (by decide +kernel) (Or.inr (by decide +kernel)) (by decide +kernel)
  have e : FloatKind.f64.format.word true (1074 * FloatKind.f64.format.binade + 2 ^ 52) = 14064741636278059008 := by decide +kernel
  rwa [e] at h

/-- Nearer to 0 than 2 to the 52nd, of a finite word. -/
def Near (T m e : Nat) : Prop := m * 2 ^ e < 2 ^ 52 * 2 ^ T

theorem cmp_far_abs (m e n j : Nat) : (some (compare (sv false m e) (sv false n j)) == some Ordering.gt || some (compare (sv false m e) (sv false n j)) == some Ordering.eq) = !decide (m * 2 ^ e < n * 2 ^ j) := by
  unfold sv
  simp only [Bool.false_eq_true, if_false]
  generalize m * 2 ^ e = A
  generalize n * 2 ^ j = B
  rw [cmp_eq]
  by_cases h1 : A < B
  · rw [if_pos (by omega)]; simp [h1]
  · rw [if_neg (by omega)]
    by_cases h2 : A = B
    · rw [if_pos (by omega)]; simp [h1]
    · rw [if_neg (by omega)]; simp [h1]

theorem cmp_far_pos (s : Bool) (m e n j : Nat) (hB : 0 < n * 2 ^ j) : (some (compare (sv s m e) (sv false n j)) == some Ordering.gt || some (compare (sv s m e) (sv false n j)) == some Ordering.eq) = (!s && !decide (m * 2 ^ e < n * 2 ^ j)) := by
  cases s
  · rw [cmp_far_abs]; simp
  · unfold sv
    simp only [Bool.false_eq_true, if_false, if_true]
    generalize m * 2 ^ e = A
    generalize n * 2 ^ j = B at *
    rw [cmp_eq, if_pos (by omega)]
    rfl

theorem cmp_far_neg (s : Bool) (m e n j : Nat) (hB : 0 < n * 2 ^ j) : (some (compare (sv s m e) (sv true n j)) == some Ordering.lt || some (compare (sv s m e) (sv true n j)) == some Ordering.eq) = (s && !decide (m * 2 ^ e < n * 2 ^ j)) := by
  cases s
  · unfold sv
    simp only [Bool.false_eq_true, if_false, if_true]
    generalize m * 2 ^ e = A
    generalize n * 2 ^ j = B at *
    rw [cmp_eq, if_neg (by omega), if_neg (by omega)]
    rfl
  · unfold sv
    simp only [if_true]
    generalize m * 2 ^ e = A
    generalize n * 2 ^ j = B at *
    rw [cmp_eq]
    by_cases h1 : A < B
    · rw [if_neg (by omega), if_neg (by omega)]; simp [h1]
    · by_cases h2 : A = B
      · rw [if_neg (by omega), if_pos (by omega)]; simp [h1]
      · rw [if_pos (by omega)]; simp [h1]

theorem far_pos (T : Nat) : 0 < 2 ^ 52 * 2 ^ T := Nat.mul_pos (Nat.two_pow_pos _) (Nat.two_pow_pos _)

/-- The whole part, cut towards zero. -/
theorem toInt_near {T : Nat} (hT : T = 1074) {s : Bool} {m e : Nat} (hn : Near T m e) : ∃ N : Nat, (Datum.number s m (-1074 + (e : Int))).toInt .zero = some (signed s N 0) ∧ N < 2 ^ 52 ∧ N * 2 ^ T ≤ m * 2 ^ e ∧ m * 2 ^ e < N * 2 ^ T + 2 ^ T := by
  unfold Near at hn
  rw [show (-1074 + (e : Int)) = (-(T : Int) + (e : Int)) by omega]
  have hcut : ∀ n d : Nat, Toward.zero.cut s n d = n / 2 ^ d := by
    intro n d
    unfold Toward.cut
    simp only [Bool.toNat_false, Nat.add_zero]
    by_cases h : d ≤ n.log2 + 2
    · rw [Nat.min_eq_left h, Nat.one_shiftLeft]
    · have hl : n < 2 ^ (n.log2 + 1) := Nat.lt_log2_self
      have h2 : 2 ^ (n.log2 + 2) = 2 * 2 ^ (n.log2 + 1) := by rw [Nat.pow_succ]; omega
      have h3 : 2 ^ (n.log2 + 2) ≤ 2 ^ d := Nat.pow_le_pow_right (by omega) (by omega)
      rw [Nat.min_eq_right (by omega), Nat.one_shiftLeft, Nat.div_eq_of_lt (show n < 2 ^ d by omega), Nat.div_eq_of_lt (show n < 2 ^ (n.log2 + 2) by omega)]
  refine ⟨(m <<< (-(T : Int) + (e : Int)).toNat) / 2 ^ (-(-(T : Int) + (e : Int))).toNat, ?_, ?_⟩
  · unfold Datum.toInt Datum.integral
    simp only [hcut]
  · rw [Nat.shiftLeft_eq]
    rcases Nat.le_total T e with h | h
    · obtain ⟨u, rfl⟩ := Nat.exists_eq_add_of_le h
      rw [show (-(T : Int) + ((T + u : Nat) : Int)).toNat = u by omega, show (-(-(T : Int) + ((T + u : Nat) : Int))).toNat = 0 by omega, Nat.pow_zero, Nat.div_one]
      have e1 : m * 2 ^ (T + u) = m * 2 ^ u * 2 ^ T := by rw [Nat.pow_add]; ac_rfl
      rw [e1] at hn ⊢
      refine ⟨Nat.lt_of_mul_lt_mul_right hn, Nat.le_refl _, ?_⟩
      have := Nat.two_pow_pos T
      omega
    · obtain ⟨u, hu⟩ := Nat.exists_eq_add_of_le h
      rw [show (-(T : Int) + (e : Int)).toNat = 0 by omega, show (-(-(T : Int) + (e : Int))).toNat = u by omega, Nat.pow_zero, Nat.mul_one]
      rw [hu, Nat.add_comm e u, Nat.pow_add] at hn ⊢
      have hd := Nat.div_add_mod m (2 ^ u)
      have hm := Nat.mod_lt m (Nat.two_pow_pos u)
      have hpe := Nat.two_pow_pos e
      refine ⟨?_, ?_, ?_⟩
      · rw [Nat.div_lt_iff_lt_mul (Nat.two_pow_pos _)]
        rw [← Nat.mul_assoc] at hn
        exact Nat.lt_of_mul_lt_mul_right hn
      · rw [← Nat.mul_assoc]
        exact Nat.mul_le_mul_right _ (Nat.div_mul_le_self _ _)
      · have h1 : m < m / 2 ^ u * 2 ^ u + 2 ^ u := by rw [Nat.mul_comm]; omega
        have h2 : m * 2 ^ e < (m / 2 ^ u * 2 ^ u + 2 ^ u) * 2 ^ e := Nat.mul_lt_mul_of_pos_right h1 hpe
        rw [Nat.add_mul] at h2
        rw [← Nat.mul_assoc]
        exact h2

/-- A small whole number as a 64-bit float: the same number. -/
theorem int_fin {T : Nat} (hT : T = 1074) (N : Nat) (neg : Bool) (hN : N < 2 ^ 53) : ∃ n j, Fin_ .f64 (FloatKind.f64.format.nearest neg N 0) neg n j ∧ n * 2 ^ j = N * 2 ^ T := by
  by_cases h0 : N = 0
  · subst h0
    have hw := Fin_.of_word .f64 neg 0 0 (by decide +kernel) (Or.inl rfl) (by decide +kernel)
    have e : FloatKind.f64.format.nearest neg 0 0 = FloatKind.f64.format.word neg (0 * FloatKind.f64.format.binade + 0) := by simp [Format.nearest]
    rw [e]
    exact ⟨0, 0, hw, by rw [Nat.zero_mul, Nat.zero_mul]⟩
  · have hL0 := (Nat.le_log2 h0 (k := N.log2)).1 (Nat.le_refl _)
    have hL1 : N < 2 ^ (N.log2 + 1) := Nat.lt_log2_self
    have hL : N.log2 ≤ 52 := by
      have : N.log2 < 53 := (Nat.log2_lt h0).2 hN
      omega
    generalize hl : N.log2 = L at *
    have hp : 2 ^ L * 2 ^ (52 - L) = 4503599627370496 := by rw [← Nat.pow_add, show L + (52 - L) = 52 by omega]
    have hq : 2 ^ (L + 1) * 2 ^ (52 - L) = 9007199254740992 := by rw [← Nat.pow_add, show L + 1 + (52 - L) = 53 by omega]
    have hlo : 4503599627370496 ≤ N * 2 ^ (52 - L) := by rw [← hp]; exact Nat.mul_le_mul_right _ hL0
    have hhi : N * 2 ^ (52 - L) < 9007199254740992 := by rw [← hq]; exact Nat.mul_lt_mul_of_pos_right hL1 (Nat.two_pow_pos _)
    have hne : FloatKind.f64.format.nearest neg N 0 = FloatKind.f64.format.word neg ((1022 + L) * FloatKind.f64.format.binade + N * 2 ^ (52 - L)) := by
      refine nearest_exact double neg N 0 (1022 + L) (N * 2 ^ (52 - L)) h0 ?_ ?_ (by rw [double_binade, double_inf]; omega)
      · rw [hl, double_least]; show max ((0 : Int) + (L : Int) - ((52 : Nat) : Int)) (-1074) = _; omega
      · rw [double_least, show ((0 : Int) - (-1074 + ((1022 + L : Nat) : Int))).toNat = 52 - L by omega, show (-1074 + ((1022 + L : Nat) : Int) - 0).toNat = 0 by omega]; simp
    rw [hne]
    refine ⟨N * 2 ^ (52 - L), 1022 + L, Fin_.of_word .f64 neg _ _ (by rw [bin64]; omega) (Or.inr (by rw [bin64]; omega)) (by rw [bin64, inf64]; omega), ?_⟩
    rw [Nat.mul_assoc, ← Nat.pow_add, show 52 - L + (1022 + L) = T by omega]

theorem near_i64 {T : Nat} (hT : T = 1074) {x : Nat} {s : Bool} {m e : Nat} (h : Fin_ .f64 x s m e) (hn : Near T m e) :
    ∃ N : Nat, floatToIntVal .f64 x .i64 = some (signed s N 0) ∧ N < 2 ^ 52 ∧ N * 2 ^ T ≤ m * 2 ^ e ∧ m * 2 ^ e < N * 2 ^ T + 2 ^ T := by
  obtain ⟨N, h1, h2, h3, h4⟩ := toInt_near hT (s := s) hn
  refine ⟨N, ?_, h2, h3, h4⟩
  have hr : FloatKind.f64.decode x = .number s m (-1074 + (e : Int)) := by
    unfold FloatKind.decode; rw [h.read, least64]
  unfold floatToIntVal
  rw [hr, h1]
  have hs : -4503599627370496 ≤ signed s N 0 ∧ signed s N 0 ≤ 4503599627370496 := by
    unfold signed; rw [Nat.shiftLeft_zero]; split <;> omega
  have hmin : IntKind.i64.min = -9223372036854775808 := by decide
  have hmax : IntKind.i64.max = 9223372036854775807 := by decide
  simp only [hmin, hmax]
  rw [if_pos (by omega)]

theorem signed_neg (N : Nat) : (signed true N 0) = -(N : Int) := by unfold signed; simp
theorem signed_pos (N : Nat) : (signed false N 0) = (N : Int) := by unfold signed; simp

/-- What is left of turns that are near is bound by 1. -/
theorem bd_left {T : Nat} (hT : T = 1074) {x : Nat} {s : Bool} {m e N : Nat} (h : Fin_ .f64 x s m e) (h2 : N < 2 ^ 52) (h3 : N * 2 ^ T ≤ m * 2 ^ e) (h4 : m * 2 ^ e < N * 2 ^ T + 2 ^ T) :
    Bd (fop .sub .f64 (some x) (fl .f64 (floatOfInt .f64 (signed s N 0)))) T := by
  have hfl : ∃ t n j, Fin_ .f64 (floatOfInt .f64 (signed s N 0)) t n j ∧ n * 2 ^ j = N * 2 ^ T ∧ (t = s ∨ n = 0) := by
    by_cases h0 : N = 0
    · subst h0
      obtain ⟨n, j, hw, hv⟩ := int_fin hT 0 false (by omega)
      refine ⟨false, n, j, ?_, hv, Or.inr ?_⟩
      · have : signed s 0 0 = 0 := by cases s <;> rfl
        rw [this]; exact hw
      · rw [Nat.zero_mul] at hv
        rcases Nat.mul_eq_zero.1 hv with hv | hv
        · exact hv
        · have := Nat.two_pow_pos j; omega
    · obtain ⟨n, j, hw, hv⟩ := int_fin hT N s (by omega)
      refine ⟨s, n, j, ?_, hv, Or.inl rfl⟩
      have : floatOfInt .f64 (signed s N 0) = FloatKind.f64.format.nearest s N 0 := by
        unfold floatOfInt FloatKind.nearest FloatKind.encode
        show FloatKind.f64.format.nearest (decide (signed s N 0 < 0)) (signed s N 0).natAbs 0 = _
        cases s
        · have e0 : decide (signed false N 0 < 0) = false := by rw [signed_pos]; simp
          rw [e0, signed_pos]; rfl
        · have e0 : decide (signed true N 0 < 0) = true := by rw [signed_neg]; simp; omega
          rw [e0, signed_neg, Int.natAbs_neg]; rfl
      rw [this]; exact hw
  obtain ⟨t, n, j, hw, hv, ht⟩ := hfl
  rw [hw.fl]
  have e1 : fop .sub .f64 (some x) (some (floatOfInt .f64 (signed s N 0))) = ((Datum.number s m (-1074 + (e : Int))).sum (.number (!t) n (-1074 + (j : Int)))).map FloatKind.f64.format.write := by
    show floatBits .sub .f64 x _ = _
    unfold floatBits Format.sub
    rw [h.read, hw.read, least64]; rfl
  rw [e1]
  simp only [Datum.sum, Option.map_some]
  refine bd_near _ _ _ T (by omega) (by omega) ?_
  obtain ⟨b, hb, hbe, hbj⟩ : ∃ b : Nat, min (-1074 + (e : Int)) (-1074 + (j : Int)) = -1074 + (b : Int) ∧ b ≤ e ∧ b ≤ j := ⟨min e j, by omega, by omega, by omega⟩
  rw [hb, show (-1074 + (b : Int) + 1074).toNat = b by omega, show (-1074 - (-1074 + (b : Int))).toNat = 0 by omega, show (-1074 + (e : Int) - (-1074 + (b : Int))).toNat = e - b by omega, show (-1074 + (j : Int) - (-1074 + (b : Int))).toNat = j - b by omega, Nat.pow_zero, Nat.mul_one]
  -- the difference, in units of the lower place
  have k1 : m * 2 ^ (e - b) * 2 ^ b = m * 2 ^ e := by rw [Nat.mul_assoc, ← Nat.pow_add, Nat.sub_add_cancel hbe]
  have k2 : n * 2 ^ (j - b) * 2 ^ b = N * 2 ^ T := by rw [Nat.mul_assoc, ← Nat.pow_add, Nat.sub_add_cancel hbj, hv]
  have hpb := Nat.two_pow_pos b
  have hle : n * 2 ^ (j - b) ≤ m * 2 ^ (e - b) := by
    have : n * 2 ^ (j - b) * 2 ^ b ≤ m * 2 ^ (e - b) * 2 ^ b := by rw [k1, k2]; exact h3
    exact Nat.le_of_mul_le_mul_right this hpb
  have htot : (signed s m (e - b) + signed (!t) n (j - b)).natAbs = m * 2 ^ (e - b) - n * 2 ^ (j - b) := by
    rcases ht with rfl | rfl
    · unfold signed
      rw [Nat.shiftLeft_eq, Nat.shiftLeft_eq]
      generalize m * 2 ^ (e - b) = A at *
      generalize n * 2 ^ (j - b) = C at *
      cases t <;> simp <;> omega
    · have : signed (!t) 0 (j - b) = 0 := by unfold signed; rw [Nat.shiftLeft_eq, Nat.zero_mul]; cases t <;> rfl
      rw [this, Int.add_zero, signed_abs, Nat.zero_mul, Nat.sub_zero]
  rw [htot, Nat.sub_mul, k1, k2]
  omega

theorem bd_const {c : Nat} {t : Bool} {n j E : Nat} (h : Fin_ .f64 c t n j) (hle : n * 2 ^ j ≤ 2 ^ E) : Bd (fl .f64 c) E := by
  intro b hb
  rw [h.fl] at hb
  rw [← Option.some.inj hb]
  exact ⟨t, n, j, h, hle⟩

/-- A float constant m * 2^(e - 1074), bound. -/
theorem bd_word (c m e E q : Nat) (t : Bool) (hm : m < 2 * 4503599627370496) (hl : e = 0 ∨ 4503599627370496 ≤ m) (ht : e * 4503599627370496 + m < 2047 * 4503599627370496)
    (hc : FloatKind.f64.format.word t (e * FloatKind.f64.format.binade + m) = c) (hq : m ≤ 2 ^ q) (hE : q + e ≤ E) : Bd (fl .f64 c) E := by
  have h := Fin_.of_word .f64 t m e (by rw [bin64]; exact hm) (by rw [bin64]; exact hl) (by rw [bin64, inf64]; exact ht)
  rw [hc] at h
  refine bd_const h ?_
  refine Nat.le_trans (Nat.mul_le_mul_right _ hq) ?_
  rw [← Nat.pow_add]
  exact Nat.pow_le_pow_right (by omega) hE

theorem bd_k1 : Bd k1 1075 := bd_word _ 4503599627370496 1022 1075 53 false (by omega) (by omega) (by omega) (by decide +kernel) (by decide) (by omega)
theorem bd_half : Bd kHalf 1075 := bd_word _ 4503599627370496 1021 1075 53 false (by omega) (by omega) (by omega) (by decide +kernel) (by decide) (by omega)
theorem bd_turn : Bd kTurn 1077 := bd_word _ (4618760256179416344 - 1024 * 4503599627370496) 1024 1077 53 false (by omega) (by omega) (by omega) (by decide +kernel) (by decide) (by omega)

theorem bd_step {U P : Option Nat} {E C : Nat} {t : Bool} {n j c : Nat} (hU : Bd U 1088) (hP : Bd P E) (hE : E ≤ 1500) (hE2 : 1074 ≤ E) (hc : Fin_ .f64 c t n j) (hC : 2 ^ C ≤ n * 2 ^ j) (hC2 : C = 1076) :
    Bd (fop .sub .f64 k1 (fop .quo .f64 (fop .mul .f64 U P) (some c))) (E + 14) := by
  have h1 := bd_mul (E + 14) hU hP (by omega) (by omega) (by omega)
  have h2 := bd_quo (E + 13) h1 hc hC (by omega) (by omega) (by omega)
  exact bd_sub (E + 14) bd_k1 h2 (by omega) (by omega) (by omega) (by omega)

theorem fden_fin {C : Nat} (hC : C = 1076) (k : Nat) (hk : 1 ≤ k) (hk8 : k ≤ 8) : ∃ c t n j, fden k = some c ∧ Fin_ .f64 c t n j ∧ 2 ^ C ≤ n * 2 ^ j := by
  have hsmall : 4 ≤ 2 * k * (2 * k + 1) ∧ 2 * k * (2 * k + 1) < 2 ^ 53 := by
    have hk' : k = 1 ∨ k = 2 ∨ k = 3 ∨ k = 4 ∨ k = 5 ∨ k = 6 ∨ k = 7 ∨ k = 8 := by omega
    rcases hk' with rfl | rfl | rfl | rfl | rfl | rfl | rfl | rfl <;> decide
  unfold fden
  generalize 2 * k * (2 * k + 1) = N at *
  obtain ⟨n, j, hw, hv⟩ := int_fin (T := C - 2) (by omega) N false hsmall.2
  have e1 : floatOfInt .f64 ((N : Nat) : Int) = FloatKind.f64.format.nearest false N 0 := by
    unfold floatOfInt FloatKind.nearest FloatKind.encode
    show FloatKind.f64.format.nearest (decide ((N : Int) < 0)) (N : Int).natAbs 0 = _
    have : decide ((N : Int) < 0) = false := by simp
    rw [this]; rfl
  rw [e1, hw.fl]
  refine ⟨_, false, n, j, rfl, hw, ?_⟩
  rw [hv]
  have h4 : 2 ^ C = 4 * 2 ^ (C - 2) := by rw [show (4 : Nat) = 2 ^ 2 from rfl, ← Nat.pow_add]; congr 1; omega
  rw [h4]
  exact Nat.mul_le_mul_right _ hsmall.1

theorem bd_poly {U : Option Nat} (hU : Bd U 1088) : ∀ j, j ≤ 8 → Bd (fpoly U j) (1075 + 14 * j)
  | 0, _ => bd_k1
  | j + 1, hj => by
    have ih := bd_poly hU j (by omega)
    obtain ⟨c, t, n, i, h1, h2, h3⟩ := fden_fin rfl (8 - j) (by omega) (by omega)
    show Bd (fop .sub .f64 k1 (fop .quo .f64 (fop .mul .f64 U (fpoly U j)) (fden (8 - j)))) _
    rw [h1]
    exact (bd_step hU ih (by omega) (by omega) h2 h3 rfl).mono (by omega)

theorem bd_fneg {X : Option Nat} {E : Nat} (h : Bd X E) : Bd (fneg X) E := by
  cases X with
  | none => exact bd_none _
  | some a =>
    intro b hb
    have hb' : a ^^^ 2 ^ 63 = b := Option.some.inj hb
    obtain ⟨s, m, e, hf, hle⟩ := h a rfl
    have hm : b % 9223372036854775808 = a % 9223372036854775808 := by
      rw [← hb', show (9223372036854775808 : Nat) = 2 ^ 63 from rfl, Nat.xor_mod_two_pow]; simp
    have hr := hf.rung
    rw [sw64, bin64] at hr
    have k1 := hf.lt
    have k2 := hf.low
    have k3 := hf.top
    rw [bin64] at k1 k2 k3
    rw [inf64] at k3
    rcases shape .f64 b with ⟨t, n, j, h'⟩ | ⟨t, hi, hg, _⟩ | h'
    · have r' := h'.rung
      rw [sw64, bin64, hm] at r'
      have q1 := h'.lt
      have q2 := h'.low
      rw [bin64] at q1 q2
      have hej : j = e := by omega
      have hmn : n = m := by omega
      exact ⟨t, n, j, h', by rw [hej, hmn]; exact hle⟩
    · rw [sw64, inf64, hm] at hg
      omega
    · rw [nan_rung, sw64, inf64, hm] at h'
      omega

/-- THE SINE OF TURNS THAT ARE NEAR IS BOUND. -/
theorem bd_fsin {X : Option Nat} {n : Int} (h : Bd (fop .sub .f64 X (fl .f64 (floatOfInt .f64 n))) 1074) : Bd (fsin (fpart X n)) 1200 := by
  have hp : Bd (fpart X n) 1076 := by
    unfold fpart
    simp only
    split
    · exact bd_add 1076 h bd_k1 (by omega) (by omega) (by omega) (by omega)
    · exact h.mono (by omega)
  generalize fpart X n = F at *
  have hl : Bd (fless F) 1077 := by
    unfold fless
    split
    · exact bd_sub 1077 hp bd_half (by omega) (by omega) (by omega) (by omega)
    · exact hp.mono (by omega)
  have hd : Bd (ffoldt (fless F)) 1078 := by
    unfold ffoldt
    split
    · exact bd_sub 1078 bd_half hl (by omega) (by omega) (by omega) (by omega)
    · exact hl.mono (by omega)
  have hz : Bd (fop .mul .f64 (ffoldt (fless F)) kTurn) 1081 := bd_mul 1081 hd bd_turn (by omega) (by omega) (by omega)
  have hr : Bd (fop .mul .f64 (fop .mul .f64 (ffoldt (fless F)) kTurn) (fpoly (fop .mul .f64 (fop .mul .f64 (ffoldt (fless F)) kTurn) (fop .mul .f64 (ffoldt (fless F)) kTurn)) 8)) 1200 :=
    bd_mul 1200 hz (bd_poly (bd_mul 1088 hz hz (by omega) (by omega) (by omega)) 8 (by omega)) (by omega) (by omega) (by omega)
  unfold fsin
  simp only
  split
  · exact bd_fneg hr
  · exact hr

/-- A finite number of turns: far, and then so by both tests, or near, and then all that is asked. -/
theorem turn_cases {x : Nat} {X : Option Nat} (h : Fl .f64 x X) (hf : ffin .f64 X = true) :
    ((FloatKind.f64.format.order (x % 9223372036854775808) 4841369599423283200 == some .gt || FloatKind.f64.format.order (x % 9223372036854775808) 4841369599423283200 == some .eq) = true ∧
      ((FloatKind.f64.format.order x 4841369599423283200 == some .gt || FloatKind.f64.format.order x 4841369599423283200 == some .eq) = true ∨
        ((FloatKind.f64.format.order x 4841369599423283200 == some .gt || FloatKind.f64.format.order x 4841369599423283200 == some .eq) = false ∧ (FloatKind.f64.format.order x 14064741636278059008 == some .lt || FloatKind.f64.format.order x 14064741636278059008 == some .eq) = true))) ∨
    ((FloatKind.f64.format.order (x % 9223372036854775808) 4841369599423283200 == some .gt || FloatKind.f64.format.order (x % 9223372036854775808) 4841369599423283200 == some .eq) = false ∧
      (FloatKind.f64.format.order x 4841369599423283200 == some .gt || FloatKind.f64.format.order x 4841369599423283200 == some .eq) = false ∧ (FloatKind.f64.format.order x 14064741636278059008 == some .lt || FloatKind.f64.format.order x 14064741636278059008 == some .eq) = false ∧
      ∃ n, floatToIntVal .f64 x .i64 = some n ∧ Bd (fsin (fpart X n)) 1200) := by
  rcases shape .f64 x with ⟨s, m, e, k⟩ | ⟨s, hr, hg, _⟩ | k
  · have hX : X = some x := by rw [← h.eq, k.fl]
    rw [k.abs.order fin_far, k.order fin_far, k.order fin_farneg, cmp_far_abs, cmp_far_pos s m e _ _ (far_pos 1074), cmp_far_neg s m e _ _ (far_pos 1074)]
    by_cases hn : Near 1074 m e
    · right
      have hd : decide (m * 2 ^ e < 2 ^ 52 * 2 ^ 1074) = true := decide_eq_true hn
      rw [hd]
      refine ⟨rfl, by simp, by simp, ?_⟩
      obtain ⟨N, h1, h2, h3, h4⟩ := near_i64 rfl k hn
      refine ⟨_, h1, bd_fsin ?_⟩
      rw [hX]
      exact bd_left rfl k h2 h3 h4
    · left
      have hd : decide (m * 2 ^ e < 2 ^ 52 * 2 ^ 1074) = false := decide_eq_false hn
      rw [hd]
      refine ⟨rfl, ?_⟩
      cases s
      · left; rfl
      · right; exact ⟨rfl, rfl⟩
  · rw [← h.eq, fl_inf hr] at hf
    unfold ffin FloatKind.decode at hf
    simp only at hf
    rw [hr] at hf
    cases hf
  · rw [← h.eq, k] at hf
    cases hf
end Go.Proofs.Ytcjddnkebdjhoaa
