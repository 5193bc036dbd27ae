/- The cases of a phasor: turns that are not finite, far or near, and what it is in each. No condition. -/
import Derived.Test.YthgmkipifolbfacPh
namespace Go.Proofs.Ythgmkipifolbfac
open Go.RowKit Ieee

/-- What is left of turns: not below zero and at most 1, or -0. -/
def PF (T : Nat) (F : Option Nat) : Prop := (∃ v, Vl F v ∧ v ≤ 4 * 2 ^ T) ∨ ∃ b e, F = some b ∧ Fin_ .f64 b true 0 e

theorem fin_one {V : Nat} (hV : V = 1022) : Fin_ .f64 4607182418800017408 false (2 ^ 52) V := by
  have h := Fin_.of_word .f64 false (2 ^ 52) 1022 (by decide +kernel) (Or.inr (by decide +kernel)) (by decide +kernel)
  have e : FloatKind.f64.format.word false (1022 * FloatKind.f64.format.binade + 2 ^ 52) = 4607182418800017408 := by decide +kernel
  rw [e] at h
  rw [hV]; exact h
theorem fin_nil : Fin_ .f64 0 false 0 0 := by
  have h := Fin_.of_word .f64 false 0 0 (by decide +kernel) (Or.inl rfl) (by decide +kernel)
  have e : FloatKind.f64.format.word false (0 * FloatKind.f64.format.binade + 0) = 0 := by decide +kernel
  rwa [e] at h
theorem k1_some : k1 = some 4607182418800017408 := (fin_one rfl).fl

theorem flt_nil {b m e : Nat} {s : Bool} (h : Fin_ .f64 b s m e) : flt (some b) (fl .f64 0) = (s && decide (0 < m)) := by
  have h1 : ford .f64 (some b) (fl .f64 0) = some (compare (sv s m e) (sv false 0 0)) := by
    rw [← h.order fin_nil, order_fl, h.fl]
  unfold flt
  rw [h1, cmp_eq]
  have hp := Nat.two_pow_pos e
  have h0 : sv false 0 0 = 0 := rfl
  rw [h0]
  cases s
  · have : ¬ sv false m e < 0 := by unfold sv; simp only [Bool.false_eq_true, if_false]; omega
    rw [if_neg this]
    split <;> rfl
  · rcases Nat.eq_zero_or_pos m with rfl | hm
    · have : sv true 0 e = 0 := by unfold sv; simp
      rw [this, if_neg (by omega), if_pos rfl]; rfl
    · have hme : 0 < m * 2 ^ e := Nat.mul_pos hm hp
      have : sv true m e < 0 := by unfold sv; simp only [if_true]; omega
      rw [if_pos this, decide_eq_true hm]; rfl

/-- One is added to what is below zero: what comes is not below zero, and at most 1. -/
theorem add_one {T : Nat} (hT : T = 1072) {b m e : Nat} (h : Fin_ .f64 b true m e) (hm : m * 2 ^ e ≤ 4 * 2 ^ T) : ∃ v, Vl (fop .add .f64 (some b) k1) v ∧ v ≤ 4 * 2 ^ T := by
  obtain ⟨V, hV⟩ : ∃ V, V = 1022 := ⟨_, rfl⟩
  have h4 : 4 * 2 ^ T = 2 ^ 52 * 2 ^ V := by
    rw [← Nat.pow_add, show (4 : Nat) = 2 ^ 2 from rfl, ← Nat.pow_add]; congr 1; omega
  rw [h4] at hm ⊢
  have e0 : fop .add .f64 (some b) k1 = ((Datum.number true m (-1074 + (e : Int))).sum (.number false (2 ^ 52) (-1074 + (V : Int)))).map FloatKind.f64.format.write := by
    rw [k1_some]
    show floatBits .add .f64 b _ = _
    unfold floatBits Format.add
    rw [h.read, (fin_one hV).read, least64]
  obtain ⟨c, hc, hce, hcV⟩ : ∃ c : Nat, min (-1074 + (e : Int)) (-1074 + (V : Int)) = -1074 + (c : Int) ∧ c ≤ e ∧ c ≤ V := ⟨min e V, by omega, by omega, by omega⟩
  have k1' : m * 2 ^ (e - c) * 2 ^ c = m * 2 ^ e := by rw [Nat.mul_assoc, ← Nat.pow_add, Nat.sub_add_cancel hce]
  have k2' : 2 ^ 52 * 2 ^ (V - c) * 2 ^ c = 2 ^ 52 * 2 ^ V := by rw [Nat.mul_assoc, ← Nat.pow_add, Nat.sub_add_cancel hcV]
  have hle : m * 2 ^ (e - c) ≤ 2 ^ 52 * 2 ^ (V - c) := by
    have : m * 2 ^ (e - c) * 2 ^ c ≤ 2 ^ 52 * 2 ^ (V - c) * 2 ^ c := by rw [k1', k2']; exact hm
    exact Nat.le_of_mul_le_mul_right this (Nat.two_pow_pos c)
  obtain ⟨A, hA⟩ : ∃ A, A + m * 2 ^ (e - c) = 2 ^ 52 * 2 ^ (V - c) := ⟨2 ^ 52 * 2 ^ (V - c) - m * 2 ^ (e - c), by omega⟩
  have htot : signed true m (e - c) + signed false (2 ^ 52) (V - c) = (A : Int) := by
    rw [signed_sv, signed_sv]; unfold sv
    simp only [Bool.false_eq_true, if_false, if_true]
    rw [← hA]
    omega
  have hsum : (Datum.number true m (-1074 + (e : Int))).sum (.number false (2 ^ 52) (-1074 + (V : Int))) = some (.number false A (-1074 + (c : Int))) := by
    simp only [Datum.sum, hc]
    rw [show (-1074 + (e : Int) - (-1074 + (c : Int))).toNat = e - c by omega, show (-1074 + (V : Int) - (-1074 + (c : Int))).toNat = V - c by omega, htot]
    have e1 : (if (A : Int) = 0 then true && false else decide ((A : Int) < 0)) = false := by
      split
      · rfl
      · exact decide_eq_false (by omega)
    rw [e1, Int.natAbs_natCast]
  rw [e0, hsum]
  have hval : A * 2 ^ c ≤ 2 ^ 52 * 2 ^ V := by
    rw [← k2']
    exact Nat.mul_le_mul_right _ (by omega)
  have hL1 : (-1074 + (c : Int) - FloatKind.f64.format.leastPlace).toNat = c := by rw [least64]; omega
  have hL2 : (FloatKind.f64.format.leastPlace - (-1074 + (c : Int))).toNat = 0 := by rw [least64]; omega
  obtain ⟨n, j, hn, _, hv⟩ := near_between .f64 false (mag := A) (place := -1074 + (c : Int)) (K := 0) (E := 0) (K' := 2 ^ 52) (E' := V)
    (by rw [bin64]; omega) (Or.inl rfl) (by rw [bin64, two52]; omega) (Or.inr (by rw [bin64, two52]; omega)) (by rw [bin64, inf64, two52]; omega)
    (by simp) (by rw [hL1, hL2, Nat.pow_zero, Nat.mul_one]; exact hval)
  exact ⟨_, ⟨_, n, j, rfl, hn, rfl⟩, hv⟩

/-- WHAT IS LEFT OF TURNS THAT ARE NEAR. -/
theorem part_form {T : Nat} (hT : T = 1072) {x : Nat} {s : Bool} {m e : Nat} (k : Fin_ .f64 x s m e) (hn : Near (T + 2) m e) : ∃ n, floatToIntVal .f64 x .i64 = some n ∧ PF T (fpart (some x) n) := by
  obtain ⟨N, h1, h2, h3, h4⟩ := near_i64 (T := T + 2) (by omega) k hn
  refine ⟨_, h1, ?_⟩
  have hb := bd_left (T := T + 2) (by omega) k h2 h3 h4
  have hp : 4 * 2 ^ T = 2 ^ (T + 2) := by rw [Nat.pow_add]; omega
  unfold fpart
  simp only
  cases hd : fop .sub .f64 (some x) (fl .f64 (floatOfInt .f64 (signed s N 0))) with
  | none =>
    exfalso
    have hI : ∃ t n j, Fin_ .f64 (floatOfInt .f64 (signed s N 0)) t n j := by
      rcases shape .f64 (floatOfInt .f64 (signed s N 0)) with ⟨t, n, j, h⟩ | ⟨t, hr, _, _⟩ | h
      · exact ⟨t, n, j, h⟩
      · exfalso
        have hs : (signed s N 0).natAbs < 2 ^ 53 := by
          rw [signed_abs, Nat.pow_zero, Nat.mul_one]
          have : (2 : Nat) ^ 53 = 2 * 2 ^ 52 := by decide
          omega
        obtain ⟨n, j, hw, _⟩ := int_fin (T := T + 2) (by omega) (signed s N 0).natAbs (decide (signed s N 0 < 0)) hs
        have e1 : floatOfInt .f64 (signed s N 0) = FloatKind.f64.format.nearest (decide (signed s N 0 < 0)) (signed s N 0).natAbs 0 := rfl
        rw [e1, hw.read] at hr
        cases hr
      · exfalso
        have e1 := encode_fl (k := .f64) (d := .number (decide (signed s N 0 < 0)) (signed s N 0).natAbs 0) rfl
        have e2 : FloatKind.f64.encode (.number (decide (signed s N 0 < 0)) (signed s N 0).natAbs 0) = floatOfInt .f64 (signed s N 0) := rfl
        rw [e2, h] at e1
        cases e1
    obtain ⟨t, n, j, hw⟩ := hI
    rw [hw.fl, sub_bits s t m e n j x _ k hw] at hd
    simp [Datum.sum] at hd
  | some db =>
    obtain ⟨t, n, j, hw, hv⟩ := hb db hd
    rw [flt_nil hw]
    cases t
    · rw [Bool.false_and, if_neg (by decide)]
      exact Or.inl ⟨_, ⟨db, n, j, rfl, hw, rfl⟩, by rw [hp]; exact hv⟩
    · rw [Bool.true_and]
      by_cases hn0 : 0 < n
      · rw [if_pos (decide_eq_true hn0)]
        exact Or.inl (add_one hT hw (by rw [hp]; exact hv))
      · rw [if_neg (by rw [decide_eq_false hn0]; decide)]
        obtain rfl : n = 0 := by omega
        exact Or.inr ⟨db, j, rfl, hw⟩

/-- A number of turns of which the sine is told. -/
def SineOk (Y : Option Nat) : Prop := ∃ y, Y = some y ∧ floatToIntVal .f64 y .i64 = some 0 ∧ ffin .f64 (some y) = true ∧
  (FloatKind.f64.format.order y 4841369599423283200 == some .gt || FloatKind.f64.format.order y 4841369599423283200 == some .eq) = false ∧ (FloatKind.f64.format.order y 14064741636278059008 == some .lt || FloatKind.f64.format.order y 14064741636278059008 == some .eq) = false ∧
  Bd (fsin (fpart (some y) 0)) 1200
theorem sine_ok {T : Nat} (hT : T = 1072) {b m e : Nat} {s : Bool} (h : Fin_ .f64 b s m e) (hm : m * 2 ^ e < 2 ^ T) : SineOk (some b) ∧ SineOk (fop .sub .f64 kQuarter (some b)) := by
  obtain ⟨U, hU⟩ : ∃ U, U = 1020 := ⟨_, rfl⟩
  have hp := Nat.two_pow_pos T
  have hq : 2 ^ (T + 2) = 4 * 2 ^ T := by rw [Nat.pow_add]; omega
  refine ⟨⟨b, rfl, near_sine (T := T + 2) (by omega) h (by omega)⟩, ?_⟩
  have hbd : Bd (fop .sub .f64 kQuarter (some b)) (T + 1) := bd_sub (T + 1)
    (E := T) (E' := T) (by
      intro c hc
      rw [kQ_some] at hc
      rw [← Option.some.inj hc]
      exact ⟨false, 2 ^ 52, U, fin_quarter' hU, Nat.le_of_eq (quarter_val hT hU)⟩)
    (by
      intro c hc
      rw [← Option.some.inj hc]
      exact ⟨s, m, e, h, Nat.le_of_lt hm⟩) (by omega) (by omega) (by omega) (by omega)
  cases hd : fop .sub .f64 kQuarter (some b) with
  | none =>
    exfalso
    rw [kQ_some, sub_bits false s (2 ^ 52) U m e _ b (fin_quarter' hU) h] at hd
    simp [Datum.sum] at hd
  | some c =>
    obtain ⟨t, n, j, hw, hv⟩ := hbd c hd
    have h2 : 2 ^ (T + 1) = 2 * 2 ^ T := by rw [Nat.pow_add]; omega
    exact ⟨c, rfl, near_sine (T := T + 2) (by omega) hw (by omega)⟩

/-- QUARTERS OF WHAT IS LEFT: how many, and that both sines are told. -/
theorem turned {T : Nat} (hT : T = 1072) {F : Option Nat} (h : PF T F) : ∃ q, q ≤ 4 ∧ (∀ j, j < q → fge (fq F j) kQuarter = true) ∧ fge (fq F q) kQuarter = false ∧ SineOk (fq F q) ∧ SineOk (fop .sub .f64 kQuarter (fq F q)) := by
  rcases h with ⟨v, hv, h4⟩ | ⟨b, e, rfl, hb⟩
  · obtain ⟨q, h1, h2, h3, v', ⟨g, m, e, hg, hf, rfl⟩, h5⟩ := quarters hT 4 hv h4 (Nat.le_refl _)
    obtain ⟨s1, s2⟩ := sine_ok hT hf h5
    exact ⟨q, h1, h2, h3, by rw [hg]; exact s1, by rw [hg]; exact s2⟩
  · have hp := Nat.two_pow_pos T
    obtain ⟨s1, s2⟩ := sine_ok hT hb (by rw [Nat.zero_mul]; exact hp)
    refine ⟨0, Nat.zero_le _, fun j hj => absurd hj (Nat.not_lt_zero _), ?_, s1, s2⟩
    obtain ⟨U, hU⟩ : ∃ U, U = 1020 := ⟨_, rfl⟩
    have h1 : ford .f64 (some b) kQuarter = some (compare (sv true 0 e) (sv false (2 ^ 52) U)) := by
      rw [← hb.order (fin_quarter' hU), order_fl, hb.fl]; rfl
    show fge (some b) kQuarter = false
    unfold fge
    rw [h1, cmp_far_pos true 0 e _ _ (by rw [quarter_val hT hU]; exact hp)]; rfl

def nrw (X : Option Nat) : Option Nat := fconv .f64 .f32 X
def fop0 (X : Option Nat) : Option Nat := fop .sub .f64 (fl .f64 0) X
/-- The phasor behind q quarters, of its cosine and its sine. -/
def phq (q : Nat) (C S : Option Nat) : Option Nat × Option Nat :=
  if q = 1 then (nrw (fop0 S), nrw C) else if q = 2 then (nrw (fop0 C), nrw (fop0 S)) else if q = 3 then (nrw S, nrw (fop0 C)) else (nrw C, nrw S)
def phC (G : Option Nat) : Option Nat := fsin (fpart (fop .sub .f64 kQuarter G) 0)
def phS (G : Option Nat) : Option Nat := fsin (fpart G 0)

inductive PhCase (X R I : Option Nat) : Prop where
  | nan (hf : ffin .f64 X = false) (hR : R = none) (hI : I = none)
  | far (b : Nat) (hX : X = some b) (hf : ffin .f64 X = true) (habs : (FloatKind.f64.format.order (b % 9223372036854775808) 4841369599423283200 == some .gt || FloatKind.f64.format.order (b % 9223372036854775808) 4841369599423283200 == some .eq) = true)
      (hfar : (FloatKind.f64.format.order b 4841369599423283200 == some .gt || FloatKind.f64.format.order b 4841369599423283200 == some .eq) = true ∨
        ((FloatKind.f64.format.order b 4841369599423283200 == some .gt || FloatKind.f64.format.order b 4841369599423283200 == some .eq) = false ∧ (FloatKind.f64.format.order b 14064741636278059008 == some .lt || FloatKind.f64.format.order b 14064741636278059008 == some .eq) = true)) (hR : R = fl .f32 1065353216) (hI : I = fl .f32 0)
  | near (b : Nat) (n : Int) (q : Nat) (hX : X = some b) (hf : ffin .f64 X = true) (habs : (FloatKind.f64.format.order (b % 9223372036854775808) 4841369599423283200 == some .gt || FloatKind.f64.format.order (b % 9223372036854775808) 4841369599423283200 == some .eq) = false)
      (h1 : (FloatKind.f64.format.order b 4841369599423283200 == some .gt || FloatKind.f64.format.order b 4841369599423283200 == some .eq) = false)
      (h2 : (FloatKind.f64.format.order b 14064741636278059008 == some .lt || FloatKind.f64.format.order b 14064741636278059008 == some .eq) = false)
      (hn : floatToIntVal .f64 b .i64 = some n) (hq : q ≤ 4) (hall : ∀ j, j < q → fge (fq (fpart X n) j) kQuarter = true) (hend : fge (fq (fpart X n) q) kQuarter = false)
      (hS : SineOk (fq (fpart X n) q)) (hC : SineOk (fop .sub .f64 kQuarter (fq (fpart X n) q)))
      (hR : R = (phq q (phC (fq (fpart X n) q)) (phS (fq (fpart X n) q))).1) (hI : I = (phq q (phC (fq (fpart X n) q)) (phS (fq (fpart X n) q))).2)

theorem ph_case {x : Nat} {X : Option Nat} (h : Fl .f64 x X) : ∃ R I, PhCase X R I := by
  obtain ⟨T, hT⟩ : ∃ T, T = 1072 := ⟨_, rfl⟩
  cases hf : ffin .f64 X with
  | false => exact ⟨_, _, .nan hf rfl rfl⟩
  | true =>
    rcases shape .f64 x with ⟨s, m, e, k⟩ | ⟨s, hr, hg, _⟩ | k
    · have hX : X = some x := by rw [← h.eq, k.fl]
      rcases turn_cases h hf with ⟨habs, hfar⟩ | ⟨habs, k1, k2, _, _, _⟩
      · exact ⟨_, _, .far x hX hf habs hfar rfl rfl⟩
      · have hn : Near (T + 2) m e := by
          rw [k.abs.order fin_far, cmp_far_abs, show (1074 : Nat) = T + 2 by omega] at habs
          unfold Near
          cases hd : decide (m * 2 ^ e < 2 ^ 52 * 2 ^ (T + 2)) with
          | true => exact of_decide_eq_true hd
          | false => rw [hd] at habs; cases habs
        obtain ⟨n, hn1, hn2⟩ := part_form hT k hn
        rw [← hX] at hn2
        obtain ⟨q, g1, g2, g3, g4, g5⟩ := turned hT hn2
        exact ⟨_, _, .near x n q hX hf habs k1 k2 hn1 g1 g2 g3 g4 g5 rfl rfl⟩
    · rw [← h.eq, fl_inf hr] at hf
      unfold ffin FloatKind.decode at hf
      simp only at hf
      rw [hr] at hf
      cases hf
    · rw [← h.eq, k] at hf
      cases hf
end Go.Proofs.Ythgmkipifolbfac
