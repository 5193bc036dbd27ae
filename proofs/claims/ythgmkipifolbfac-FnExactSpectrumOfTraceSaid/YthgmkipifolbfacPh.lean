/- What is left of turns, by quarters: each quarter is taken away exactly, four times at most. Condition: what is left is not below zero and at most 1. -/
import Derived.Test.YthgmkipifolbfacRd2
import Derived.Test.YthgmkipifolbfacTurn
namespace Go.Proofs.Ythgmkipifolbfac
open Go.RowKit Ieee

theorem fin_quarter : Fin_ .f64 4598175219545276416 false (2 ^ 52) 1020 := by
  have h := Fin_.of_word .f64 false (2 ^ 52) 1020 (by decide +kernel) (Or.inr (by decide +kernel)) (by decide +kernel)
  have e : FloatKind.f64.format.word false (1020 * FloatKind.f64.format.binade + 2 ^ 52) = 4598175219545276416 := by decide +kernel
  rwa [e] at h
theorem kQ_some : kQuarter = some 4598175219545276416 := fin_quarter.fl
theorem two52 : (2 : Nat) ^ 52 = 4503599627370496 := by decide
theorem fin_quarter' {U : Nat} (hU : U = 1020) : Fin_ .f64 4598175219545276416 false (2 ^ 52) U := by rw [hU]; exact fin_quarter
theorem quarter_val {T U : Nat} (hT : T = 1072) (hU : U = 1020) : 2 ^ 52 * 2 ^ U = 2 ^ T := by rw [← Nat.pow_add]; congr 1; omega
theorem lt53 {m : Nat} (h : m < 2 * 4503599627370496) : m < 2 ^ 53 := by have : (2 : Nat) ^ 53 = 9007199254740992 := by decide
                                                                         omega

/-- A float that is finite, not below zero, and of the value v, in units of the least place. -/
def Vl (X : Option Nat) (v : Nat) : Prop := ∃ b m e, X = some b ∧ Fin_ .f64 b false m e ∧ m * 2 ^ e = v

theorem fge_quarter {T : Nat} (hT : T = 1072) {X : Option Nat} {v : Nat} (h : Vl X v) : fge X kQuarter = decide (2 ^ T ≤ v) := by
  obtain ⟨b, m, e, rfl, hb, rfl⟩ := h
  obtain ⟨U, hU⟩ : ∃ U, U = 1020 := ⟨_, rfl⟩
  have h1 : ford .f64 (some b) kQuarter = some (compare (sv false m e) (sv false (2 ^ 52) U)) := by
    rw [← hb.order (fin_quarter' hU), order_fl, hb.fl]; rfl
  unfold fge
  rw [h1, cmp_far_abs, quarter_val hT hU]
  by_cases h2 : m * 2 ^ e < 2 ^ T
  · rw [decide_eq_true h2, decide_eq_false (by omega)]; rfl
  · rw [decide_eq_false h2, decide_eq_true (by omega)]; rfl

theorem sub_bits (s t : Bool) (m e n j x c : Nat) (h : Fin_ .f64 x s m e) (h' : Fin_ .f64 c t n j) : fop .sub .f64 (some x) (some c) = ((Datum.number s m (-1074 + (e : Int))).sum (.number (!t) n (-1074 + (j : Int)))).map FloatKind.f64.format.write := by
  show floatBits .sub .f64 x _ = _
  unfold floatBits Format.sub
  rw [h.read, h'.read, least64]; rfl

/-- A QUARTER IS TAKEN AWAY EXACTLY. -/
theorem sub_quarter {T : Nat} (hT : T = 1072) {X : Option Nat} {v : Nat} (h : Vl X v) (h1 : 2 ^ T ≤ v) (h2 : v ≤ 4 * 2 ^ T) : Vl (fop .sub .f64 X kQuarter) (v - 2 ^ T) := by
  obtain ⟨b, m, e, rfl, hb, rfl⟩ := h
  have k1 := hb.lt
  have k2 := hb.low
  rw [bin64] at k1 k2
  obtain ⟨U, hU⟩ : ∃ U, U = 1020 := ⟨_, rfl⟩
  have he0 : U ≤ e := by
    rcases Nat.lt_or_ge e U with hl | hg
    · exfalso
      have h3 : m * 2 ^ e < 2 ^ 53 * 2 ^ e := Nat.mul_lt_mul_of_pos_right (lt53 k1) (Nat.two_pow_pos _)
      rw [← Nat.pow_add] at h3
      have h4 : 2 ^ (53 + e) ≤ 2 ^ T := Nat.pow_le_pow_right (by omega) (by omega)
      omega
    · exact hg
  have hm0 : 4503599627370496 ≤ m := by omega
  have he1 : e ≤ U + 2 := by
    rcases Nat.lt_or_ge (U + 2) e with hl | hg
    · exfalso
      have h3 : 2 ^ 52 * 2 ^ e ≤ m * 2 ^ e := Nat.mul_le_mul_right _ (by rw [two52]; exact hm0)
      rw [← Nat.pow_add] at h3
      have h4 : 2 ^ (T + 3) ≤ 2 ^ (52 + e) := Nat.pow_le_pow_right (by omega) (by omega)
      rw [Nat.pow_add] at h4
      have h5 := Nat.two_pow_pos T
      omega
    · exact hg
  obtain ⟨d, hd, hd2⟩ : ∃ d, e = U + d ∧ d ≤ 2 := ⟨e - U, by omega, by omega⟩
  subst hd
  have hval : m * 2 ^ (U + d) = (m * 2 ^ d) * 2 ^ U := by rw [Nat.pow_add, Nat.mul_comm (2 ^ U), Nat.mul_assoc]
  have hT2 : 2 ^ T = 2 ^ 52 * 2 ^ U := (quarter_val hT hU).symm
  rw [hT2] at h1 h2 ⊢
  rw [hval] at h1 h2 ⊢
  have h1' : 2 ^ 52 ≤ m * 2 ^ d := Nat.le_of_mul_le_mul_right h1 (Nat.two_pow_pos U)
  have h2' : m * 2 ^ d ≤ 4 * 2 ^ 52 := by
    rw [← Nat.mul_assoc] at h2
    exact Nat.le_of_mul_le_mul_right h2 (Nat.two_pow_pos U)
  rw [two52] at h1' h2'
  rw [kQ_some, sub_bits false false m (U + d) (2 ^ 52) U b _ hb (fin_quarter' hU)]
  obtain ⟨A, hA⟩ : ∃ A, A + 2 ^ 52 = m * 2 ^ d := ⟨m * 2 ^ d - 2 ^ 52, by omega⟩
  rw [← hA] at h1' h2' ⊢
  have htot : signed false m d + signed true (2 ^ 52) 0 = (A : Int) := by
    rw [signed_sv, signed_sv]; unfold sv
    simp only [Bool.false_eq_true, if_false, if_true, Nat.pow_zero, Nat.mul_one]
    rw [← hA]
    omega
  have hsum : (Datum.number false m (-1074 + ((U + d : Nat) : Int))).sum (.number (!false) (2 ^ 52) (-1074 + ((U : Nat) : Int))) = some (.number false A (-1074 + (U : Int))) := by
    have hmin : min (-1074 + ((U + d : Nat) : Int)) (-1074 + ((U : Nat) : Int)) = -1074 + (U : Int) := by omega
    simp only [Datum.sum, hmin, Bool.not_false]
    rw [show (-1074 + ((U + d : Nat) : Int) - (-1074 + (U : Int))).toNat = d by omega, show (-1074 + ((U : Nat) : Int) - (-1074 + (U : Int))).toNat = 0 by omega, htot]
    have e1 : (if (A : Int) = 0 then false && true else decide ((A : Int) < 0)) = false := by
      split
      · rfl
      · exact decide_eq_false (by omega)
    rw [e1, Int.natAbs_natCast]
  rw [hsum]
  have hfew : A * 2 ^ U = (m - 2 ^ (52 - d)) * 2 ^ (U + d) := by
    rw [show A = m * 2 ^ d - 2 ^ 52 by omega, Nat.pow_add, Nat.mul_comm (2 ^ U), ← Nat.mul_assoc, Nat.sub_mul m, ← Nat.pow_add 2 (52 - d), Nat.sub_add_cancel (by omega)]
  have hlow : m - 2 ^ (52 - d) < 2 * 4503599627370496 := Nat.lt_of_le_of_lt (Nat.sub_le _ _) k1
  obtain ⟨n, j, hn, hv⟩ := near_few .f64 false (mag := A) (place := -1074 + (U : Int)) (N := m - 2 ^ (52 - d)) (b := U + d)
    (by rw [bin64]; exact hlow) (by rw [bin64, inf64]; omega) (by
      rw [least64, show (-1074 + (U : Int) - (-1074)).toNat = U by omega, show ((-1074 : Int) - (-1074 + (U : Int))).toNat = 0 by omega, Nat.pow_zero, Nat.mul_one]
      exact hfew)
  refine ⟨_, n, j, rfl, hn, ?_⟩
  rw [hv, ← hfew, ← Nat.sub_mul, Nat.add_sub_cancel]

/-- What is left behind j quarters. -/
def fq (F : Option Nat) : Nat → Option Nat
  | 0 => F
  | j + 1 => fop .sub .f64 (fq F j) kQuarter
theorem fq_shift (F : Option Nat) : ∀ j, fq F (j + 1) = fq (fop .sub .f64 F kQuarter) j
  | 0 => rfl
  | j + 1 => by
    show fop .sub .f64 (fq F (j + 1)) kQuarter = _
    rw [fq_shift F j]; rfl

/-- HOW OFTEN A QUARTER IS TAKEN AWAY. -/
theorem quarters {T : Nat} (hT : T = 1072) : ∀ (n : Nat) {F : Option Nat} {v : Nat}, Vl F v → v ≤ n * 2 ^ T → n ≤ 4 →
    ∃ q, q ≤ n ∧ (∀ j, j < q → fge (fq F j) kQuarter = true) ∧ fge (fq F q) kQuarter = false ∧ ∃ v', Vl (fq F q) v' ∧ v' < 2 ^ T
  | 0, F, v, h, hv, _ => by
    have h0 := Nat.two_pow_pos T
    have hlt : v < 2 ^ T := by omega
    exact ⟨0, Nat.le_refl _, fun j hj => absurd hj (Nat.not_lt_zero _), by rw [show fq F 0 = F from rfl, fge_quarter hT h]; exact decide_eq_false (by omega), v, h, hlt⟩
  | n + 1, F, v, h, hv, hn => by
    by_cases hlt : v < 2 ^ T
    · exact ⟨0, Nat.zero_le _, fun j hj => absurd hj (Nat.not_lt_zero _), by rw [show fq F 0 = F from rfl, fge_quarter hT h]; exact decide_eq_false (by omega), v, h, hlt⟩
    · have h4 : (n + 1) * 2 ^ T ≤ 4 * 2 ^ T := Nat.mul_le_mul_right _ hn
      have hs := sub_quarter hT h (by omega) (by omega)
      have hv' : v - 2 ^ T ≤ n * 2 ^ T := by rw [Nat.add_mul, Nat.one_mul] at hv; omega
      obtain ⟨q, h1, h2, h3, h5⟩ := quarters hT n hs hv' (by omega)
      refine ⟨q + 1, by omega, ?_, by rw [fq_shift]; exact h3, by rw [fq_shift]; exact h5⟩
      intro j hj
      cases j with
      | zero => rw [show fq F 0 = F from rfl, fge_quarter hT h]; exact decide_eq_true (by omega)
      | succ j => rw [fq_shift]; exact h2 j (by omega)

/-- A float that is nearer to 0 than 1: its whole part is 0, and its sine is bound. -/
theorem near_sine {x : Nat} {s : Bool} {m e : Nat} {T : Nat} (hT : T = 1074) (k : Fin_ .f64 x s m e) (h : m * 2 ^ e < 2 ^ T) :
    floatToIntVal .f64 x .i64 = some 0 ∧ ffin .f64 (some x) = true ∧
      (FloatKind.f64.format.order x 4841369599423283200 == some .gt || FloatKind.f64.format.order x 4841369599423283200 == some .eq) = false ∧ (FloatKind.f64.format.order x 14064741636278059008 == some .lt || FloatKind.f64.format.order x 14064741636278059008 == some .eq) = false ∧
      Bd (fsin (fpart (some x) 0)) 1200 := by
  have hp := Nat.two_pow_pos T
  have hn : Near T m e := by
    unfold Near
    have : 2 ^ T ≤ 2 ^ 52 * 2 ^ T := Nat.le_mul_of_pos_left _ (by decide)
    omega
  obtain ⟨N, h1, h2, h3, h4⟩ := near_i64 hT k hn
  have hN : N = 0 := by
    rcases Nat.eq_zero_or_pos N with h0 | h0
    · exact h0
    · have : 1 * 2 ^ T ≤ N * 2 ^ T := Nat.mul_le_mul_right _ h0
      omega
  subst hN
  have hs0 : signed s 0 0 = 0 := by cases s <;> rfl
  have hb := bd_left hT k h2 h3 h4
  rw [hs0] at h1 hb
  have hn' : decide (m * 2 ^ e < 2 ^ 52 * 2 ^ 1074) = true := by rw [← hT]; exact decide_eq_true hn
  refine ⟨h1, by have := k.ffin; rw [k.fl] at this; exact this, ?_, ?_, bd_fsin (by rw [← hT]; exact hb)⟩
  · rw [k.order fin_far, cmp_far_pos s m e _ _ (far_pos 1074), hn']; simp
  · rw [k.order fin_farneg, cmp_far_neg s m e _ _ (far_pos 1074), hn']; simp
end Go.Proofs.Ythgmkipifolbfac
