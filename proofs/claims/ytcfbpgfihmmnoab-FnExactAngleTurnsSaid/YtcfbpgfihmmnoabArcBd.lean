/- The arc of a tangent as a function of a float up to which NaN, and that it is bound. No condition but that the tangent is a quotient of a lesser number by a greater. -/
import Derived.Test.YtcfbpgfihmmnoabTurn
import Derived.Test.YtcfbpgfihmmnoabSq
namespace Go.Proofs.Ytcfbpgfihmmnoab
open Go.RowKit Ieee

/-- A finite float that is no less than 0, bound. -/
def Pos (X : Option Nat) (E : Nat) : Prop := ∀ b, X = some b → ∃ m e, Fin_ .f64 b false m e ∧ m * 2 ^ e ≤ 2 ^ E
/-- Moreover at least 2 to the power C - 1074. -/
def Lo (X : Option Nat) (C E : Nat) : Prop := ∀ b, X = some b → ∃ m e, Fin_ .f64 b false m e ∧ 2 ^ C ≤ m * 2 ^ e ∧ m * 2 ^ e ≤ 2 ^ E
theorem Pos.bd {X : Option Nat} {E : Nat} (h : Pos X E) : Bd X E := fun b hb => by
  obtain ⟨m, e, h1, h2⟩ := h b hb; exact ⟨false, m, e, h1, h2⟩
theorem Lo.pos {X : Option Nat} {C E : Nat} (h : Lo X C E) : Pos X E := fun b hb => by
  obtain ⟨m, e, h1, _, h2⟩ := h b hb; exact ⟨m, e, h1, h2⟩

theorem two52 : (4503599627370496 : Nat) = 2 ^ 52 := by decide +kernel
theorem nearest_lt (f : Format) (mag : Nat) (place : Int) : f.nearest false mag place < f.signWeight := by
  have hi := f.infRung_lt
  unfold Format.nearest
  split
  · simp only [Format.word, Bool.false_eq_true, if_false]; omega
  · simp only [Format.word, Bool.false_eq_true, if_false]
    exact Nat.lt_of_le_of_lt (Nat.min_le_right _ _) hi

theorem low_lead (b C mag G : Nat) (hG1 : mag < 2 ^ (G + 1)) (h : 2 ^ C ≤ mag * 2 ^ b) : C ≤ G + b := by
  have h1 : 2 ^ C < 2 ^ (G + 1 + b) := by
    refine Nat.lt_of_le_of_lt h ?_
    rw [Nat.pow_add 2 (G + 1) b]
    exact Nat.mul_lt_mul_of_pos_right hG1 (Nat.two_pow_pos _)
  have := (Nat.pow_lt_pow_iff_right (by omega)).1 h1
  omega

theorem low_cut (mag G : Nat) (hG0 : 2 ^ G ≤ mag) : 2 ^ 52 ≤ Toward.even.cut false (mag <<< (52 - G)) (G - 52) := by
  refine Nat.le_trans ?_ (cut_spec false _ _).1
  rw [Nat.le_div_iff_mul_le (Nat.two_pow_pos _), Nat.shiftLeft_eq]
  have hp : 2 ^ 52 * 2 ^ (G - 52) = 2 ^ G * 2 ^ (52 - G) := by
    rw [← Nat.pow_add, ← Nat.pow_add]
    congr 1; omega
  rw [hp]
  exact Nat.mul_le_mul_right _ hG0

theorem low_near (mag b G : Nat) (h0 : mag ≠ 0) (hG : mag.log2 = G) (hb : 52 ≤ G + b) :
    FloatKind.f64.format.nearest false mag (-1074 + (b : Int)) = FloatKind.f64.format.word false (min ((G + b - 52) * 4503599627370496 + Toward.even.cut false (mag <<< (52 - G)) (G - 52)) (2047 * 4503599627370496)) := by
  unfold Format.nearest
  rw [if_neg h0, hG, frac64, least64, bin64, inf64]
  have he : max (-1074 + (b : Int) + (G : Int) - ((52 : Nat) : Int)) (-1074) = -1074 + ((G + b - 52 : Nat) : Int) := by omega
  simp only [he]
  rw [show (-1074 + (b : Int) - (-1074 + ((G + b - 52 : Nat) : Int))).toNat = 52 - G by omega, show (-1074 + ((G + b - 52 : Nat) : Int) - (-1074 + (b : Int))).toNat = G - 52 by omega, show (-1074 + ((G + b - 52 : Nat) : Int) - -1074).toNat = G + b - 52 by omega]

theorem low_rung (B C X kept e' m' : Nat) (hC : C ≤ X) (hX : X + 1 ≤ 2047) (hk : B ≤ kept) (hr : min (X * B + kept) (2047 * B) = e' * B + m') (k1 : m' < 2 * B) (k2 : e' = 0 ∨ B ≤ m') : C ≤ e' ∧ B ≤ m' := by
  have q1 : C * B + B ≤ e' * B + m' := by
    rw [← hr]
    have h1 : C * B ≤ X * B := Nat.mul_le_mul_right _ hC
    have h2 : (C + 1) * B ≤ 2047 * B := Nat.mul_le_mul_right _ (by omega)
    rw [Nat.add_mul, Nat.one_mul] at h2
    exact Nat.le_min.2 ⟨by omega, h2⟩
  have q2 : C ≤ e' := by
    rcases Nat.lt_or_ge e' C with hlt | hge
    · have h3 : (e' + 1) * B ≤ C * B := Nat.mul_le_mul_right _ hlt
      rw [Nat.add_mul, Nat.one_mul] at h3
      omega
    · exact hge
  refine ⟨q2, ?_⟩
  rcases k2 with rfl | h
  · have : C = 0 := by omega
    subst this
    omega
  · exact h

/-- ROUNDING KEEPS A LOWER BOUND THAT IS A POWER OF TWO. -/
theorem round_lo (mag b C : Nat) (hC : 52 ≤ C) (hb : ∀ G, mag.log2 = G → G + b - 52 + 1 ≤ 2047) (h : 2 ^ C ≤ mag * 2 ^ b) {m' e' : Nat} (hw : Fin_ .f64 (FloatKind.f64.format.nearest false mag (-1074 + (b : Int))) false m' e') : 2 ^ C ≤ m' * 2 ^ e' := by
  have h0 : mag ≠ 0 := by rintro rfl; rw [Nat.zero_mul] at h; have := Nat.two_pow_pos C; omega
  have hCG := low_lead b C mag mag.log2 Nat.lt_log2_self h
  have hk := low_cut mag mag.log2 ((Nat.le_log2 h0 (k := mag.log2)).1 (Nat.le_refl _))
  have hn := low_near mag b mag.log2 h0 rfl (by omega)
  have hX := hb _ rfl
  generalize mag.log2 = G at *
  generalize Toward.even.cut false (mag <<< (52 - G)) (G - 52) = kept at *
  have hr := hw.rung
  have hi := FloatKind.f64.format.infRung_lt
  rw [sw64, inf64] at hi
  rw [hn, sw64, bin64] at hr
  simp only [Format.word, Bool.false_eq_true, if_false] at hr
  rw [Nat.mod_eq_of_lt (Nat.lt_of_le_of_lt (Nat.min_le_right _ _) hi)] at hr
  have k1 := hw.lt
  have k2 := hw.low
  rw [bin64] at k1 k2
  have hB : 4503599627370496 = 2 ^ 52 := two52
  generalize 4503599627370496 = B at *
  obtain ⟨he, hm⟩ := low_rung B (C - 52) (G + b - 52) kept e' m' (by omega) hX (by rw [hB]; exact hk) hr k1 k2
  have hx : 2 ^ C = 2 ^ 52 * 2 ^ (C - 52) := by rw [← Nat.pow_add]; congr 1; omega
  rw [hx, ← hB]
  exact Nat.mul_le_mul hm (Nat.pow_le_pow_right (by omega) he)

theorem fin_one : Fin_ .f64 4607182418800017408 false (2 ^ 52) 1022 := by
  have h := Fin_.of_word .f64 false (2 ^ 52) 1022 (by decide +kernel) (Or.inr (by decide +kernel)) (by decide +kernel)
  have e : FloatKind.f64.format.word false (1022 * FloatKind.f64.format.binade + 2 ^ 52) = 4607182418800017408 := by decide +kernel
  rwa [e] at h

/-- 1 and what is no less than 0: at least 1. -/
theorem lo_add {X : Option Nat} {E F T : Nat} (hT : T = 1074) (hx : Pos X E) (h1 : 1075 ≤ F) (h2 : F ≤ 2097) (h : E + 1 ≤ F) : Lo (fop .add .f64 k1 X) T F := by
  cases X with
  | none => unfold k1; rw [fin_one.fl]; exact fun _ h => by cases h
  | some c =>
    obtain ⟨n, j, hc, hcE⟩ := hx c rfl
    intro r hr
    have e1 : fop .add .f64 k1 (some c) = ((Datum.number false (2 ^ 52) (-1074 + ((1022 : Nat) : Int))).sum (.number false n (-1074 + (j : Int)))).map FloatKind.f64.format.write := by
      unfold k1; rw [fin_one.fl]
      show floatBits .add .f64 _ c = _
      unfold floatBits Format.add
      rw [fin_one.read, hc.read, least64]
    rw [e1] at hr
    simp only [Datum.sum, Option.map_some] at hr
    obtain ⟨e, he⟩ : ∃ e : Nat, e = 1022 := ⟨_, rfl⟩
    rw [← he] at hr
    obtain ⟨b, hb, hbe, hbj⟩ : ∃ b : Nat, min (-1074 + (e : Int)) (-1074 + (j : Int)) = -1074 + (b : Int) ∧ b ≤ e ∧ b ≤ j := ⟨min e j, by omega, by omega, by omega⟩
    rw [hb, show (-1074 + (e : Int) - (-1074 + (b : Int))).toNat = e - b by omega, show (-1074 + (j : Int) - (-1074 + (b : Int))).toNat = j - b by omega] at hr
    have htot : signed false (2 ^ 52) (e - b) + signed false n (j - b) = ((2 ^ 52 * 2 ^ (e - b) + n * 2 ^ (j - b) : Nat) : Int) := by
      unfold signed; rw [Nat.shiftLeft_eq, Nat.shiftLeft_eq]; simp
    rw [htot] at hr
    have hp : 0 < 2 ^ 52 * 2 ^ (e - b) := Nat.mul_pos (Nat.two_pow_pos _) (Nat.two_pow_pos _)
    have hv : (2 ^ 52 * 2 ^ (e - b) + n * 2 ^ (j - b)) * 2 ^ b = 2 ^ T + n * 2 ^ j := by
      rw [Nat.add_mul, Nat.mul_assoc, Nat.mul_assoc, ← Nat.pow_add, ← Nat.pow_add, ← Nat.pow_add, Nat.sub_add_cancel hbe, Nat.sub_add_cancel hbj]
      congr 2; omega
    generalize 2 ^ 52 * 2 ^ (e - b) + n * 2 ^ (j - b) = mag at *
    have hmag : mag ≠ 0 := by
      rintro rfl
      rw [Nat.zero_mul] at hv
      have := Nat.two_pow_pos T
      omega
    rw [if_neg (by omega), show decide (((mag : Nat) : Int) < 0) = false by simp, Int.natAbs_natCast] at hr
    have hr' := Option.some.inj hr
    have hup : mag * 2 ^ b ≤ 2 ^ F := by
      rw [hv]
      have h4 : 2 ^ T ≤ 2 ^ (F - 1) := Nat.pow_le_pow_right (by omega) (by omega)
      have h5 : 2 ^ E ≤ 2 ^ (F - 1) := Nat.pow_le_pow_right (by omega) (by omega)
      have h6 : 2 ^ F = 2 ^ (F - 1) + 2 ^ (F - 1) := by rw [← Nat.two_mul, ← Nat.pow_succ', show (F - 1).succ = F by omega]
      omega
    obtain ⟨m', e', hw, hle⟩ := round_le .f64 false mag (-1074 + (b : Int)) F (by rw [frac64]; omega) (by rw [inf64, bin64, frac64]; omega) (by
      rw [least64, show (-1074 + (b : Int) - -1074).toNat = b by omega, show (-1074 - (-1074 + (b : Int))).toNat = 0 by omega, Nat.pow_zero, Nat.mul_one]
      exact hup)
    have hlo := round_lo mag b T (by omega) (by
      intro G hG
      have hg := (Nat.le_log2 hmag (k := mag.log2)).1 (Nat.le_refl _)
      rw [hG] at hg
      have h7 : 2 ^ (G + b) ≤ 2 ^ F := by
        rw [Nat.pow_add]
        exact Nat.le_trans (Nat.mul_le_mul_right _ hg) hup
      have := (Nat.pow_le_pow_iff_right (by omega)).1 h7
      omega) (by rw [hv]; omega) hw
    have hw' : Fin_ .f64 r false m' e' := by rw [← hr']; exact hw
    exact ⟨m', e', hw', hlo, hle⟩

/-- A square is no less than 0. -/
theorem pos_sq {X : Option Nat} {E : Nat} (F : Nat) (hx : Bd X E) (h1 : 52 ≤ F) (h2 : F ≤ 2097) (h : E + E ≤ F + 1074) : Pos (fop .mul .f64 X X) F := by
  have hb := bd_mul F hx hx h1 h2 h
  intro r hr
  obtain ⟨s', m', e', hw, hle⟩ := hb r hr
  cases X with
  | none => cases hr
  | some a =>
    obtain ⟨s, m, e, ha, hae⟩ := hx a rfl
    have e1 : fop .mul .f64 (some a) (some a) = some (FloatKind.f64.format.nearest (s ^^ s) (m * m) (-1074 + (e : Int) + (-1074 + (e : Int)))) := by
      show floatBits .mul .f64 a a = _
      unfold floatBits Format.mul
      rw [ha.read, least64]; rfl
    rw [e1] at hr
    have hr' := Option.some.inj hr
    obtain ⟨m2, e2, hw2, hle2⟩ := round_le .f64 (s ^^ s) (m * m) (-1074 + (e : Int) + (-1074 + (e : Int))) F (by rw [frac64]; omega) (by rw [inf64, bin64, frac64]; omega) (by
      rw [least64, show (-1074 + (e : Int) + (-1074 + (e : Int)) - -1074).toNat = (e + e) - 1074 by omega, show (-1074 - (-1074 + (e : Int) + (-1074 + (e : Int)))).toNat = 1074 - (e + e) by omega]
      refine shift_le _ _ _ _ ?_
      have h3 : m * m * 2 ^ (e + e) = (m * 2 ^ e) * (m * 2 ^ e) := by rw [Nat.pow_add]; ac_rfl
      rw [h3]
      refine Nat.le_trans (Nat.mul_le_mul hae hae) ?_
      rw [← Nat.pow_add]
      exact Nat.pow_le_pow_right (by omega) h)
    rw [hr', Bool.xor_self] at hw2
    exact ⟨m2, e2, hw2, hle2⟩

/-- The root of what is greater than 0 is no less than 0. -/
theorem pos_sqrt {X : Option Nat} {C E F : Nat} (hx : Lo X C E) (hE : E ≤ 1210) (hF : F = 1150) : Pos (fsqrt X) F := by
  have hb := bd_sqrt hx.pos.bd hE hF
  intro r hr
  obtain ⟨s', m', e', hw, hle⟩ := hb r hr
  cases X with
  | none => cases hr
  | some a =>
    obtain ⟨m, e, ha, hlo, hae⟩ := hx a rfl
    have hm : m ≠ 0 := by rintro rfl; rw [Nat.zero_mul] at hlo; have := Nat.two_pow_pos C; omega
    have hr' : FloatKind.f64.format.sqrt a = some r := hr
    unfold Format.sqrt at hr'
    rw [ha.read] at hr'
    simp only [Datum.root, if_neg hm, Bool.false_eq_true, if_false, Option.map_some] at hr'
    have hr2 := Option.some.inj hr'
    have hsg : s' = false := by
      rw [hw.sign]
      have hlt : r < FloatKind.f64.format.signWeight := by
        rw [← hr2]
        exact nearest_lt _ _ _
      rw [Nat.div_eq_of_lt hlt]; rfl
    subst hsg
    exact ⟨m', e', hw, hle⟩

/-- A quotient of a lesser number by a greater. -/
theorem bd_ratio {a c : Nat} {s t : Bool} {m n e j F : Nat} (hF : F = 1075) (ha : Fin_ .f64 a s m e) (hc : Fin_ .f64 c t n j) (hle : m * 2 ^ e ≤ n * 2 ^ j) : Bd (fop .quo .f64 (some a) (some c)) F := by
  by_cases hn0 : n = 0
  · subst hn0
    have hm : m = 0 := by
      rw [Nat.zero_mul] at hle
      rcases Nat.mul_eq_zero.1 (Nat.le_zero.1 hle) with h | h
      · exact h
      · have := Nat.two_pow_pos e; omega
    subst hm
    have e1 : fop .quo .f64 (some a) (some c) = none := by
      show floatBits .quo .f64 a c = _
      unfold floatBits Format.div
      rw [ha.read, hc.read]
      simp [Datum.quotient]
    rw [e1]; exact bd_none _
  · have e1 : fop .quo .f64 (some a) (some c) = some (FloatKind.f64.format.write (.number (s ^^ t) (2 * ((m <<< (54 + n.log2 - m.log2)) / n) + ((m <<< (54 + n.log2 - m.log2)) % n != 0).toNat) (FloatKind.f64.format.leastPlace + (e : Int) - (FloatKind.f64.format.leastPlace + (j : Int)) - ((54 + n.log2 - m.log2 : Nat) : Int) - 1))) := by
      show floatBits .quo .f64 a c = _
      unfold floatBits Format.div
      rw [ha.read, hc.read, frac64]
      simp only [Datum.quotient, if_neg hn0]
      rfl
    rw [e1, least64]
    refine bd_near _ _ _ F (by omega) (by omega) ?_
    generalize hmo : 54 + n.log2 - m.log2 = more
    rw [Nat.shiftLeft_eq]
    by_cases hm0 : m = 0
    · subst hm0; simp
    · have hnl : n < 2 ^ (n.log2 + 1) := Nat.lt_log2_self
      have hml := (Nat.le_log2 hm0 (k := m.log2)).1 (Nat.le_refl _)
      have hge : n ≤ m * 2 ^ more := by
        have k1 : 2 ^ (m.log2 + more) ≤ m * 2 ^ more := by rw [Nat.pow_add]; exact Nat.mul_le_mul_right _ hml
        have k2 : 2 ^ (n.log2 + 1) ≤ 2 ^ (m.log2 + more) := Nat.pow_le_pow_right (by omega) (by omega)
        omega
      have hq1 : 1 ≤ m * 2 ^ more / n := (Nat.le_div_iff_mul_le (by omega)).2 (by omega)
      have ht := Bool.toNat_le (m * 2 ^ more % n != 0)
      generalize (m * 2 ^ more % n != 0).toNat = bit at *
      have hqn : m * 2 ^ more / n * n ≤ m * 2 ^ more := Nat.div_mul_le_self _ _
      generalize m * 2 ^ more / n = q at *
      have hmag : (2 * q + bit) * n ≤ 4 * (m * 2 ^ more) := by
        have k1 : (2 * q + bit) * n ≤ 4 * q * n := Nat.mul_le_mul_right _ (by omega)
        have k2 : 4 * q * n = 4 * (q * n) := Nat.mul_assoc _ _ _
        omega
      generalize 2 * q + bit = mag at *
      obtain ⟨T, hT⟩ : ∃ T : Nat, T = 1073 := ⟨_, rfl⟩
      rw [show (-1074 + (e : Int) - (-1074 + (j : Int)) - (more : Int) - 1 + 1074).toNat = (e + T) - (j + more) by omega, show (-1074 - (-1074 + (e : Int) - (-1074 + (j : Int)) - (more : Int) - 1)).toNat = (j + more) - (e + T) by omega]
      refine shift_le _ _ _ _ ?_
      have hpos : 0 < n * 2 ^ j := Nat.mul_pos (by omega) (Nat.two_pow_pos _)
      have k3 : mag * 2 ^ (e + T) * (n * 2 ^ j) ≤ 2 ^ (F + (j + more)) * (n * 2 ^ j) := by
        have k5 : mag * 2 ^ (e + T) * (n * 2 ^ j) = mag * n * (2 ^ e * 2 ^ T * 2 ^ j) := by rw [Nat.pow_add]; ac_rfl
        have k6 : mag * n * (2 ^ e * 2 ^ T * 2 ^ j) ≤ 4 * (m * 2 ^ more) * (2 ^ e * 2 ^ T * 2 ^ j) := Nat.mul_le_mul_right _ hmag
        have k7 : 4 * (m * 2 ^ more) * (2 ^ e * 2 ^ T * 2 ^ j) = (m * 2 ^ e) * (2 ^ 2 * 2 ^ more * 2 ^ T * 2 ^ j) := by
          rw [show (4 : Nat) = 2 ^ 2 from rfl]; ac_rfl
        have k8 : (m * 2 ^ e) * (2 ^ 2 * 2 ^ more * 2 ^ T * 2 ^ j) ≤ (n * 2 ^ j) * (2 ^ 2 * 2 ^ more * 2 ^ T * 2 ^ j) := Nat.mul_le_mul_right _ hle
        have k9 : (n * 2 ^ j) * (2 ^ 2 * 2 ^ more * 2 ^ T * 2 ^ j) = 2 ^ (F + (j + more)) * (n * 2 ^ j) := by
          rw [← Nat.pow_add, ← Nat.pow_add, ← Nat.pow_add, Nat.mul_comm, show 2 + more + T + j = F + (j + more) by omega]
        rw [k5, ← k9]
        exact Nat.le_trans k6 (k7 ▸ k8)
      exact Nat.le_of_mul_le_mul_right k3 hpos

/-- The greater number is one more half of the angle. -/
def fstep (X : Option Nat) : Option Nat := fop .quo .f64 X (fop .add .f64 k1 (fsqrt (fop .add .f64 k1 (fop .mul .f64 X X))))
def fstepN (X : Option Nat) : Nat → Option Nat
  | 0 => X
  | j + 1 => fstep (fstepN X j)
/-- The odd numbers from 15 down to -1. -/
def kodd (j : Nat) : Nat := floatOfInt .f64 (15 - 2 * (j : Int))
def farcpoly (U : Option Nat) : Nat → Option Nat
  | 0 => fl .f64 0
  | j + 1 => fop .sub .f64 (fop .quo .f64 k1 (fl .f64 (kodd j))) (fop .mul .f64 U (farcpoly U j))
def k8 : Option Nat := fl .f64 4620693217682128896
def farc3 (T U : Option Nat) : Option Nat := fop .quo .f64 (fop .mul .f64 k8 (fop .mul .f64 T (farcpoly U 8))) kTurn
def farc (X : Option Nat) : Option Nat := farc3 (fstepN X 3) (fop .mul .f64 (fstepN X 3) (fstepN X 3))
theorem kodd_ge : ∀ j, j < 8 → fge (fl .f64 (kodd j)) k1 = true := by decide +kernel
theorem kodd_end : fge (fl .f64 (kodd 8)) k1 = false := by decide +kernel
theorem kodd_less : ∀ j, j < 8 → fop .sub .f64 (fl .f64 (kodd j)) (fl .f64 4611686018427387904) = fl .f64 (kodd (j + 1)) := by decide +kernel
theorem kodd_lt : ∀ j, j ≤ 8 → kodd j < 18446744073709551616 ∧ fl .f64 (kodd j) = some (kodd j) := by
  intro j hj
  have : ∀ j, j < 9 → kodd j < 18446744073709551616 ∧ fl .f64 (kodd j) = some (kodd j) := by decide +kernel
  exact this j (by omega)
/-- How many rounds a float counter from 15 down by 2 has to go. -/
def codd : Value → Nat
  | .float _ b => ((List.range 9).find? fun i => kodd (8 - i) == b).getD 0
  | _ => 0
theorem codd_less : ∀ j, j < 8 → codd (.float .f64 (kodd (j + 1))) < codd (.float .f64 (kodd j)) := by decide +kernel

theorem bd_fstep {X : Option Nat} {E : Nat} (h : Bd X E) (hE : E ≤ 1080) (hE0 : 52 ≤ E) : Bd (fstep X) (E + 1) := by
  have h0 := h.mono (show E ≤ 1080 by omega)
  have h1 := pos_sq 1100 h0 (by omega) (by omega) (by omega)
  have h2 := lo_add rfl h1 (F := 1101) (by omega) (by omega) (by omega)
  have h3 := pos_sqrt h2 (by omega) rfl
  have h4 := lo_add rfl h3 (F := 1151) (by omega) (by omega) (by omega)
  unfold fstep
  generalize fop .add .f64 k1 (fsqrt (fop .add .f64 k1 (fop .mul .f64 X X))) = D at *
  cases D with
  | none => cases X <;> exact bd_none _
  | some d =>
    obtain ⟨n, j, hd, hlo, _⟩ := h4 d rfl
    exact bd_quo (E + 1) h hd hlo (by omega) (by omega) (by omega)

/-- The turn as a float, from below. -/
theorem fin_turn {C : Nat} (hC : C = 1076) : ∃ n j, Fin_ .f64 4618760256179416344 false n j ∧ 2 ^ C ≤ n * 2 ^ j := by
  have h := Fin_.of_word .f64 false (4618760256179416344 - 1024 * 4503599627370496) 1024 (by rw [bin64]; omega) (by right; rw [bin64]; omega) (by rw [bin64, inf64]; omega)
  have e : FloatKind.f64.format.word false (1024 * FloatKind.f64.format.binade + (4618760256179416344 - 1024 * 4503599627370496)) = 4618760256179416344 := by decide +kernel
  rw [e] at h
  obtain ⟨R, hR⟩ : ∃ R : Nat, R = 1024 := ⟨_, rfl⟩
  rw [← hR] at h
  refine ⟨_, _, h, ?_⟩
  have h2 : 2 ^ C = 2 ^ 52 * 2 ^ R := by rw [← Nat.pow_add]; congr 1; omega
  rw [h2]
  exact Nat.mul_le_mul_right _ (by rw [hR]; decide)

theorem bd_kodd : ∀ j, j < 8 → Bd (fop .quo .f64 k1 (fl .f64 (kodd j))) 1076 := by
  intro j hj
  have hw : ∀ j, j < 8 → fop .quo .f64 k1 (fl .f64 (kodd j)) = some ((fop .quo .f64 k1 (fl .f64 (kodd j))).getD 0) ∧ ((fop .quo .f64 k1 (fl .f64 (kodd j))).getD 0) % 9223372036854775808 < 1024 * 4503599627370496 := by decide +kernel
  obtain ⟨h1, h2⟩ := hw j hj
  rw [h1]
  generalize (fop .quo .f64 k1 (fl .f64 (kodd j))).getD 0 = c at *
  intro b hb
  have := Option.some.inj hb
  subst this
  rcases shape .f64 c with ⟨s, m, e, h⟩ | ⟨s, hr, hg, _⟩ | h
  · refine ⟨s, m, e, h, ?_⟩
    have hr := h.rung
    have hl := h.lt
    rw [sw64, bin64] at hr
    rw [bin64] at hl
    have he : e ≤ 1023 := by omega
    obtain ⟨T, hT⟩ : ∃ T : Nat, T = 1023 := ⟨_, rfl⟩
    obtain ⟨R, hR⟩ : ∃ R : Nat, R = 1076 := ⟨_, rfl⟩
    rw [← hR]
    refine Nat.le_trans (Nat.mul_le_mul (show m ≤ 2 ^ 53 by omega) (Nat.pow_le_pow_right (by omega) (show e ≤ T by omega))) ?_
    rw [← Nat.pow_add]
    exact Nat.pow_le_pow_right (by omega) (by omega)
  · rw [sw64, inf64] at hg
    omega
  · have hz := (nan_rung .f64 c).1 h
    rw [sw64, inf64] at hz
    omega

theorem bd_farcpoly {U : Option Nat} (hU : Bd U 1084) : ∀ j, j ≤ 8 → Bd (farcpoly U j) (1076 + 11 * j)
  | 0, _ => (bd_const (E := 1076) (t := false) (n := 0) (j := 0) (by
      have := Fin_.of_word .f64 false 0 0 (by decide +kernel) (Or.inl rfl) (by decide +kernel)
      have e : FloatKind.f64.format.word false (0 * FloatKind.f64.format.binade + 0) = 0 := by decide +kernel
      rwa [e] at this) (by rw [Nat.zero_mul]; exact Nat.zero_le _))
  | j + 1, hj => by
    have ih := bd_farcpoly hU j (by omega)
    have h1 := bd_mul (1076 + 11 * j + 10) hU ih (by omega) (by omega) (by omega)
    exact bd_sub (1076 + 11 * (j + 1)) (bd_kodd j (by omega)) h1 (by omega) (by omega) (by omega) (by omega)

theorem bd_k8 : Bd k8 1078 := bd_word _ 4503599627370496 1025 1078 53 false (by omega) (by omega) (by omega) (by decide +kernel) (by decide) (by omega)

/-- THE ARC IS BOUND. -/
theorem bd_farc {X : Option Nat} (h : Bd X 1075) : Bd (farc X) 1190 := by
  have h3 : Bd (fstepN X 3) 1078 := bd_fstep (bd_fstep (bd_fstep h (by omega) (by omega)) (by omega) (by omega)) (by omega) (by omega)
  unfold farc
  generalize fstepN X 3 = T at *
  have hu := bd_mul 1084 h3 h3 (by omega) (by omega) (by omega)
  have hp := bd_farcpoly hu 8 (by omega)
  have h1 := bd_mul 1180 h3 hp (by omega) (by omega) (by omega)
  have h2 := bd_mul 1188 bd_k8 h1 (by omega) (by omega) (by omega)
  obtain ⟨n, j, hf, hlo⟩ := fin_turn rfl
  unfold farc3 kTurn
  rw [hf.fl]
  exact bd_quo 1190 h2 hf hlo (by omega) (by omega) (by omega)

/-- The angle of a height and a width, and of a point. -/
def fflat (over : Bool) (A B : Option Nat) : Option Nat := if over then fop .sub .f64 kQuarter (farc (fop .quo .f64 B A)) else farc (fop .quo .f64 A B)
def fang (xneg yneg : Bool) (G : Option Nat) : Option Nat :=
  let H := if xneg then fop .sub .f64 kHalf G else G
  if yneg then fneg H else H
theorem bd_fang {xneg yneg : Bool} {G : Option Nat} (h : Bd G 1192) : Bd (fang xneg yneg G) 1194 := by
  have h1 : Bd (if xneg then fop .sub .f64 kHalf G else G) 1194 := by
    cases xneg
    · exact h.mono (by omega)
    · exact bd_sub 1194 bd_half h (by omega) (by omega) (by omega) (by omega)
  unfold fang
  cases yneg
  · exact h1
  · exact bd_fneg h1
def fratio (over : Bool) (A B : Option Nat) : Option Nat := if over then fop .quo .f64 B A else fop .quo .f64 A B
theorem fratio_t (A B : Option Nat) : fratio true A B = fop .quo .f64 B A := rfl
theorem fratio_f (A B : Option Nat) : fratio false A B = fop .quo .f64 A B := rfl
theorem fflat_eq {over : Bool} {A B Q : Option Nat} (hQ : fratio over A B = Q) : fflat over A B = if over then fop .sub .f64 kQuarter (farc Q) else farc Q := by
  subst hQ; unfold fflat fratio; cases over <;> simp only [if_true, Bool.false_eq_true, if_false]
theorem bd_quarter : Bd kQuarter 1075 := bd_word _ 4503599627370496 1020 1075 53 false (by omega) (by omega) (by omega) (by decide +kernel) (by decide) (by omega)
theorem bd_fflat {over : Bool} {A B : Option Nat} (h : Bd (if over then fop .quo .f64 B A else fop .quo .f64 A B) 1075) : Bd (fflat over A B) 1192 := by
  cases over
  · exact (bd_farc h).mono (by omega)
  · exact bd_sub 1192 bd_quarter (bd_farc h) (by omega) (by omega) (by omega) (by omega)
end Go.Proofs.Ytcfbpgfihmmnoab
