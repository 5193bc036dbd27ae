/- Floats that are not below zero, of either kind: sums, squares, roots keep that; rounded down, and held against a small integer. No condition. -/
import Derived.Test.YtkbkjkjjoogieaaWb
import Derived.Test.YtkbkjkjjoogieaaWc
namespace Go.Proofs.Ytkbkjkjjoogieaa
open Go.RowKit Ieee
set_option linter.unusedVariables false
set_option linter.unusedSimpArgs false

def pls (d : Datum) : Bool := match d with | .number s _ _ => !s | .infinity s => !s | .nan .. => false
/-- A number with the sign plus, or +infinity. -/
def Nk (k : FloatKind) (X : Option Nat) : Prop := ∃ b, X = some b ∧ pls (k.format.read b) = true
theorem near_plus_k (k : FloatKind) (mag : Nat) (place : Int) : k.format.nearest false mag place < k.format.signWeight := by
  have hi := k.format.infRung_lt
  unfold Format.nearest
  split
  · simp only [Format.word, Bool.false_eq_true, if_false]; omega
  · simp only [Format.word, Bool.false_eq_true, if_false]
    exact Nat.lt_of_le_of_lt (Nat.min_le_right _ _) hi
theorem pls_write {k : FloatKind} {d : Datum} (h : pls d = true) : pls (k.format.read (k.format.write d)) = true := by
  cases d with
  | nan => cases h
  | infinity s =>
    have : s = false := by simpa [pls] using h
    subst this
    cases k <;> decide +kernel
  | number s m i =>
    have : s = false := by simpa [pls] using h
    subst this
    have hlt : k.format.write (.number false m i) < k.format.signWeight := near_plus_k k m i
    have hfl : fl k (k.format.write (.number false m i)) = some (k.format.write (.number false m i)) := encode_fl (k := k) (d := .number false m i) rfl
    generalize k.format.write (.number false m i) = b at hlt hfl
    have h0 : b / k.format.signWeight = 0 := Nat.div_eq_of_lt hlt
    rcases shape k b with ⟨t, m', e', h1⟩ | ⟨t, hr, _, hs⟩ | h1
    · have := h1.sign
      rw [h0] at this
      rw [h1.read, this]; rfl
    · rw [h0] at hs
      rw [hr, hs]; rfl
    · rw [h1] at hfl; cases hfl
theorem nk_write {k : FloatKind} {d : Datum} (h : pls d = true) : Nk k (some (k.format.write d)) := ⟨_, rfl, pls_write h⟩
theorem sig_plus (m k : Nat) : 0 ≤ signed false m k := by unfold signed; simp only [Bool.false_eq_true, if_false]; exact Int.natCast_nonneg _
theorem nk_add {X Y : Option Nat} (hx : Nk .f32 X) (hy : Nk .f32 Y) : Nk .f32 (fop .add .f32 X Y) := by
  obtain ⟨a, rfl, ha⟩ := hx
  obtain ⟨b, rfl, hb⟩ := hy
  have e : fop .add .f32 (some a) (some b) = ((FloatKind.f32.format.read a).sum (FloatKind.f32.format.read b)).map FloatKind.f32.format.write := rfl
  rw [e]
  generalize FloatKind.f32.format.read a = p at ha
  generalize FloatKind.f32.format.read b = q at hb
  cases p with
  | nan => cases ha
  | infinity s =>
    obtain rfl : s = false := by simpa [pls] using ha
    cases q with
    | nan => cases hb
    | infinity t =>
      obtain rfl : t = false := by simpa [pls] using hb
      exact nk_write (d := .infinity false) rfl
    | number t n j => exact nk_write (d := .infinity false) rfl
  | number s m i =>
    obtain rfl : s = false := by simpa [pls] using ha
    cases q with
    | nan => cases hb
    | infinity t =>
      obtain rfl : t = false := by simpa [pls] using hb
      exact nk_write (d := .infinity false) rfl
    | number t n j =>
      obtain rfl : t = false := by simpa [pls] using hb
      refine nk_write (d := _) ?_
      have h1 := sig_plus m (i - min i j).toNat
      have h2 := sig_plus n (j - min i j).toNat
      show (!(if signed false m (i - min i j).toNat + signed false n (j - min i j).toNat = 0 then false && false else decide (signed false m (i - min i j).toNat + signed false n (j - min i j).toNat < 0))) = true
      split
      · rfl
      · rw [decide_eq_false (by omega)]; rfl
/-- No NaN. -/
def Nq (X : Option Nat) : Prop := ∃ b, X = some b ∧ (FloatKind.f32.format.read b).isNaN = false
theorem nq_of {a : Nat} {X : Option Nat} (h : Fl .f32 a X) (hX : X ≠ none) : Nq X := by
  have hx := h.eq
  cases hY : X with
  | none => exact absurd hY hX
  | some b =>
    rw [hY] at hx
    obtain ⟨rfl, hn⟩ := fl_some hx
    exact ⟨_, rfl, hn⟩
/-- A square of what is a number, or infinite. -/
theorem nk_sq {X : Option Nat} (h : Nq X) : Nk .f32 (fop .mul .f32 X X) := by
  obtain ⟨b, rfl, hn⟩ := h
  have e : fop .mul .f32 (some b) (some b) = ((FloatKind.f32.format.read b).product (FloatKind.f32.format.read b)).map FloatKind.f32.format.write := rfl
  rw [e]
  generalize FloatKind.f32.format.read b = p at hn
  cases p with
  | nan => cases hn
  | infinity s => exact nk_write (d := .infinity (s ^^ s)) (by cases s <;> rfl)
  | number s m i => exact nk_write (d := .number (s ^^ s) _ _) (by cases s <;> rfl)
/-- A quotient by what is above zero. -/
theorem quo_num {c : Nat} {X V : Option Nat} (h : Nq X) (hv : Fl .f32 c V) (hV : fabove V = true) : Nq (fop .quo .f32 X V) := by
  have hc := hv.eq
  unfold fabove at hV
  rw [Bool.and_eq_true] at hV
  obtain ⟨hf, hg⟩ := hV
  have hgo := hv.ogt0
  rw [hg] at hgo
  obtain ⟨b, rfl, hn⟩ := h
  have key : ∀ d : Datum, d.isNaN = false → Nq (some (FloatKind.f32.format.write d)) := fun d hd => ⟨_, rfl, write_num _ _ hd⟩
  rcases shape .f32 c with ⟨s, m, e, k⟩ | ⟨s, hr, _, _⟩ | k
  · rw [k.fl] at hc
    subst hc
    have hm : m ≠ 0 := by
      rintro rfl
      rw [k.order fin_zero, sv_zero, sv_zero] at hgo
      revert hgo; decide
    have e1 : fop .quo .f32 (some b) (some c) = ((FloatKind.f32.format.read b).quotient (FloatKind.f32.format.fractionBits + 2) (FloatKind.f32.format.read c)).map FloatKind.f32.format.write := rfl
    rw [e1, k.read]
    generalize FloatKind.f32.format.read b = p at hn
    cases p with
    | nan => cases hn
    | infinity t => exact key _ rfl
    | number t n j => simp only [Datum.quotient, if_neg hm]; exact key _ rfl
  · rw [fl_inf hr] at hc
    subst hc
    unfold ffin FloatKind.decode at hf
    simp only at hf
    rw [hr] at hf; cases hf
  · rw [k] at hc; subst hc; cases hf
theorem nk_root {X : Option Nat} (hx : Nk .f32 X) : Nk .f32 (froot X) := by
  obtain ⟨b, rfl, hb⟩ := hx
  have e1 : fconv .f32 .f64 (some b) = some (FloatKind.f64.format.write (FloatKind.f32.format.read b)) := rfl
  have h1 := pls_write (k := .f64) hb
  unfold froot
  rw [e1]
  generalize FloatKind.f64.format.write (FloatKind.f32.format.read b) = c at h1
  have e2 : fsqrt (some c) = ((FloatKind.f64.format.read c).root (FloatKind.f64.format.fractionBits + 2)).map FloatKind.f64.format.write := rfl
  rw [e2]
  have key : ∀ d : Datum, pls d = true → Nk .f32 (fconv .f64 .f32 (some (FloatKind.f64.format.write d))) := fun d hd => nk_write (d := FloatKind.f64.format.read (FloatKind.f64.format.write d)) (pls_write hd)
  generalize FloatKind.f64.format.read c = p at h1
  cases p with
  | nan => cases h1
  | infinity s =>
    obtain rfl : s = false := by simpa [pls] using h1
    exact key (.infinity false) rfl
  | number s m i =>
    obtain rfl : s = false := by simpa [pls] using h1
    by_cases hm : m = 0
    · simp only [Datum.root, if_pos hm]
      exact key (.number false m i) rfl
    · simp only [Datum.root, if_neg hm, Bool.false_eq_true, if_false]
      exact key (.number false _ _) rfl
theorem nk_fz : Nk .f32 fz := ⟨0, by decide +kernel, by decide +kernel⟩
theorem nk_curve {v : Nat} {S P V : Option Nat} (hS : Nq S) (hP : Nq P) (hv : Fl .f32 v V) (hV : fabove V = true) : Nk .f32 (fcurve S P V) :=
  nk_root (nk_add (nk_sq hS) (nk_sq (quo_num hP hv hV)))
theorem nk_ge0 {X : Option Nat} (hx : Nk .f32 X) : ge0 X = true := by
  obtain ⟨a, rfl, ha⟩ := hx
  have ez : fz = some 0 := by decide +kernel
  have e : ford .f32 (some a) (some 0) = (FloatKind.f32.format.read a).order (FloatKind.f32.format.read 0) := rfl
  have r0 : FloatKind.f32.format.read 0 = .number false 0 (-149) := by decide +kernel
  unfold ge0
  rw [ez, e, r0]
  generalize FloatKind.f32.format.read a = p at ha
  cases p with
  | nan => cases ha
  | infinity s =>
    obtain rfl : s = false := by simpa [pls] using ha
    rfl
  | number s m i =>
    obtain rfl : s = false := by simpa [pls] using ha
    have h1 := sig_plus m (i - min i (-149)).toNat
    have h2 : signed false 0 ((-149 : Int) - min i (-149)).toNat = 0 := by unfold signed; simp
    have key : ∀ x y : Int, compare x y = if x < y then .lt else if x = y then .eq else .gt := fun x y => rfl
    simp only [Datum.order, h2]
    generalize signed false m (i - min i (-149)).toNat = z at h1
    rw [key]
    by_cases c1 : z = 0
    · subst c1; rfl
    · rw [if_neg (by omega), if_neg c1]; rfl
/-- The least place of 64 bits. -/
@[irreducible] def lp64 : Nat := 1074
theorem lp64_eq : lp64 = 1074 := by unfold lp64; rfl
/-- A small integer in 64 bits. -/
theorem int_fin64 (a : Nat) (ha : a < 16777216) : ∃ n j, Fin_ .f64 (floatOfInt .f64 (a : Int)) false n j ∧ n * 2 ^ j = a * 2 ^ lp64 := by
  rw [lp64_eq]
  obtain ⟨T, hT⟩ : ∃ T : Nat, T = 1074 := ⟨_, rfl⟩
  have hl : FloatKind.f64.format.leastPlace = -(T : Int) := by rw [least64, hT]; rfl
  have e : floatOfInt .f64 (a : Int) = FloatKind.f64.format.nearest false a 0 := by
    show FloatKind.f64.format.nearest (decide ((a : Int) < 0)) (a : Int).natAbs 0 = _
    rw [decide_eq_false (by omega), Int.natAbs_natCast]
  rw [e, ← hT]
  exact near_few .f64 false (mag := a) (place := 0) (N := a) (b := T) (by rw [bin64]; omega) (by rw [hT, bin64, inf64]; decide) (by
    rw [hl, show ((0 : Int) - -(T : Int)).toNat = T by omega, show (-(T : Int) - 0).toNat = 0 by omega, Nat.pow_zero, Nat.mul_one])
theorem cmp_lt (x y : Int) : (some (compare x y) == some Ordering.lt) = decide (x < y) := by
  have key : compare x y = if x < y then .lt else if x = y then .eq else .gt := rfl
  rw [key]
  by_cases h : x < y
  · rw [if_pos h, decide_eq_true h]; rfl
  · rw [if_neg h, decide_eq_false h]
    by_cases h2 : x = y
    · rw [if_pos h2]; rfl
    · rw [if_neg h2]; rfl
/-- Rounded down, it stands for its whole part. -/
theorem floor_val {t : Nat} {m e : Nat} (k : Fin_ .f32 t false m e) : ∃ n j, Fin_ .f64 (floorw (wide t)) false n j ∧ n * 2 ^ j = m * 2 ^ e / 2 ^ 149 * 2 ^ lp64 := by
  rw [lp64_eq]
  obtain ⟨T, hT⟩ : ∃ T : Nat, T = 1074 := ⟨_, rfl⟩
  obtain ⟨D, hD⟩ : ∃ D : Nat, D = 925 := ⟨_, rfl⟩
  obtain ⟨G, hG⟩ : ∃ G : Nat, G = 149 := ⟨_, rfl⟩
  obtain ⟨m', e', k', hv'⟩ := k.wide
  obtain ⟨q1, q2, _, _⟩ := k.e32
  rw [← hD] at hv'
  rw [← hT, ← hG]
  have hTD : T = G + D := by omega
  have hd : m' * 2 ^ e' / 2 ^ T = m * 2 ^ e / 2 ^ G := by
    rw [hv', hTD, Nat.pow_add, Nat.pow_add, ← Nat.mul_assoc]
    exact Nat.mul_div_mul_right _ _ (Nat.two_pow_pos _)
  by_cases hK : m * 2 ^ e / 2 ^ G < 9007199254740992
  · rw [← hd]
    exact floor_fin hT k' (by intro h; cases h) (by rw [hd]; exact hK)
  · have hl : FloatKind.f64.format.leastPlace = -(T : Int) := by rw [least64, hT]; rfl
    have hr : FloatKind.f64.decode (wide t) = .number false m' (-(T : Int) + (e' : Int)) := by unfold FloatKind.decode; rw [k'.read, hl]
    have heG : G ≤ e := by
      apply Classical.byContradiction
      intro hlt
      have h1 : m * 2 ^ e / 2 ^ G ≤ m := by
        have h2 : m * 2 ^ e ≤ m * 2 ^ G := Nat.mul_le_mul_left _ (Nat.pow_le_pow_right (by omega) (by omega))
        calc m * 2 ^ e / 2 ^ G ≤ m * 2 ^ G / 2 ^ G := Nat.div_le_div_right h2
          _ = m := Nat.mul_div_cancel _ (Nat.two_pow_pos _)
      have h3 : m < 16777216 := by simpa using q1
      omega
    obtain ⟨d, hd2⟩ : ∃ d, e = G + d := ⟨e - G, by omega⟩
    have hKe : m * 2 ^ e / 2 ^ G = m * 2 ^ d := by
      rw [hd2, Nat.pow_add, Nat.mul_comm (2 ^ G) (2 ^ d), ← Nat.mul_assoc]
      exact Nat.mul_div_cancel _ (Nat.two_pow_pos _)
    have hfw : floorw (wide t) = FloatKind.f64.format.nearest false (m * 2 ^ d) 0 := by
      unfold floorw
      rw [hr, down_num false m' e' T (by intro h; cases h), hd, hKe]
      rfl
    rw [hfw, hKe]
    have h := near_few .f64 false (mag := m * 2 ^ d) (place := 0) (N := m) (b := d + T) (by
        have h3 : m < 16777216 := by simpa using q1
        rw [bin64]; omega) (by
        rw [bin64, inf64]
        have h5 : d + T + 2 ≤ 2047 := by omega
        exact Nat.mul_le_mul_right _ h5) (by
        rw [hl, show ((0 : Int) - -(T : Int)).toNat = T by omega, show (-(T : Int) - 0).toNat = 0 by omega, Nat.pow_zero, Nat.mul_one, Nat.pow_add, Nat.mul_assoc])
    obtain ⟨n, j, h1, h2⟩ := h
    exact ⟨n, j, h1, by rw [h2, Nat.pow_add, Nat.mul_assoc]⟩
/-- HELD AGAINST A SMALL INTEGER, rounded down in 64 bits or as it is. -/
theorem floor_below {t x : Nat} {X : Option Nat} (h : Fl .f32 t X) (hx : Fl .f64 x (fconv .f32 .f64 X)) (hX : Nk .f32 X) {n : Nat} (hn : n < 16777216) :
    ((∃ s m i, FloatKind.f64.decode x = .number s m i) ∨ ∃ s, FloatKind.f64.decode x = .infinity s) ∧
    (FloatKind.f64.format.order (floorw x) (floatOfInt .f64 (n : Int)) == some .lt) = flt32 X (some (mk n)) ∧
    (flt32 X (some (mk n)) = true → flo X < n ∧ floatToIntVal .f64 (floorw x) .i64 = some (flo X : Int) ∧ floatToIntVal .f32 t .i64 = some (flo X : Int)) := by
  have hX0 := hX
  obtain ⟨b, rfl, hp⟩ := hX
  obtain ⟨rfl, _⟩ := fl_some h.eq
  have hxw : x = wide b := by
    have h1 := hx.eq
    have h2 : fconv .f32 .f64 (some b) = some (wide b) := rfl
    rw [h2] at h1
    exact (fl_some h1).1.symm
  subst hxw
  obtain ⟨a, j, ha, hav⟩ := int_fin32 n hn
  obtain ⟨a', j', ha', hav'⟩ := int_fin64 n hn
  have holt := h.olt (fl_mk n)
  rcases shape .f32 b with ⟨s, m, e, k⟩ | ⟨s, hr, _, _⟩ | k
  · have hs : s = false := by rw [k.read] at hp; simpa [pls] using hp
    subst hs
    obtain ⟨m', e', k', hv'⟩ := k.wide
    obtain ⟨i, hi⟩ := floor_not_nan k'
    obtain ⟨f, g, kf, hf⟩ := floor_val k
    have hb1 : flt32 (some b) (some (mk n)) = decide (m * 2 ^ e / 2 ^ 149 < n) := by
      rw [← holt, k.order ha, sv_plus, sv_plus, cmp_lt, hav]
      congr 1
      rw [eq_iff_iff, Int.ofNat_lt, Nat.div_lt_iff_lt_mul (Nat.two_pow_pos _)]
    refine ⟨.inl ⟨_, _, _, hi⟩, ?_, fun hlt => ?_⟩
    · rw [kf.order ha', sv_plus, sv_plus, cmp_lt, hf, hav', hb1]
      have hpos : 0 < 2 ^ lp64 := Nat.two_pow_pos _
      generalize 2 ^ lp64 = D at hpos ⊢
      congr 1
      rw [eq_iff_iff, Int.ofNat_lt]
      exact ⟨fun h => Nat.lt_of_mul_lt_mul_right h, fun h => Nat.mul_lt_mul_of_pos_right h hpos⟩
    · have hle : fle32 (some b) (some (mk n)) = true := by
        unfold fle32; unfold flt32 at hlt; rw [hlt]; rfl
      have hge := nk_ge0 hX0
      refine ⟨?_, (flo_wide h hx hn hge hle).2, (flo_spec h hn hge hle).2.1⟩
      rw [hb1] at hlt
      rw [flo_fin k]
      exact of_decide_eq_true hlt
  · have hs : s = false := by rw [hr] at hp; simpa [pls] using hp
    subst hs
    have hw : FloatKind.f64.decode (wide b) = .infinity false := by
      have e1 : wide b = FloatKind.f64.format.write (FloatKind.f32.format.read b) := rfl
      rw [e1, hr]; decide +kernel
    have hfl : floorw (wide b) = FloatKind.f64.format.write (.infinity false) := by unfold floorw; rw [hw]; rfl
    have hb1 : flt32 (some b) (some (mk n)) = false := by
      rw [← holt]
      unfold Format.order
      rw [hr, ha.read]; rfl
    refine ⟨.inr ⟨_, hw⟩, ?_, fun hlt => by rw [hb1] at hlt; cases hlt⟩
    rw [hb1, hfl]
    unfold Format.order
    rw [show FloatKind.f64.format.read (FloatKind.f64.format.write (.infinity false)) = .infinity false from by decide +kernel, ha'.read]
    rfl
  · have := h.eq
    rw [k] at this; cases this
theorem fl_wide {t : Nat} {X : Option Nat} (h : Fl .f32 t X) (hX : Nk .f32 X) : Fl .f64 (wide t) (fconv .f32 .f64 X) := by
  obtain ⟨b, rfl, hp⟩ := hX
  obtain ⟨rfl, hn⟩ := fl_some h.eq
  exact ⟨encode_fl (k := .f64) hn, FloatKind.f64.format.write_lt _⟩
theorem below32 {t : Nat} {X : Option Nat} (h : Fl .f32 t X) (hX : Nk .f32 X) {n : Nat} (hn : n < 16777216) (hlt : flt32 X (some (mk n)) = true) : flo X < n ∧ floatToIntVal .f32 t .i64 = some (flo X : Int) := by
  obtain ⟨h1, _, h2⟩ := (floor_below h (fl_wide h hX) hX hn).2.2 hlt
  exact ⟨h1, h2⟩
end Go.Proofs.Ytkbkjkjjoogieaa
