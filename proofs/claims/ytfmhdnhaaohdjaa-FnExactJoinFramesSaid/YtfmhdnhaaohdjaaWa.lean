/- Whole parts of floats that are not below zero: cut and rounded down, the same. No condition but the bounds. -/
import Derived.Test.YtfmhdnhaaohdjaaPk
import Derived.Test.YtfmhdnhaaohdjaaTx
import Derived.Test.YtfmhdnhaaohdjaaRd2
namespace Go.Proofs.Ytfmhdnhaaohdjaa
open Go.RowKit Ieee

theorem cut_low (n d : Nat) : n / (1 <<< min d (n.log2 + 2)) = n / 2 ^ d := by
  by_cases h : d ≤ n.log2 + 2
  · rw [Nat.min_eq_left h, Nat.one_shiftLeft]
  · have hl : n < 2 ^ (n.log2 + 1) := Nat.lt_log2_self
    have h2 : 2 ^ (n.log2 + 2) = 2 * 2 ^ (n.log2 + 1) := by rw [Nat.pow_succ]; omega
    have h3 : 2 ^ (n.log2 + 2) ≤ 2 ^ d := Nat.pow_le_pow_right (by omega) (by omega)
    rw [Nat.min_eq_right (by omega), Nat.one_shiftLeft, Nat.div_eq_of_lt (show n < 2 ^ d by omega), Nat.div_eq_of_lt (show n < 2 ^ (n.log2 + 2) by omega)]
theorem cut_zero (s : Bool) (n d : Nat) : Toward.zero.cut s n d = n / 2 ^ d := by
  unfold Toward.cut; simp only [Bool.toNat_false, Nat.add_zero]; exact cut_low n d
theorem cut_down (s : Bool) (n d : Nat) (h : s = true → n = 0) : Toward.down.cut s n d = n / 2 ^ d := by
  unfold Toward.cut
  cases s
  · simp only [Bool.false_and, Bool.toNat_false, Nat.add_zero]; exact cut_low n d
  · rw [h rfl]; simp
theorem place_div (m e T : Nat) : (m <<< (-(T : Int) + (e : Int)).toNat) / 2 ^ (-(-(T : Int) + (e : Int))).toNat = m * 2 ^ e / 2 ^ T := by
  rw [Nat.shiftLeft_eq]
  rcases Nat.le_total T e with h | h
  · obtain ⟨u, rfl⟩ := Nat.exists_eq_add_of_le h
    rw [show (-(T : Int) + ((T + u : Nat) : Int)).toNat = u by omega, show (-(-(T : Int) + ((T + u : Nat) : Int))).toNat = 0 by omega, Nat.pow_zero, Nat.div_one]
    rw [show m * 2 ^ (T + u) = m * 2 ^ u * 2 ^ T by rw [Nat.pow_add]; ac_rfl]
    exact (Nat.mul_div_cancel _ (Nat.two_pow_pos T)).symm
  · obtain ⟨u, hu⟩ := Nat.exists_eq_add_of_le h
    subst hu
    rw [show (-((e + u : Nat) : Int) + (e : Int)).toNat = 0 by omega, show (-(-((e + u : Nat) : Int) + (e : Int))).toNat = u by omega, Nat.pow_zero, Nat.mul_one]
    rw [Nat.pow_add, Nat.mul_comm (2 ^ e) (2 ^ u)]
    exact (Nat.mul_div_mul_right _ _ (Nat.two_pow_pos e)).symm
theorem toInt_num (s : Bool) (m e T : Nat) : (Datum.number s m (-(T : Int) + (e : Int))).toInt .zero = some (signed s (m * 2 ^ e / 2 ^ T) 0) := by
  unfold Datum.toInt Datum.integral
  simp only [cut_zero, place_div]
theorem down_num (s : Bool) (m e T : Nat) (h : s = true → m = 0) : (Datum.number s m (-(T : Int) + (e : Int))).integral .down = .number s (m * 2 ^ e / 2 ^ T) 0 := by
  show Datum.number s (Toward.down.cut s (m <<< (-(T : Int) + (e : Int)).toNat) (-(-(T : Int) + (e : Int))).toNat) 0 = _
  rw [cut_down s _ _ (by intro hs; rw [h hs]; simp), place_div]
theorem signed_nat {s : Bool} {K : Nat} (h : s = true → K = 0) : signed s K 0 = (K : Int) := by
  unfold signed
  cases s
  · simp
  · simp [h rfl]
/-- A number that is not below zero, cut to a whole one. -/
theorem cut_i64 {k : FloatKind} {t : Nat} {s : Bool} {m e T K : Nat} (hT : k.format.leastPlace = -(T : Int)) (h : Fin_ k t s m e) (hs : s = true → m = 0) (hK : m * 2 ^ e / 2 ^ T = K) (hlt : K < 4611686018427387904) :
    floatToIntVal k t .i64 = some (K : Int) := by
  have hr : k.decode t = .number s m (-(T : Int) + (e : Int)) := by unfold FloatKind.decode; rw [h.read, hT]
  have hz : s = true → K = 0 := by intro hh; rw [← hK, hs hh, Nat.zero_mul, Nat.zero_div]
  unfold floatToIntVal
  rw [hr, toInt_num, hK, signed_nat hz]
  have h1 : IntKind.i64.min ≤ (K : Int) := by rw [show IntKind.i64.min = -9223372036854775808 from by decide]; omega
  have h2 : (K : Int) ≤ IntKind.i64.max := by rw [show IntKind.i64.max = 9223372036854775807 from by decide]; omega
  simp only [h1, h2, and_self, if_true]
/-- The whole part of a float of 32 bits that is not below zero. -/
def flo (X : Option Nat) : Nat := match X with
  | none => 0
  | some b => match FloatKind.f32.format.read b with
    | .number _ m i => m * 2 ^ (i + 149).toNat / 2 ^ 149
    | _ => 0
theorem flo_fin {t : Nat} {s : Bool} {m e : Nat} (h : Fin_ .f32 t s m e) : flo (some t) = m * 2 ^ e / 2 ^ 149 := by
  unfold flo
  simp only [h.read]
  rw [zleast, show (-149 + (e : Int) + 149).toNat = e by omega]
theorem int_fin32 (a : Nat) (ha : a < 16777216) : ∃ n j, Fin_ .f32 (mk a) false n j ∧ n * 2 ^ j = a * 2 ^ 149 := by
  by_cases h0 : a = 0
  · subst h0
    exact ⟨0, 0, by rw [show mk 0 = 0 from by decide +kernel]; exact fin_zero, by simp⟩
  · have hl : a.log2 < 24 := (Nat.log2_lt h0).2 ha
    refine ⟨_, _, int_word a h0 ha, ?_⟩
    rw [Nat.mul_assoc, ← Nat.pow_add]; congr 2; omega
theorem sv_plus (m e : Nat) : sv false m e = ((m * 2 ^ e : Nat) : Int) := by unfold sv; simp
theorem sv_minus (m e : Nat) : sv true m e = -((m * 2 ^ e : Nat) : Int) := by unfold sv; simp
theorem cmp_gt (x y : Int) : (compare x y = .gt) ↔ y < x := by
  rw [cmp_eq]
  by_cases h1 : x < y
  · rw [if_pos h1]; constructor
    · intro h; cases h
    · intro h; omega
  · rw [if_neg h1]
    by_cases h2 : x = y
    · rw [if_pos h2]; constructor
      · intro h; cases h
      · intro h; omega
    · rw [if_neg h2]; constructor
      · intro _; omega
      · intro _; rfl
theorem cmp_is_eq (x y : Int) : (compare x y = .eq) ↔ x = y := by
  rw [cmp_eq]
  by_cases h1 : x < y
  · rw [if_pos h1]; constructor
    · intro h; cases h
    · intro h; omega
  · rw [if_neg h1]
    by_cases h2 : x = y
    · rw [if_pos h2]; exact ⟨fun _ => h2, fun _ => rfl⟩
    · rw [if_neg h2]; constructor
      · intro h; cases h
      · intro h; exact absurd h h2
/-- A float between zero and a whole number: its parts. -/
theorem between_parts {t : Nat} {X : Option Nat} (h : Fl .f32 t X) {a : Nat} (ha : a < 16777216) (hg : ge0 X = true) (hl : fle32 X (some (mk a)) = true) :
    ∃ s m e, Fin_ .f32 t s m e ∧ X = some t ∧ (s = true → m = 0) ∧ m * 2 ^ e ≤ a * 2 ^ 149 := by
  obtain ⟨n, j, hn, hv⟩ := int_fin32 a ha
  have hX := h.eq
  have hmk : fl .f32 (mk a) = some (mk a) := mk_fl a
  have o1 : FloatKind.f32.format.order t 0 = ford .f32 X fz := h.order fl_fz
  have o2 : FloatKind.f32.format.order t (mk a) = ford .f32 X (some (mk a)) := h.order (fl_mk a)
  unfold ge0 at hg
  unfold fle32 at hl
  rw [← o1] at hg
  rw [← o2] at hl
  rcases shape .f32 t with ⟨s, m, e, k⟩ | ⟨s, hr, _, _⟩ | k
  · refine ⟨s, m, e, k, by rw [← hX, k.fl], ?_, ?_⟩
    · intro hs
      subst hs
      rw [k.order fin_zero] at hg
      rw [sv_minus, sv_plus] at hg
      have hp := Nat.two_pow_pos e
      rcases Nat.eq_zero_or_pos m with h0 | h0
      · exact h0
      · exfalso
        have := Nat.mul_pos h0 hp
        rw [Bool.or_eq_true, beq_iff_eq, beq_iff_eq, Option.some.injEq, Option.some.injEq, cmp_gt, cmp_is_eq] at hg
        omega
    · rw [k.order hn] at hl
      cases s
      · rw [sv_plus, sv_plus, hv] at hl
        rw [cmp_eq] at hl
        by_cases h1 : m * 2 ^ e ≤ a * 2 ^ 149
        · exact h1
        · exfalso
          rw [if_neg (by omega), if_neg (by omega)] at hl
          cases hl
      · rw [k.order fin_zero] at hg
        rw [sv_minus, sv_plus] at hg
        rw [Bool.or_eq_true, beq_iff_eq, beq_iff_eq, Option.some.injEq, Option.some.injEq, cmp_gt, cmp_is_eq] at hg
        omega
  · exfalso
    cases s
    · rw [show FloatKind.f32.format.order t (mk a) = some .gt from by unfold Format.order; rw [hr, hn.read]; rfl] at hl
      cases hl
    · rw [show FloatKind.f32.format.order t 0 = some .lt from by unfold Format.order; rw [hr, fin_zero.read]; rfl] at hg
      cases hg
  · exfalso
    rw [o1, ← hX, k] at hg
    cases hg
/-- THE WHOLE PART of a float between zero and a whole number a: at most a, and less where something is left. -/
theorem flo_spec {t : Nat} {X : Option Nat} (h : Fl .f32 t X) {a : Nat} (ha : a < 16777216) (hg : ge0 X = true) (hl : fle32 X (some (mk a)) = true) :
    flo X ≤ a ∧ floatToIntVal .f32 t .i64 = some (flo X : Int) ∧ (fzero32 (fop .sub .f32 X (some (mk (flo X)))) = false → flo X < a) ∧ X ≠ none := by
  obtain ⟨s, m, e, k, hX, hs, hv⟩ := between_parts h ha hg hl
  have hf : flo X = m * 2 ^ e / 2 ^ 149 := by rw [hX, flo_fin k]
  have hle : flo X ≤ a := by
    rw [hf]
    have : a * 2 ^ 149 / 2 ^ 149 = a := Nat.mul_div_cancel _ (Nat.two_pow_pos _)
    calc m * 2 ^ e / 2 ^ 149 ≤ a * 2 ^ 149 / 2 ^ 149 := Nat.div_le_div_right hv
      _ = a := this
  refine ⟨hle, ?_, ?_, by rw [hX]; simp⟩
  · exact cut_i64 (T := 149) zleast k hs hf.symm (by omega)
  · intro hz
    rcases Nat.lt_or_ge (flo X) a with h1 | h1
    · exact h1
    · exfalso
      have he : flo X = a := Nat.le_antisymm hle h1
      rw [he] at hz hf
      have hge : a * 2 ^ 149 ≤ m * 2 ^ e := by rw [hf]; exact Nat.div_mul_le_self _ _
      have heq : m * 2 ^ e = a * 2 ^ 149 := Nat.le_antisymm hv hge
      obtain ⟨n, j, hn, hw⟩ := int_fin32 a ha
      cases s
      · have r1 := value_rung k.lt k.low hn.lt hn.low (by rw [heq, hw]; exact Nat.le_refl _)
        have r2 := value_rung hn.lt hn.low k.lt k.low (by rw [heq, hw]; exact Nat.le_refl _)
        rw [bin32] at r1 r2
        have w1 := word32 k h.lt
        have w2 := word32 hn (mk_lt a)
        have ht : t = mk a := by
          simp only [Bool.false_eq_true, if_false] at w1 w2
          omega
        rw [hX, ← ht] at hz
        have hss := sub_self .f32 t
        rw [k.ffin, k.fl] at hss
        rw [hss] at hz
        revert hz; decide +kernel
      · have hm := hs rfl
        subst hm
        have h00 : a = 0 := by
          rw [Nat.zero_mul] at heq
          rcases Nat.mul_eq_zero.1 heq.symm with h2 | h2
          · exact h2
          · exact absurd h2 (Nat.pos_iff_ne_zero.1 (Nat.two_pow_pos _))
        have he0 : e = 0 := by
          rcases k.low with h2 | h2
          · exact h2
          · rw [bin32] at h2; omega
        have w1 := word32 k h.lt
        rw [he0] at w1
        simp only [if_true, Nat.zero_mul, Nat.add_zero] at w1
        rw [hX, w1, h00] at hz
        revert hz; decide +kernel
/-- A 64-bit float, rounded down. -/
def floorw (x : Nat) : Nat := FloatKind.f64.encode ((FloatKind.f64.decode x).integral .down)
theorem floor_fin {T : Nat} (hT : T = 1074) {x : Nat} {s : Bool} {m e : Nat} (h : Fin_ .f64 x s m e) (hs : s = true → m = 0) (hK : m * 2 ^ e / 2 ^ T < 9007199254740992) :
    ∃ n j, Fin_ .f64 (floorw x) s n j ∧ n * 2 ^ j = m * 2 ^ e / 2 ^ T * 2 ^ T := by
  have hl : FloatKind.f64.format.leastPlace = -(T : Int) := by rw [least64, hT]; rfl
  have hr : FloatKind.f64.decode x = .number s m (-(T : Int) + (e : Int)) := by unfold FloatKind.decode; rw [h.read, hl]
  unfold floorw
  rw [hr, down_num s m e T hs]
  generalize m * 2 ^ e / 2 ^ T = K at hK ⊢
  have := near_few .f64 s (mag := K) (place := 0) (N := K) (b := T) (by rw [bin64]; omega) (by rw [hT, bin64, inf64]; decide) (by
    rw [hl, show ((0 : Int) - -(T : Int)).toNat = T by omega, show (-(T : Int) - 0).toNat = 0 by omega, Nat.pow_zero, Nat.mul_one])
  exact this
theorem floor_not_nan {x : Nat} {s : Bool} {m e : Nat} (h : Fin_ .f64 x s m e) : ∃ i, FloatKind.f64.decode x = .number s m i := ⟨_, by unfold FloatKind.decode; exact h.read⟩
/-- THE SAME FROM 64 BITS, ROUNDED DOWN. -/
theorem flo_wide {t x : Nat} {X : Option Nat} (h : Fl .f32 t X) (hx : Fl .f64 x (fconv .f32 .f64 X)) {a : Nat} (ha : a < 16777216) (hg : ge0 X = true) (hl : fle32 X (some (mk a)) = true) :
    (∃ s m i, FloatKind.f64.decode x = .number s m i) ∧ floatToIntVal .f64 (floorw x) .i64 = some (flo X : Int) := by
  obtain ⟨T, hT⟩ : ∃ T : Nat, T = 1074 := ⟨_, rfl⟩
  obtain ⟨s, m, e, k, hX, hs, hv⟩ := between_parts h ha hg hl
  have hle := (flo_spec h ha hg hl).1
  have hf : flo X = m * 2 ^ e / 2 ^ 149 := by rw [hX, flo_fin k]
  obtain ⟨m', e', k', hv'⟩ := k.wide
  have hxw : x = wide t := by
    have h1 := hx.eq
    rw [hX] at h1
    have h2 : fconv .f32 .f64 (some t) = some (wide t) := rfl
    rw [h2] at h1
    exact (fl_some h1).1.symm
  subst hxw
  obtain ⟨D, hD⟩ : ∃ D : Nat, D = 925 := ⟨_, rfl⟩
  rw [← hD] at hv'
  have hTD : T = 149 + D := by omega
  have hd : m' * 2 ^ e' / 2 ^ T = flo X := by
    rw [hv', hf, hTD, Nat.pow_add, Nat.pow_add, ← Nat.mul_assoc]
    exact Nat.mul_div_mul_right _ _ (Nat.two_pow_pos _)
  have hs' : s = true → m' = 0 := by
    intro hh
    rw [hs hh, Nat.zero_mul] at hv'
    rcases Nat.mul_eq_zero.1 hv' with h2 | h2
    · exact h2
    · exact absurd h2 (Nat.pos_iff_ne_zero.1 (Nat.two_pow_pos _))
  obtain ⟨n, j, kf, hn⟩ := floor_fin hT k' hs' (by rw [hd]; omega)
  obtain ⟨i, hi⟩ := floor_not_nan k'
  refine ⟨⟨_, _, _, hi⟩, cut_i64 (T := T) (by rw [least64, hT]; rfl) kf ?_ ?_ (show flo X < _ by omega)⟩
  · intro hh
    have h0 := hs' hh
    rw [h0, Nat.zero_mul, Nat.zero_div, Nat.zero_mul] at hn
    rcases Nat.mul_eq_zero.1 hn with h2 | h2
    · exact h2
    · exact absurd h2 (Nat.pos_iff_ne_zero.1 (Nat.two_pow_pos _))
  · rw [hn, hd]; exact Nat.mul_div_cancel _ (Nat.two_pow_pos _)
end Go.Proofs.Ytfmhdnhaaohdjaa
