/- Rounding is monotone: what lies between two numbers of the format is rounded to what lies between them. No condition but the bounds. -/
import Derived.Test.YtfmhdnhaaohdjaaBd
namespace Go.Proofs.Ytfmhdnhaaohdjaa
open Ieee

/-- The rung to which a magnitude is rounded. -/
def rg (f : Format) (mag : Nat) (place : Int) : Nat :=
  if mag = 0 then 0 else
  min ((max (place + mag.log2 - f.fractionBits) f.leastPlace - f.leastPlace).toNat * f.binade + Toward.even.cut false (mag <<< (place - max (place + mag.log2 - f.fractionBits) f.leastPlace).toNat) (max (place + mag.log2 - f.fractionBits) f.leastPlace - place).toNat) f.infRung

theorem cut_sign (neg : Bool) (n d : Nat) : Toward.even.cut neg n d = Toward.even.cut false n d := rfl
theorem nearest_rg (f : Format) (neg : Bool) (mag : Nat) (place : Int) : f.nearest neg mag place = f.word neg (rg f mag place) := by
  unfold Format.nearest rg
  by_cases h : mag = 0
  · rw [if_pos h, if_pos h]
  · rw [if_neg h, if_neg h]; rfl

theorem cut_le {neg : Bool} {n d K : Nat} (h : n ≤ K * 2 ^ d) : Toward.even.cut neg n d ≤ K := by
  rcases Nat.lt_or_ge n (K * 2 ^ d) with hl | hg
  · have := (cut_spec neg n d).2
    have : n / 2 ^ d < K := (Nat.div_lt_iff_lt_mul (Nat.two_pow_pos _)).2 hl
    omega
  · have : n = K * 2 ^ d := by omega
    rw [this, cut_exact]; exact Nat.le_refl _
theorem cut_ge {neg : Bool} {n d K : Nat} (h : K * 2 ^ d ≤ n) : K ≤ Toward.even.cut neg n d :=
  Nat.le_trans ((Nat.le_div_iff_mul_le (Nat.two_pow_pos _)).2 h) (cut_spec neg n d).1

theorem div_pows {a b P Q u D : Nat} (h : a * 2 ^ P ≤ b * 2 ^ Q) (hu : P + D = Q + u) (h0 : u = 0 ∨ D = 0) : a * 2 ^ u ≤ b * 2 ^ D := by
  rcases h0 with rfl | rfl
  · rw [Nat.pow_zero, Nat.mul_one]
    rw [show Q = D + P by omega, Nat.pow_add, ← Nat.mul_assoc] at h
    exact Nat.le_of_mul_le_mul_right h (Nat.two_pow_pos P)
  · rw [Nat.pow_zero, Nat.mul_one]
    rw [show P = u + Q by omega, Nat.pow_add, ← Nat.mul_assoc] at h
    exact Nat.le_of_mul_le_mul_right h (Nat.two_pow_pos Q)

/-- What the rounding of a number that is not zero is made of. -/
theorem rg_parts (f : Format) {mag : Nat} (place : Int) (h0 : mag ≠ 0) : ∃ (G e u D P Q : Nat) (kept : Nat), rg f mag place = min (e * f.binade + kept) f.infRung ∧
    2 ^ G ≤ mag ∧ mag < 2 ^ (G + 1) ∧ (place - f.leastPlace).toNat = P ∧ (f.leastPlace - place).toNat = Q ∧ (P = 0 ∨ Q = 0) ∧ (u = 0 ∨ D = 0) ∧ P + D = Q + e + u ∧
    kept = Toward.even.cut false (mag * 2 ^ u) D ∧ G + P ≤ Q + e + f.fractionBits ∧ (e = 0 ∨ G + P = Q + e + f.fractionBits) := by
  obtain ⟨e, he⟩ : ∃ e : Nat, max (place + (mag.log2 : Int) - (f.fractionBits : Int)) f.leastPlace = f.leastPlace + (e : Int) := ⟨(max (place + (mag.log2 : Int) - (f.fractionBits : Int)) f.leastPlace - f.leastPlace).toNat, by omega⟩
  refine ⟨mag.log2, e, (place - (f.leastPlace + (e : Int))).toNat, (f.leastPlace + (e : Int) - place).toNat, _, _, _, ?_, (Nat.le_log2 h0 (k := mag.log2)).1 (Nat.le_refl _), Nat.lt_log2_self, rfl, rfl, by omega, by omega, by omega, rfl, by omega, by omega⟩
  unfold rg
  rw [if_neg h0, he, Nat.shiftLeft_eq, show (f.leastPlace + (e : Int) - f.leastPlace).toNat = e by omega]

theorem bin_pow (f : Format) : f.binade = 2 ^ f.fractionBits := rfl

/-- ROUNDING DOES NOT PASS A NUMBER OF THE FORMAT FROM BELOW. -/
theorem rg_le (f : Format) {mag : Nat} {place : Int} {K E : Nat} (hK : K < 2 * f.binade) (hE : E = 0 ∨ f.binade ≤ K)
    (h : mag * 2 ^ (place - f.leastPlace).toNat ≤ K * 2 ^ E * 2 ^ (f.leastPlace - place).toNat) : rg f mag place ≤ E * f.binade + K := by
  by_cases h0 : mag = 0
  · unfold rg; rw [if_pos h0]; exact Nat.zero_le _
  · obtain ⟨G, e, u, D, P, Q, kept, hr, hG0, hG1, hP, hQ, hPQ, huD, hs, hk, hle, heq⟩ := rg_parts f place h0
    rw [hP, hQ, Nat.mul_assoc, ← Nat.pow_add] at h
    rw [hr]
    refine Nat.le_trans (Nat.min_le_left _ _) ?_
    have hB := bin_pow f
    have hBpos : 0 < f.binade := by rw [hB]; exact Nat.two_pow_pos _
    generalize f.binade = B at *
    generalize f.fractionBits = q at *
    have heE : e ≤ E := by
      rcases heq with rfl | heq
      · exact Nat.zero_le _
      · have h1 : 2 ^ (G + P) ≤ mag * 2 ^ P := by rw [Nat.pow_add]; exact Nat.mul_le_mul_right _ hG0
        have h2 : K * 2 ^ (E + Q) < 2 ^ (q + 1 + (E + Q)) := by
          rw [Nat.pow_add 2 (q + 1)]
          refine Nat.mul_lt_mul_of_pos_right ?_ (Nat.two_pow_pos _)
          rw [Nat.pow_succ']; omega
        have h3 : G + P < q + 1 + (E + Q) := (Nat.pow_lt_pow_iff_right (by omega)).1 (Nat.lt_of_le_of_lt (Nat.le_trans h1 h) h2)
        omega
    rcases Nat.lt_or_eq_of_le heE with hlt | rfl
    · have hkB : B ≤ K := by omega
      have hk2 : kept ≤ 2 * B := by
        rw [hk]
        refine cut_le ?_
        rw [hB, ← Nat.pow_succ', ← Nat.pow_add]
        refine Nat.le_trans (Nat.le_of_lt (Nat.mul_lt_mul_of_pos_right hG1 (Nat.two_pow_pos _))) ?_
        rw [← Nat.pow_add]
        exact Nat.pow_le_pow_right (by omega) (by omega)
      have h1 : (e + 1) * B ≤ E * B := Nat.mul_le_mul_right _ hlt
      rw [Nat.add_mul, Nat.one_mul] at h1
      omega
    · have : kept ≤ K := by
        rw [hk]
        exact cut_le (div_pows h (by omega) huD)
      omega

/-- ROUNDING DOES NOT PASS A NUMBER OF THE FORMAT FROM ABOVE. -/
theorem rg_ge (f : Format) {mag : Nat} {place : Int} {K E : Nat} (hK : K < 2 * f.binade) (hE : E = 0 ∨ f.binade ≤ K) (hi : E * f.binade + K ≤ f.infRung)
    (h : K * 2 ^ E * 2 ^ (f.leastPlace - place).toNat ≤ mag * 2 ^ (place - f.leastPlace).toNat) : E * f.binade + K ≤ rg f mag place := by
  have hB := bin_pow f
  have hBpos : 0 < f.binade := by rw [hB]; exact Nat.two_pow_pos _
  by_cases hK0 : K = 0
  · have : E = 0 := by omega
    subst this; subst hK0; simp
  · have h0 : mag ≠ 0 := by
      rintro rfl
      rw [Nat.zero_mul] at h
      have h1 : 0 < K * 2 ^ E * 2 ^ (f.leastPlace - place).toNat := Nat.mul_pos (Nat.mul_pos (by omega) (Nat.two_pow_pos _)) (Nat.two_pow_pos _)
      omega
    obtain ⟨G, e, u, D, P, Q, kept, hr, hG0, hG1, hP, hQ, hPQ, huD, hs, hk, hle, heq⟩ := rg_parts f place h0
    rw [hP, hQ, Nat.mul_assoc, ← Nat.pow_add] at h
    rw [hr]
    refine Nat.le_min.2 ⟨?_, hi⟩
    generalize f.binade = B at *
    generalize f.fractionBits = q at *
    have heE : E ≤ e := by
      rcases hE with rfl | hKB
      · exact Nat.zero_le _
      · have h1 : mag * 2 ^ P < 2 ^ (G + 1 + P) := by rw [Nat.pow_add]; exact Nat.mul_lt_mul_of_pos_right hG1 (Nat.two_pow_pos _)
        have h2 : 2 ^ (q + (E + Q)) ≤ K * 2 ^ (E + Q) := by
          rw [Nat.pow_add 2 q]
          exact Nat.mul_le_mul_right _ (by rw [← hB]; exact hKB)
        have h3 : q + (E + Q) < G + 1 + P := (Nat.pow_lt_pow_iff_right (by omega)).1 (Nat.lt_of_le_of_lt (Nat.le_trans h2 h) h1)
        omega
    rcases Nat.lt_or_eq_of_le heE with hlt | rfl
    · have heq' : G + P = Q + e + q := by omega
      have hk2 : B ≤ kept := by
        rw [hk]
        refine cut_ge ?_
        rw [hB, ← Nat.pow_add]
        refine Nat.le_trans ?_ (Nat.mul_le_mul_right _ hG0)
        rw [← Nat.pow_add]
        exact Nat.pow_le_pow_right (by omega) (by omega)
      have h1 : (E + 1) * B ≤ e * B := Nat.mul_le_mul_right _ hlt
      rw [Nat.add_mul, Nat.one_mul] at h1
      omega
    · have : K ≤ kept := by
        rw [hk]
        exact cut_ge (div_pows h (by omega) (by omega))
      omega

/-- The order of rungs is that of values. -/
theorem rung_value {B K E m e : Nat} (hK : K < 2 * B) (hE : E = 0 ∨ B ≤ K) (hm : m < 2 * B) (he : e = 0 ∨ B ≤ m) (h : E * B + K ≤ e * B + m) : K * 2 ^ E ≤ m * 2 ^ e := by
  rcases Nat.lt_trichotomy E e with hl | rfl | hg
  · have hmB : B ≤ m := by omega
    have h1 : K * 2 ^ E ≤ 2 * B * 2 ^ E := Nat.mul_le_mul_right _ (by omega)
    have h2 : 2 * B * 2 ^ E = B * 2 ^ (E + 1) := by rw [Nat.pow_succ]; ac_rfl
    have h3 : B * 2 ^ (E + 1) ≤ m * 2 ^ e := Nat.mul_le_mul hmB (Nat.pow_le_pow_right (by omega) hl)
    omega
  · exact Nat.mul_le_mul_right _ (by omega)
  · have hKB : B ≤ K := by omega
    have h1 : (e + 1) * B ≤ E * B := Nat.mul_le_mul_right _ hg
    rw [Nat.add_mul, Nat.one_mul] at h1
    have h2 : m = 2 * B := by omega
    omega

/-- The order of values is that of rungs. -/
theorem value_rung {B K E m e : Nat} (hK : K < 2 * B) (hE : E = 0 ∨ B ≤ K) (hm : m < 2 * B) (he : e = 0 ∨ B ≤ m) (h : K * 2 ^ E ≤ m * 2 ^ e) : E * B + K ≤ e * B + m := by
  rcases Nat.lt_trichotomy e E with hl | rfl | hg
  · exfalso
    have hKB : B ≤ K := by omega
    have h1 : m * 2 ^ e < 2 * B * 2 ^ e := Nat.mul_lt_mul_of_pos_right hm (Nat.two_pow_pos _)
    have h2 : 2 * B * 2 ^ e = B * 2 ^ (e + 1) := by rw [Nat.pow_succ]; ac_rfl
    have h3 : B * 2 ^ (e + 1) ≤ K * 2 ^ E := Nat.mul_le_mul hKB (Nat.pow_le_pow_right (by omega) hl)
    omega
  · have := Nat.le_of_mul_le_mul_right h (Nat.two_pow_pos e)
    omega
  · have hmB : B ≤ m := by omega
    have h1 : (E + 1) * B ≤ e * B := Nat.mul_le_mul_right _ hg
    rw [Nat.add_mul, Nat.one_mul] at h1
    omega

/-- A rung below infinity, in the canonical form. -/
theorem rung_form {B r : Nat} (hB : 0 < B) : ∃ m e, r = e * B + m ∧ m < 2 * B ∧ (e = 0 ∨ B ≤ m) := by
  by_cases h : r < 2 * B
  · exact ⟨r, 0, by omega, h, Or.inl rfl⟩
  · have hd := Nat.div_add_mod r B
    have hm := Nat.mod_lt r hB
    have h2 : 2 ≤ r / B := (Nat.le_div_iff_mul_le hB).2 (by omega)
    refine ⟨B + r % B, r / B - 1, ?_, by omega, Or.inr (by omega)⟩
    have : (r / B - 1) * B + B = B * (r / B) := by
      rw [← Nat.succ_mul, Nat.mul_comm]; congr 1; omega
    omega

/-- WHAT IS ROUNDED LIES WHERE IT LAY: between two numbers of the format. -/
theorem near_between (k : FloatKind) (s : Bool) {mag : Nat} {place : Int} {K E K' E' : Nat} (hK : K < 2 * k.format.binade) (hE : E = 0 ∨ k.format.binade ≤ K) (hK' : K' < 2 * k.format.binade) (hE' : E' = 0 ∨ k.format.binade ≤ K') (hi : E' * k.format.binade + K' < k.format.infRung)
    (h : K * 2 ^ E * 2 ^ (k.format.leastPlace - place).toNat ≤ mag * 2 ^ (place - k.format.leastPlace).toNat)
    (h' : mag * 2 ^ (place - k.format.leastPlace).toNat ≤ K' * 2 ^ E' * 2 ^ (k.format.leastPlace - place).toNat) :
    ∃ m e, Fin_ k (k.format.nearest s mag place) s m e ∧ K * 2 ^ E ≤ m * 2 ^ e ∧ m * 2 ^ e ≤ K' * 2 ^ E' := by
  have hB : 0 < k.format.binade := by rw [bin_pow]; exact Nat.two_pow_pos _
  have hKK : K * 2 ^ E ≤ K' * 2 ^ E' := Nat.le_of_mul_le_mul_right (Nat.le_trans h h') (Nat.two_pow_pos _)
  have h2 := rg_le k.format hK' hE' h'
  rw [nearest_rg]
  obtain ⟨m, e, hr, hm, he⟩ := rung_form (r := rg k.format mag place) hB
  have hlow : E * k.format.binade + K ≤ k.format.infRung := Nat.le_trans (value_rung hK hE hK' hE' hKK) (Nat.le_of_lt hi)
  have h1 := rg_ge k.format hK hE hlow h
  rw [hr] at h1 h2 ⊢
  exact ⟨m, e, Fin_.of_word k s m e hm he (by omega), rung_value hK hE hm he h1, rung_value hm he hK' hE' h2⟩

/-- What a number of the format is rounded to: itself. -/
theorem near_self (k : FloatKind) (s : Bool) {mag : Nat} {place : Int} {K E : Nat} (hK : K < 2 * k.format.binade) (hE : E = 0 ∨ k.format.binade ≤ K) (hi : E * k.format.binade + K < k.format.infRung)
    (h : mag * 2 ^ (place - k.format.leastPlace).toNat = K * 2 ^ E * 2 ^ (k.format.leastPlace - place).toNat) :
    k.format.nearest s mag place = k.format.word s (E * k.format.binade + K) := by
  rw [nearest_rg]
  have h1 := rg_le k.format hK hE (Nat.le_of_eq h)
  have h2 := rg_ge k.format hK hE (Nat.le_of_lt hi) (Nat.le_of_eq h.symm)
  congr 1; omega
end Go.Proofs.Ytfmhdnhaaohdjaa
