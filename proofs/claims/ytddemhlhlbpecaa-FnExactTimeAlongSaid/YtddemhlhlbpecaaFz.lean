/- Whole parts of floats of either sign: rounded down, and then cut. No condition but the bounds. -/
import Derived.Test.YtddemhlhlbpecaaWa
namespace Go.Proofs.Ytddemhlhlbpecaa
open Go.RowKit Ieee

/-- A quotient, rounded up. -/
def cl (n g : Nat) : Nat := n / g + (n % g != 0).toNat
theorem cut_up (n d : Nat) : Toward.down.cut true n d = cl n (2 ^ d) := by
  have h0 : Toward.down.cut true n d = n / (1 <<< min d (n.log2 + 2)) + (true && (n % (1 <<< min d (n.log2 + 2)) != 0)).toNat := rfl
  rw [h0, Bool.true_and]
  by_cases h : d ≤ n.log2 + 2
  · rw [Nat.min_eq_left h, Nat.one_shiftLeft]; rfl
  · have hl : n < 2 ^ (n.log2 + 1) := Nat.lt_log2_self
    have h2 : 2 ^ (n.log2 + 2) = 2 * 2 ^ (n.log2 + 1) := by rw [Nat.pow_succ]; omega
    have h3 : 2 ^ (n.log2 + 2) ≤ 2 ^ d := Nat.pow_le_pow_right (by omega) (by omega)
    have h4 : n < 2 ^ (n.log2 + 2) := by omega
    have h5 : n < 2 ^ d := Nat.lt_of_lt_of_le h4 h3
    rw [Nat.min_eq_right (by omega), Nat.one_shiftLeft]
    unfold cl
    rw [Nat.div_eq_of_lt h4, Nat.mod_eq_of_lt h4, Nat.div_eq_of_lt h5, Nat.mod_eq_of_lt h5]
theorem cl_scale (n g c : Nat) (hc : 0 < c) : cl (n * c) (g * c) = cl n g := by
  unfold cl
  rw [Nat.mul_div_mul_right _ _ hc, Nat.mul_mod_mul_right]
  congr 2
  by_cases h : n % g = 0
  · rw [h, Nat.zero_mul]
  · have h2 : n % g * c ≠ 0 := Nat.mul_ne_zero h (by omega)
    rw [bne_iff_ne.2 h, bne_iff_ne.2 h2]
theorem cl_one (n : Nat) : cl n 1 = n := by unfold cl; rw [Nat.div_one, Nat.mod_one]; rfl
theorem cl_place (m e T : Nat) : cl (m <<< (-(T : Int) + (e : Int)).toNat) (2 ^ (-(-(T : Int) + (e : Int))).toNat) = cl (m * 2 ^ e) (2 ^ T) := by
  rw [Nat.shiftLeft_eq]
  rcases Nat.le_total T e with h | h
  · obtain ⟨u, rfl⟩ := Nat.exists_eq_add_of_le h
    rw [show (-(T : Int) + ((T + u : Nat) : Int)).toNat = u by omega, show (-(-(T : Int) + ((T + u : Nat) : Int))).toNat = 0 by omega, Nat.pow_zero]
    rw [show m * 2 ^ (T + u) = m * 2 ^ u * 2 ^ T by rw [Nat.pow_add]; ac_rfl]
    have := cl_scale (m * 2 ^ u) 1 (2 ^ T) (Nat.two_pow_pos T)
    rw [Nat.one_mul] at this
    exact this.symm
  · obtain ⟨u, hu⟩ := Nat.exists_eq_add_of_le h
    subst hu
    rw [show (-((e + u : Nat) : Int) + (e : Int)).toNat = 0 by omega, show (-(-((e + u : Nat) : Int) + (e : Int))).toNat = u by omega, Nat.pow_zero, Nat.mul_one]
    rw [Nat.pow_add, Nat.mul_comm (2 ^ e) (2 ^ u)]
    exact (cl_scale m (2 ^ u) (2 ^ e) (Nat.two_pow_pos e)).symm
theorem cl_le (n g : Nat) : cl n g ≤ n / g + 1 := by
  unfold cl
  cases (n % g != 0) <;> simp
/-- The size of a number that is rounded down. -/
def szd (s : Bool) (n g : Nat) : Nat := if s then cl n g else n / g
theorem szd_le (s : Bool) (n g : Nat) : szd s n g ≤ n / g + 1 := by
  unfold szd
  cases s
  · simp
  · simpa using cl_le n g
theorem down_any (s : Bool) (m e T : Nat) : (Datum.number s m (-(T : Int) + (e : Int))).integral .down = .number s (szd s (m * 2 ^ e) (2 ^ T)) 0 := by
  show Datum.number s (Toward.down.cut s (m <<< (-(T : Int) + (e : Int)).toNat) (-(-(T : Int) + (e : Int))).toNat) 0 = _
  unfold szd
  cases s
  · rw [cut_down false _ _ (by intro hs; exact absurd hs (by decide)), place_div]; rfl
  · rw [cut_up, cl_place]; rfl
theorem floor_any {T : Nat} (hT : T = 1074) {x : Nat} {s : Bool} {m e : Nat} (h : Fin_ .f64 x s m e) (hK : szd s (m * 2 ^ e) (2 ^ T) < 9007199254740992) :
    ∃ n j, Fin_ .f64 (floorw x) s n j ∧ n * 2 ^ j = szd s (m * 2 ^ e) (2 ^ T) * 2 ^ T := by
  have hl : FloatKind.f64.format.leastPlace = -(T : Int) := by rw [least64, hT]; rfl
  have hr : FloatKind.f64.decode x = .number s m (-(T : Int) + (e : Int)) := by unfold FloatKind.decode; rw [h.read, hl]
  unfold floorw
  rw [hr, down_any s m e T]
  generalize szd s (m * 2 ^ e) (2 ^ T) = K at hK ⊢
  have := near_few .f64 s (mag := K) (place := 0) (N := K) (b := T) (by rw [bin64]; omega) (by rw [hT, bin64, inf64]; decide) (by
    rw [hl, show ((0 : Int) - -(T : Int)).toNat = T by omega, show (-(T : Int) - 0).toNat = 0 by omega, Nat.pow_zero, Nat.mul_one])
  exact this
theorem signed_any (s : Bool) (K : Nat) : signed s K 0 = if s then -(K : Int) else (K : Int) := by
  unfold signed; cases s <;> simp
/-- A number of either sign, cut to a whole one. -/
theorem cut_any {k : FloatKind} {t : Nat} {s : Bool} {m e T K : Nat} (hT : k.format.leastPlace = -(T : Int)) (h : Fin_ k t s m e) (hK : m * 2 ^ e / 2 ^ T = K) (hlt : K < 4611686018427387904) :
    floatToIntVal k t .i64 = some (if s then -(K : Int) else (K : Int)) := by
  have hr : k.decode t = .number s m (-(T : Int) + (e : Int)) := by unfold FloatKind.decode; rw [h.read, hT]
  unfold floatToIntVal
  rw [hr, toInt_num, hK, signed_any]
  generalize hI : (if s = true then -(K : Int) else (K : Int)) = I
  have hb : -4611686018427387904 < I ∧ I < 4611686018427387904 := by subst hI; cases s <;> simp <;> omega
  have h1 : IntKind.i64.min ≤ I := by rw [show IntKind.i64.min = -9223372036854775808 from by decide]; omega
  have h2 : I ≤ IntKind.i64.max := by rw [show IntKind.i64.max = 9223372036854775807 from by decide]; omega
  simp only [h1, h2, and_self, if_true]
/-- A float of 32 bits, rounded down. -/
def flr (X : Option Nat) : Int := match X with
  | none => 0
  | some b => match FloatKind.f32.format.read b with
    | .number s m i => if s then -(szd s (m * 2 ^ (i + 149).toNat) (2 ^ 149) : Int) else (szd s (m * 2 ^ (i + 149).toNat) (2 ^ 149) : Int)
    | _ => 0
theorem flr_fin {t : Nat} {s : Bool} {m e : Nat} (h : Fin_ .f32 t s m e) : flr (some t) = if s then -(szd s (m * 2 ^ e) (2 ^ 149) : Int) else (szd s (m * 2 ^ e) (2 ^ 149) : Int) := by
  have h1 := h.read
  have h2 : FloatKind.f32.format.leastPlace = -149 := rfl
  unfold flr
  dsimp only
  rw [h1, h2]
  simp only [show ((-149 : Int) + (e : Int) + 149).toNat = e by omega]
/-- ROUNDED DOWN IN 64 BITS AND CUT. -/
theorem flr_wide {t x : Nat} {X : Option Nat} {s : Bool} {m e : Nat} (k : Fin_ .f32 t s m e) (hX : X = some t) (hx : Fl .f64 x (fconv .f32 .f64 X)) (hb : m * 2 ^ e / 2 ^ 149 < 1073741824) :
    (∃ s m i, FloatKind.f64.decode x = .number s m i) ∧ floatToIntVal .f64 (floorw x) .i64 = some (flr X) := by
  obtain ⟨T, hT⟩ : ∃ T : Nat, T = 1074 := ⟨_, rfl⟩
  obtain ⟨m', e', k', hv'⟩ := k.wide
  have hxw : x = wide t := by
    have h1 := hx.eq
    rw [hX] at h1
    have h2 : fconv .f32 .f64 (some t) = some (wide t) := rfl
    rw [h2] at h1
    exact (fl_some h1).1.symm
  subst hxw
  have hf := flr_fin k
  rw [← hX] at hf
  obtain ⟨D, hD⟩ : ∃ D : Nat, D = 925 := ⟨_, rfl⟩
  rw [← hD] at hv'
  have hTD : T = 149 + D := by omega
  have hd : szd s (m' * 2 ^ e') (2 ^ T) = szd s (m * 2 ^ e) (2 ^ 149) := by
    unfold szd
    rw [hv', hTD, Nat.pow_add, Nat.pow_add, ← Nat.mul_assoc, cl_scale _ _ _ (Nat.two_pow_pos _), Nat.mul_div_mul_right _ _ (Nat.two_pow_pos _)]
  rw [← hd] at hf
  have hle := szd_le s (m * 2 ^ e) (2 ^ 149)
  rw [← hd] at hle
  obtain ⟨n, j, kf, hn⟩ := floor_any hT k' (by omega)
  obtain ⟨i, hi⟩ := floor_not_nan k'
  refine ⟨⟨_, _, _, hi⟩, ?_⟩
  rw [hf]
  exact cut_any (T := T) (by rw [least64, hT]; rfl) kf (by rw [hn, Nat.mul_div_cancel _ (Nat.two_pow_pos _)]) (by omega)
end Go.Proofs.Ytddemhlhlbpecaa
