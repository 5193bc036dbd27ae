/- Floats of chapter 3: zero added to what is not below zero, squares, the order the other way round, what holds of all numbers of a list. No condition. -/
import Derived.Test.YtfmhdnhaaohdjaaTm
namespace Go.Proofs.Ytfmhdnhaaohdjaa
open Go.RowKit Ieee

def pl (d : Datum) : Bool := match d with | .number s _ _ => !s | .infinity s => !s | .nan .. => false
/-- A number with the sign plus, or +infinity. -/
def Nng (X : Option Nat) : Prop := ∃ b, X = some b ∧ pl (FloatKind.f32.format.read b) = true

theorem near_plus (mag : Nat) (place : Int) : FloatKind.f32.format.nearest false mag place < FloatKind.f32.format.signWeight := by
  have hi := FloatKind.f32.format.infRung_lt
  unfold Format.nearest
  split
  · simp only [Format.word, Bool.false_eq_true, if_false]; omega
  · simp only [Format.word, Bool.false_eq_true, if_false]
    exact Nat.lt_of_le_of_lt (Nat.min_le_right _ _) hi
theorem nng_write {d : Datum} (h : pl d = true) : Nng (some (FloatKind.f32.format.write d)) := by
  refine ⟨_, rfl, ?_⟩
  cases d with
  | nan => cases h
  | infinity s =>
    have : s = false := by simpa [pl] using h
    subst this
    decide +kernel
  | number s m i =>
    have : s = false := by simpa [pl] using h
    subst this
    have hlt : FloatKind.f32.format.write (.number false m i) < FloatKind.f32.format.signWeight := near_plus m i
    have hfl : fl .f32 (FloatKind.f32.format.write (.number false m i)) = some (FloatKind.f32.format.write (.number false m i)) := encode_fl (k := .f32) (d := .number false m i) rfl
    generalize FloatKind.f32.format.write (.number false m i) = b at hlt hfl
    have h0 : b / FloatKind.f32.format.signWeight = 0 := Nat.div_eq_of_lt hlt
    rcases shape .f32 b with ⟨t, m', e', h1⟩ | ⟨t, hr, _, hs⟩ | h1
    · have := h1.sign
      rw [h0] at this
      rw [h1.read, this]; rfl
    · rw [h0] at hs
      rw [hr, hs]; rfl
    · rw [h1] at hfl; cases hfl
theorem signed_plus (m k : Nat) : 0 ≤ signed false m k := by unfold signed; simp only [Bool.false_eq_true, if_false]; exact Int.natCast_nonneg _
theorem nng_add {X Y : Option Nat} (hx : Nng X) (hy : Nng Y) : Nng (fop .add .f32 X Y) := by
  obtain ⟨a, rfl, ha⟩ := hx
  obtain ⟨b, rfl, hb⟩ := hy
  have e : fop .add .f32 (some a) (some b) = ((FloatKind.f32.format.read a).sum (FloatKind.f32.format.read b)).map FloatKind.f32.format.write := rfl
  rw [e]
  generalize FloatKind.f32.format.read a = p at ha
  generalize FloatKind.f32.format.read b = q at hb
  cases p with
  | nan => cases ha
  | infinity s =>
    obtain rfl : s = false := by simpa [pl] using ha
    cases q with
    | nan => cases hb
    | infinity t =>
      obtain rfl : t = false := by simpa [pl] using hb
      exact nng_write (d := .infinity false) rfl
    | number t n j => exact nng_write (d := .infinity false) rfl
  | number s m i =>
    obtain rfl : s = false := by simpa [pl] using ha
    cases q with
    | nan => cases hb
    | infinity t =>
      obtain rfl : t = false := by simpa [pl] using hb
      exact nng_write (d := .infinity false) rfl
    | number t n j =>
      obtain rfl : t = false := by simpa [pl] using hb
      refine nng_write (d := _) ?_
      have h1 := signed_plus m (i - min i j).toNat
      have h2 := signed_plus n (j - min i j).toNat
      show (!(if signed false m (i - min i j).toNat + signed false n (j - min i j).toNat = 0 then false && false else decide (signed false m (i - min i j).toNat + signed false n (j - min i j).toNat < 0))) = true
      split
      · rfl
      · rw [decide_eq_false (by omega)]; rfl
theorem nng_zero : Nng fz := ⟨0, by decide +kernel, by decide +kernel⟩

theorem order_swap (p q : Datum) : (p.order q == some Ordering.lt) = (q.order p == some Ordering.gt) := by
  cases p with
  | nan => cases q <;> rfl
  | infinity s => cases q with
    | nan => rfl
    | infinity t => cases s <;> cases t <;> rfl
    | number => cases s <;> rfl
  | number s m i => cases q with
    | nan => rfl
    | infinity t => cases t <;> rfl
    | number t n j =>
      simp only [Datum.order]
      rw [Int.min_comm j i]
      generalize signed s m (i - min i j).toNat = a
      generalize signed t n (j - min i j).toNat = b
      rw [cmp_eq, cmp_eq]
      rcases Int.lt_trichotomy a b with h | h | h
      · rw [if_pos h, if_neg (by omega), if_neg (by omega)]; rfl
      · subst h; rw [if_neg (by omega), if_pos rfl]; rfl
      · rw [if_neg (by omega), if_neg (by omega), if_pos h]; rfl
theorem flt_gt (X Y : Option Nat) : flt32 X Y = fgt32 Y X := by
  unfold flt32 fgt32 ford
  cases X with
  | none => cases Y <;> rfl
  | some a => cases Y with
    | none => rfl
    | some b => exact order_swap _ _
def fm1 : Option Nat := fl .f32 3212836864
theorem fl_fm1 : Fl .f32 3212836864 fm1 := Fl.of32 (by decide)
/-- Above -1 and below 1. -/
def fcoef (X : Option Nat) : Bool := flt32 fm1 X && flt32 X fu
/-- From -1 to 1. -/
def fle32 (x y : Option Nat) : Bool := ford .f32 x y == some .lt || ford .f32 x y == some .eq
def fge32 (x y : Option Nat) : Bool := ford .f32 x y == some .gt || ford .f32 x y == some .eq
theorem order_eq_swap (p q : Datum) : (p.order q == some Ordering.eq) = (q.order p == some Ordering.eq) := by
  cases p with
  | nan => cases q <;> rfl
  | infinity s => cases q with
    | nan => rfl
    | infinity t => cases s <;> cases t <;> rfl
    | number => cases s <;> rfl
  | number s m i => cases q with
    | nan => rfl
    | infinity t => cases t <;> rfl
    | number t n j =>
      simp only [Datum.order]
      rw [Int.min_comm j i]
      generalize signed s m (i - min i j).toNat = a
      generalize signed t n (j - min i j).toNat = b
      rw [cmp_eq, cmp_eq]
      rcases Int.lt_trichotomy a b with h | h | h
      · rw [if_pos h, if_neg (by omega), if_neg (by omega)]; decide
      · subst h; rfl
      · rw [if_neg (by omega), if_neg (by omega), if_pos h]; decide
theorem fle_ge (X Y : Option Nat) : fle32 X Y = fge32 Y X := by
  have h1 := flt_gt X Y
  unfold flt32 fgt32 at h1
  unfold fle32 fge32
  rw [h1]
  congr 1
  unfold ford
  cases X with
  | none => cases Y <;> rfl
  | some a => cases Y with
    | none => rfl
    | some b => exact order_eq_swap _ _
def fsurf (X : Option Nat) : Bool := fle32 fm1 X && fle32 X fu
theorem Fl.ole {r q : Nat} {X Y : Option Nat} (h : Fl .f32 r X) (h' : Fl .f32 q Y) : (FloatKind.f32.format.order r q == some .lt || FloatKind.f32.format.order r q == some .eq) = fle32 X Y := by
  unfold fle32; rw [order_fl, h.eq, h'.eq]
theorem Fl.oge {r q : Nat} {X Y : Option Nat} (h : Fl .f32 r X) (h' : Fl .f32 q Y) : (FloatKind.f32.format.order r q == some .gt || FloatKind.f32.format.order r q == some .eq) = fge32 X Y := by
  unfold fge32; rw [order_fl, h.eq, h'.eq]

/-- What holds of all numbers of a list. -/
def allL (p : Option Nat → Bool) (L : List (Option Nat)) : Bool := L.all p
theorem allL_no {p : Option Nat → Bool} {L : List (Option Nat)} {k : Nat} (h : k < L.length) (hf : p (L.getD k none) = false) : allL p L = false := by
  rw [Bool.eq_false_iff]
  intro ha
  unfold allL at ha
  rw [List.all_eq_true] at ha
  have := ha (L.getD k none) (by simp [List.getD, h])
  rw [hf] at this; cases this
theorem allL_step {p : Option Nat → Bool} {L : List (Option Nat)} {k : Nat} (h : k < L.length) (ha : allL p (L.take k) = true) (hf : p (L.getD k none) = true) : allL p (L.take (k + 1)) = true := by
  unfold allL at *
  rw [take_succ_getD L none k h, List.all_append, ha]; simpa using hf
theorem allL_end {p : Option Nat → Bool} {L : List (Option Nat)} {n : Nat} (h : L.length = n) (ha : allL p (L.take n) = true) : allL p L = true := by
  rwa [fsum_all h] at ha
theorem allL_at {p : Option Nat → Bool} {L : List (Option Nat)} {k : Nat} (h : k < L.length) (ha : allL p L = true) : p (L.getD k none) = true := by
  unfold allL at ha
  rw [List.all_eq_true] at ha
  exact ha (L.getD k none) (by simp [List.getD, h])
/-- Coefficients. -/
def elen (n : Nat) : Bool := decide (1 ≤ n) && decide (n ≤ 24)
theorem elen_lo {n : Nat} (h : n < 1) : elen n = false := by unfold elen; rw [decide_eq_false (by omega : ¬ 1 ≤ n)]; rfl
theorem elen_hi {n : Nat} (h : 24 < n) : elen n = false := by unfold elen; rw [decide_eq_false (by omega : ¬ n ≤ 24)]; simp
theorem elen_yes {n : Nat} (h1 : 1 ≤ n) (h2 : n ≤ 24) : elen n = true := by unfold elen; rw [decide_eq_true h1, decide_eq_true h2]; rfl
theorem elen_of {n : Nat} (h : elen n = true) : 1 ≤ n ∧ n ≤ 24 := by
  unfold elen at h; simp only [Bool.and_eq_true, decide_eq_true_eq] at h; exact h
def fare (L : List (Option Nat)) : Bool := allL fcoef L && elen L.length

/-- A float is zero, of either sign. -/
def fzz (X : Option Nat) : Bool := fzero32 X
theorem zleast : FloatKind.f32.format.leastPlace = -149 := by decide +kernel
theorem zfrac : FloatKind.f32.format.fractionBits = 23 := rfl
theorem log2_shift {m d : Nat} (h : m ≠ 0) : (m * 2 ^ d).log2 = m.log2 + d := log2_pow m m.log2 d (Nat.log2_self_le h) Nat.lt_log2_self
theorem add_fz {b : Nat} {X : Option Nat} (hX : Fl .f32 b X) (h : Nng X) : fop .add .f32 X fz = X := by
  obtain ⟨c, rfl, hb⟩ := h
  obtain rfl := (fl_some hX.eq).1
  have hlt : c < 4294967296 := hX.lt
  have hz : fz = some 0 := by decide +kernel
  rw [hz]
  have r0 : FloatKind.f32.format.read 0 = .number false 0 (-149) := by decide +kernel
  have e0 : fop .add .f32 (some c) (some 0) = ((FloatKind.f32.format.read c).sum (FloatKind.f32.format.read 0)).map FloatKind.f32.format.write := rfl
  rw [e0, r0]
  rcases shape .f32 c with ⟨s, m, e, h1⟩ | ⟨s, hr, hg, hs⟩ | h1
  · have hw := h1.word hlt
    have hl : FloatKind.f32.format.leastPlace = -149 := zleast
    rw [h1.read] at hb ⊢
    obtain rfl : s = false := by simpa [pl] using hb
    rw [hl]
    have hmin : min (-149 + (e : Int)) (-149) = -149 := by omega
    have ht : signed false m (-149 + (e : Int) - -149).toNat + signed false 0 (-149 - -149 : Int).toNat = ((m * 2 ^ e : Nat) : Int) := by
      rw [show (-149 + (e : Int) - -149).toNat = e by omega]
      unfold signed; simp [Nat.shiftLeft_eq]
    simp only [Datum.sum, hmin, Option.map_some, ht]
    have hneg : (if ((m * 2 ^ e : Nat) : Int) = 0 then false && false else decide (((m * 2 ^ e : Nat) : Int) < 0)) = false := by
      split
      · rfl
      · exact decide_eq_false (by omega)
    show some (FloatKind.f32.format.nearest (if ((m * 2 ^ e : Nat) : Int) = 0 then false && false else decide (((m * 2 ^ e : Nat) : Int) < 0)) ((m * 2 ^ e : Nat) : Int).natAbs (-149)) = some c
    rw [hneg, Int.natAbs_natCast]
    obtain ⟨k1, k2, k3, k4⟩ := h1.e32
    by_cases hm : m = 0
    · subst hm
      obtain rfl : e = 0 := by rcases k3 with h | h <;> omega
      rw [hw]; simp [Format.nearest]
    · have hn : m * 2 ^ e ≠ 0 := Nat.mul_ne_zero hm (by have := Nat.two_pow_pos e; omega)
      have hlo : m.log2 < 24 := (Nat.log2_lt hm).2 k1
      rw [nearest_exact _ false (m * 2 ^ e) (-149) e m hn ?_ ?_ (Nat.le_of_lt h1.top)]
      · rw [← hw]
      · rw [log2_shift hm, hl, zfrac]
        rcases k3 with h | h
        · subst h; omega
        · have hhi : 23 ≤ m.log2 := (Nat.le_log2 hm).2 h
          omega
      · rw [hl, show (-149 - (-149 + (e : Int))).toNat = 0 by omega, show (-149 + (e : Int) - -149).toNat = e by omega, Nat.pow_zero, Nat.mul_one]
  · rw [hr] at hb ⊢
    obtain rfl : s = false := by simpa [pl] using hb
    rw [sw32] at hg hs
    rw [inf32] at hg
    have hb0 : c / 2147483648 % 2 = 0 := by
      by_cases h : c / 2147483648 % 2 = 1
      · rw [h] at hs; cases hs
      · omega
    show some (FloatKind.f32.format.word false FloatKind.f32.format.infRung) = some c
    rw [inf32]
    simp only [Format.word, Bool.false_eq_true, if_false]
    congr 1
    omega
  · have := hX.eq; rw [h1] at this; cases this
theorem mul_zz {q : Nat} {Z : Option Nat} (h : Fl .f32 q Z) (hz : fzero32 Z = true) : fop .mul .f32 Z Z = fz := by
  cases Z with
  | none => cases hz
  | some c =>
    obtain rfl := (fl_some h.eq).1
    have hlt : c < 4294967296 := h.lt
    have h0 : c % 2147483648 = 0 := of_decide_eq_true hz
    rcases (show c = 0 ∨ c = 2147483648 by omega) with rfl | rfl <;> decide +kernel
theorem nng_sq {X : Option Nat} : Nng (fop .mul .f32 X X) ∨ fop .mul .f32 X X = none := by
  cases X with
  | none => exact .inr rfl
  | some a =>
    have e : fop .mul .f32 (some a) (some a) = ((FloatKind.f32.format.read a).product (FloatKind.f32.format.read a)).map FloatKind.f32.format.write := rfl
    rw [e]
    generalize FloatKind.f32.format.read a = p
    cases p with
    | nan => exact .inr rfl
    | infinity s => exact .inl (nng_write (d := .infinity (s ^^ s)) (by cases s <;> rfl))
    | number s m i => exact .inl (nng_write (d := .number (s ^^ s) (m * m) (i + i)) (by cases s <;> rfl))
theorem fsq_nng (L : List (Option Nat)) : ∀ k, Nng (fsq L k) ∨ fsq L k = none
  | 0 => .inl nng_zero
  | k + 1 => by
    rcases fsq_nng L k with h | h
    · rcases nng_sq (X := L.getD k none) with h' | h'
      · exact .inl (nng_add h h')
      · refine .inr ?_
        show fop .add .f32 (fsq L k) (fop .mul .f32 (L.getD k none) (L.getD k none)) = none
        rw [h']; cases fsq L k <;> rfl
    · refine .inr ?_
      show fop .add .f32 (fsq L k) (fop .mul .f32 (L.getD k none) (L.getD k none)) = none
      rw [h]; rfl
/-- A zero adds nothing to a sum of squares. -/
theorem fsq_skip {L : List (Option Nat)} {k q r : Nat} (hr : Fl .f32 r (fsq L k)) (hq : Fl .f32 q (L.getD k none)) (hz : fzero32 (L.getD k none) = true) : fsq L (k + 1) = fsq L k := by
  show fop .add .f32 (fsq L k) (fop .mul .f32 (L.getD k none) (L.getD k none)) = fsq L k
  rw [mul_zz hq hz]
  rcases fsq_nng L k with h | h
  · exact add_fz hr h
  · rw [h]; rfl
end Go.Proofs.Ytfmhdnhaaohdjaa
