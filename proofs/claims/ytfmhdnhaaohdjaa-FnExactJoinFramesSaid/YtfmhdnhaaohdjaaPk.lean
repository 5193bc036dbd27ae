/- Absolute values of 32-bit numbers, made with a sign and made in 64 bits: their order is the same. No condition. -/
import Derived.Test.YtfmhdnhaaohdjaaTl
import Derived.Test.YtfmhdnhaaohdjaaNum
namespace Go.Proofs.Ytfmhdnhaaohdjaa
open Go.RowKit Ieee

def neg32 (b : Nat) : Nat := Op.negFloat .f32 b
def fneg32 (X : Option Nat) : Option Nat := X.map neg32
theorem neg32_rung (b : Nat) : neg32 b % 2147483648 = b % 2147483648 := by
  show (b ^^^ 2 ^ 31) % 2 ^ 31 = _
  rw [Nat.xor_mod_two_pow]; simp
theorem neg32_lt {b : Nat} (h : b < 4294967296) : neg32 b < 4294967296 := by
  show b ^^^ 2 ^ 31 < 2 ^ 32
  exact Nat.xor_lt_two_pow h (by omega)
theorem fneg32_fl {r : Nat} {X : Option Nat} (h : Fl .f32 r X) : Fl .f32 (Op.negFloat .f32 r) (fneg32 X) := by
  refine ⟨?_, neg32_lt h.lt⟩
  have hn : fl .f32 (neg32 r) = none ↔ fl .f32 r = none := by
    rw [nan_rung, nan_rung, sw32, neg32_rung]
  rw [← h.eq]
  cases hr : fl .f32 r with
  | none => show fl .f32 (neg32 r) = none; exact hn.2 hr
  | some c =>
    have hc : r = c := by have := (fl_some hr).1; omega
    subst hc
    cases hq : fl .f32 (neg32 r) with
    | none => rw [hn.1 hq] at hr; cases hr
    | some d =>
      have hd : d = neg32 r := by have := (fl_some hq).1; omega
      show fl .f32 (neg32 r) = some (neg32 r)
      rw [hq, hd]
/-- An absolute value, made with a sign. -/
def fsz (X : Option Nat) : Option Nat := if flt32 X fz then fneg32 X else X
/-- An absolute value, made in 64 bits. -/
def fabs64 (X : Option Nat) : Option Nat := (fconv .f32 .f64 X).map (· % 9223372036854775808)
theorem fabs64_fl {r : Nat} {X : Option Nat} (h : Fl .f64 r (fconv .f32 .f64 X)) : Fl .f64 (r % 9223372036854775808) (fabs64 X) := by
  refine ⟨?_, by have := Nat.mod_lt r (show 9223372036854775808 > 0 by decide); show _ < 2 ^ 64; omega⟩
  unfold fabs64
  rw [← h.eq]
  rcases shape .f64 r with ⟨s, m, e, k⟩ | ⟨s, hr, hg, _⟩ | k
  · rw [k.fl, k.abs.fl]; rfl
  · rw [fl_inf hr, fl_inf (inf_abs hg)]; rfl
  · rw [k, nan_abs k]; rfl
theorem word32 {b : Nat} {s : Bool} {m e : Nat} (h : Fin_ .f32 b s m e) (hb : b < 4294967296) : b = (if s then 2147483648 else 0) + (e * 8388608 + m) := by
  have h1 := h.rung; have h2 := h.sign
  rw [sw32] at h1 h2; rw [bin32] at h1
  cases s
  · have : ¬ b / 2147483648 % 2 = 1 := by intro hc; rw [hc] at h2; cases h2
    simp only [Bool.false_eq_true, if_false]; omega
  · have : b / 2147483648 % 2 = 1 := by simpa using h2.symm
    simp only [if_true]; omega
theorem xor_top {r : Nat} (h : r < 2147483648) : (2147483648 + r) ^^^ 2147483648 = r := by
  have e1 : 2147483648 + r = 2 ^ 31 ||| r := by
    have := Nat.two_pow_add_eq_or_of_lt (i := 31) (show r < 2 ^ 31 from h) 1
    rwa [Nat.mul_one] at this
  apply Nat.eq_of_testBit_eq
  intro i
  rw [e1, Nat.testBit_xor, Nat.testBit_or, show (2147483648 : Nat) = 2 ^ 31 from rfl]
  by_cases hi : i = 31
  · subst hi; rw [Nat.testBit_two_pow_self, Nat.testBit_lt_two_pow h]; rfl
  · rw [Nat.testBit_two_pow_of_ne (fun e => hi e.symm)]; simp
theorem fin_zero : Fin_ .f32 0 false 0 0 := by
  have h := Fin_.of_word .f32 false 0 0 (by decide +kernel) (Or.inl rfl) (by decide +kernel)
  have e : FloatKind.f32.format.word false (0 * FloatKind.f32.format.binade + 0) = 0 := by decide +kernel
  rwa [e] at h
theorem sv_zero (s : Bool) (e : Nat) : sv s 0 e = 0 := by unfold sv; cases s <;> simp
theorem sv_pos {m : Nat} (hm : 0 < m) (e : Nat) : 0 < sv false m e := by
  unfold sv; simp only [Bool.false_eq_true, if_false]
  have := Nat.mul_pos hm (Nat.two_pow_pos e); omega
theorem sv_neg (m e : Nat) : sv true m e = - sv false m e := by unfold sv; simp
theorem sv_wide {m e n j K : Nat} (h : n * 2 ^ j = m * 2 ^ (e + K)) : sv false n j = sv false m e * (2 ^ K : Nat) := by
  rw [← sv_add]; unfold sv; simp only [Bool.false_eq_true, if_false]; rw [h]
theorem cmp_wide {m e n j m' e' n' j' K : Nat} (h : n * 2 ^ j = m * 2 ^ (e + K)) (h' : n' * 2 ^ j' = m' * 2 ^ (e' + K)) : compare (sv false n j) (sv false n' j') = compare (sv false m e) (sv false m' e') := by
  rw [sv_wide h, sv_wide h', cmp_scale _ _ _ (Nat.two_pow_pos _)]
/-- What both absolute values of a number are. -/
inductive Abs2 (X : Option Nat) : Prop where
  | fin (a c : Nat) (t : Bool) (m e m' e' : Nat) (h1 : fsz X = some a) (h2 : Fin_ .f32 a t m e) (h3 : sv t m e = sv false m e) (h4 : fabs64 X = some c) (h5 : Fin_ .f64 c false m' e') (h6 : m' * 2 ^ e' = m * 2 ^ (e + 925))
  | inf (a c : Nat) (h1 : fsz X = some a) (h2 : FloatKind.f32.format.read a = .infinity false) (h4 : fabs64 X = some c) (h5 : FloatKind.f64.format.read c = .infinity false)
theorem abs2 {b : Nat} {X : Option Nat} (h : Fl .f32 b X) (hn : X ≠ none) : Abs2 X := by
  have hb : b < 4294967296 := h.lt
  have hX := h.eq
  rcases shape .f32 b with ⟨s, m, e, k⟩ | ⟨s, hr, hg, hs⟩ | k
  · rw [k.fl] at hX
    subst hX
    obtain ⟨m', e', hw, hv⟩ := k.wide
    have h4 : fabs64 (some b) = some (wide b % 9223372036854775808) := by
      unfold fabs64 fconv; rw [if_neg (by decide)]; rfl
    have hlt : flt32 (some b) fz = decide (sv s m e < 0) := by
      have e0 : fz = some 0 := fin_zero.fl
      unfold flt32 ford
      rw [e0]
      show (FloatKind.f32.format.order b 0 == some .lt) = _
      rw [k.order fin_zero, sv_zero, cmp_eq]
      by_cases hc : sv s m e < 0
      · rw [if_pos hc, decide_eq_true hc]; rfl
      · rw [if_neg hc, decide_eq_false hc]
        by_cases h0 : sv s m e = 0
        · rw [if_pos h0]; rfl
        · rw [if_neg h0]; rfl
    by_cases hc : sv s m e < 0
    · have hst : s = true ∧ 0 < m := by
        constructor
        · cases s
          · exfalso
            rcases Nat.eq_zero_or_pos m with h0 | h0
            · subst h0; rw [sv_zero] at hc; omega
            · have := sv_pos h0 e; omega
          · rfl
        · rcases Nat.eq_zero_or_pos m with h0 | h0
          · subst h0; rw [sv_zero] at hc; omega
          · exact h0
      obtain ⟨rfl, hm⟩ := hst
      have hwd := word32 k hb
      simp only [if_true] at hwd
      have htop := k.top; have hlow := k.low; have hl := k.lt
      rw [bin32] at hlow hl htop; rw [inf32] at htop
      have hng : neg32 b = e * 8388608 + m := by
        show b ^^^ 2147483648 = _
        rw [hwd]; exact xor_top (by omega)
      have hf := Fin_.of_word .f32 false m e k.lt k.low k.top
      have hf' : Fin_ .f32 (neg32 b) false m e := by
        rw [hng]
        have e2 : FloatKind.f32.format.word false (e * FloatKind.f32.format.binade + m) = e * 8388608 + m := by rw [bin32]; simp [Format.word]
        rwa [e2] at hf
      exact .fin (neg32 b) _ false m e m' e' (by unfold fsz; rw [hlt, decide_eq_true hc]; rfl) hf' rfl h4 hw.abs hv
    · refine .fin b _ s m e m' e' (by unfold fsz; rw [hlt, decide_eq_false hc]; rfl) k ?_ h4 hw.abs hv
      cases s
      · rfl
      · rcases Nat.eq_zero_or_pos m with h0 | h0
        · subst h0; rw [sv_zero, sv_zero]
        · rw [sv_neg] at hc; have := sv_pos h0 e; omega
  · rw [fl_inf hr] at hX
    subst hX
    have hwi := wide_inf hr
    have h4 : fabs64 (some b) = some (wide b % 9223372036854775808) := by
      unfold fabs64 fconv; rw [if_neg (by decide)]; rfl
    have h5 : FloatKind.f64.format.read (wide b % 9223372036854775808) = .infinity false := by
      unfold wide FloatKind.encode FloatKind.decode
      rw [hr]
      cases s <;> decide +kernel
    have hb2 : b = (if s then 2147483648 else 0) + 2139095040 := by
      rw [sw32, inf32] at hg; rw [sw32] at hs
      cases s
      · have : ¬ b / 2147483648 % 2 = 1 := by intro hc; rw [hc] at hs; cases hs
        simp only [Bool.false_eq_true, if_false]; omega
      · have : b / 2147483648 % 2 = 1 := by simpa using hs.symm
        simp only [if_true]; omega
    cases s
    · simp only [Bool.false_eq_true, if_false] at hb2
      subst hb2
      exact .inf 2139095040 _ (by decide +kernel) (by decide +kernel) h4 h5
    · simp only [if_true] at hb2
      subst hb2
      exact .inf 2139095040 _ (by decide +kernel) (by decide +kernel) h4 h5
  · rw [k] at hX; exact absurd hX.symm hn
/-- Stronger, in 64 bits, is stronger in 32. -/
theorem fstr_eq {b c : Nat} {X Y : Option Nat} (hx : Fl .f32 b X) (hX : X ≠ none) (hy : Fl .f32 c Y) (hY : Y ≠ none) : (ford .f64 (fabs64 X) (fabs64 Y) == some .gt) = fgt32 (fsz X) (fsz Y) := by
  unfold fgt32 ford
  rcases abs2 hx hX with ⟨a1, c1, t1, m1, e1, n1, j1, p1, p2, p3, p4, p5, p6⟩ | ⟨a1, c1, p1, p2, p4, p5⟩
  · rcases abs2 hy hY with ⟨a2, c2, t2, m2, e2, n2, j2, q1, q2, q3, q4, q5, q6⟩ | ⟨a2, c2, q1, q2, q4, q5⟩
    · rw [p1, p4, q1, q4]
      show (FloatKind.f64.format.order c1 c2 == some .gt) = (FloatKind.f32.format.order a1 a2 == some .gt)
      rw [p2.order q2, p5.order q5, p3, q3]
      rw [cmp_wide p6 q6]
    · rw [p1, p4, q1, q4]
      show (FloatKind.f64.format.order c1 c2 == some .gt) = (FloatKind.f32.format.order a1 a2 == some .gt)
      unfold Format.order
      rw [p2.read, p5.read, q2, q5]
      all_goals rfl
  · rcases abs2 hy hY with ⟨a2, c2, t2, m2, e2, n2, j2, q1, q2, q3, q4, q5, q6⟩ | ⟨a2, c2, q1, q2, q4, q5⟩
    · rw [p1, p4, q1, q4]
      show (FloatKind.f64.format.order c1 c2 == some .gt) = (FloatKind.f32.format.order a1 a2 == some .gt)
      unfold Format.order
      rw [q2.read, q5.read, p2, p5]
      all_goals rfl
    · rw [p1, p4, q1, q4]
      show (FloatKind.f64.format.order c1 c2 == some .gt) = (FloatKind.f32.format.order a1 a2 == some .gt)
      unfold Format.order
      rw [p2, p5, q2, q5]
      all_goals rfl
end Go.Proofs.Ytfmhdnhaaohdjaa
