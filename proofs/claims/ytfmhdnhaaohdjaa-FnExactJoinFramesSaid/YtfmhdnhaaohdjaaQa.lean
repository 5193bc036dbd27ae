/- Numbers as frames have: the two forms of the bound are one; contracts of single numbers. No condition. -/
import Derived.Test.YtfmhdnhaaohdjaaUp
import Derived.Test.YtfmhdnhaaohdjaaTz
import Derived.Test.YtfmhdnhaaohdjaaTr
import Derived.Deep.QuietTactic
import Derived.BigQuiet
namespace Go.Proofs.Ytfmhdnhaaohdjaa
open Go.RowKit Ieee

def k99 : Option Nat := fl .f32 1895825408
def m99 : Option Nat := fl .f32 4043309056
theorem fl_k99 : Fl .f32 1895825408 k99 := Fl.of32 (by decide)
theorem fl_m99 : Fl .f32 4043309056 m99 := Fl.of32 (by decide)
theorem fin_k99 : Fin_ .f32 1895825408 false 8388608 225 := by
  have h := Fin_.of_word .f32 false 8388608 225 (by decide +kernel) (by right; decide +kernel) (by decide +kernel)
  have e : FloatKind.f32.format.word false (225 * FloatKind.f32.format.binade + 8388608) = 1895825408 := by decide +kernel
  rwa [e] at h
theorem fin_m99 : Fin_ .f32 4043309056 true 8388608 225 := by
  have h := Fin_.of_word .f32 true 8388608 225 (by decide +kernel) (by right; decide +kernel) (by decide +kernel)
  have e : FloatKind.f32.format.word true (225 * FloatKind.f32.format.binade + 8388608) = 4043309056 := by decide +kernel
  rwa [e] at h
/-- A number as frames have. -/
def fkept (X : Option Nat) : Bool := flt32 (fsz X) k99
theorem lt_word {a b : Nat} {s t : Bool} {m e n j : Nat} (h : Fin_ .f32 a s m e) (h' : Fin_ .f32 b t n j) : flt32 (some a) (some b) = decide (sv s m e < sv t n j) := by
  unfold flt32 ford
  show (FloatKind.f32.format.order a b == some .lt) = _
  rw [h.order h', cmp_eq]
  by_cases hc : sv s m e < sv t n j
  · rw [if_pos hc, decide_eq_true hc]; rfl
  · rw [if_neg hc, decide_eq_false hc]
    by_cases h0 : sv s m e = sv t n j
    · rw [if_pos h0]; rfl
    · rw [if_neg h0]; rfl
theorem neg_word {b m e : Nat} (k : Fin_ .f32 b true m e) (hb : b < 4294967296) : Fin_ .f32 (neg32 b) false m e := by
  have hwd := word32 k hb
  simp only [if_true] at hwd
  have htop := k.top; have hlow := k.low; have hl := k.lt
  rw [bin32] at hlow hl htop; rw [inf32] at htop
  have hng : neg32 b = e * 8388608 + m := by
    show b ^^^ 2147483648 = _
    rw [hwd]; exact xor_top (by omega)
  have hf := Fin_.of_word .f32 false m e k.lt k.low k.top
  rw [hng]
  have e2 : FloatKind.f32.format.word false (e * FloatKind.f32.format.binade + m) = e * 8388608 + m := by rw [bin32]; simp [Format.word]
  rwa [e2] at hf
/-- The bound, told by an absolute value, and by both sides. -/
theorem fkept_two {b : Nat} {X : Option Nat} (h : Fl .f32 b X) : fkept X = (flt32 m99 X && flt32 X k99) := by
  have hb : b < 4294967296 := h.lt
  have hX := h.eq
  have ek : k99 = some 1895825408 := fin_k99.fl
  have em : m99 = some 4043309056 := fin_m99.fl
  have e0 : fz = some 0 := fin_zero.fl
  have hK : (0 : Int) < sv false 8388608 225 := sv_pos (by decide) 225
  rcases shape .f32 b with ⟨s, m, e, k⟩ | ⟨s, hr, hg, hs⟩ | k
  · rw [k.fl] at hX
    subst hX
    rw [em, ek, lt_word fin_m99 k, lt_word k fin_k99, sv_neg]
    have hlt : flt32 (some b) fz = decide (sv s m e < 0) := by
      rw [e0, lt_word k fin_zero, sv_zero]
    unfold fkept fsz
    rw [hlt, ek]
    by_cases hc : sv s m e < 0
    · have hst : s = true := by
        cases s
        · exfalso
          rcases Nat.eq_zero_or_pos m with h0 | h0
          · subst h0; rw [sv_zero] at hc; omega
          · have := sv_pos h0 e; omega
        · rfl
      subst hst
      rw [decide_eq_true hc, if_pos rfl]
      show flt32 (some (neg32 b)) _ = _
      rw [lt_word (neg_word k hb) fin_k99]
      rw [sv_neg] at hc ⊢
      generalize sv false m e = v at *
      generalize sv false 8388608 225 = K at *
      by_cases h1 : v < K
      · rw [decide_eq_true h1, decide_eq_true (by omega : -K < -v), decide_eq_true (by omega : -v < K)]; rfl
      · rw [decide_eq_false h1, decide_eq_false (by omega : ¬ -K < -v)]; rfl
    · rw [decide_eq_false hc, if_neg (by decide), lt_word k fin_k99]
      generalize sv s m e = v at *
      generalize sv false 8388608 225 = K at *
      rw [decide_eq_true (by omega : -K < v)]; rfl
  · rw [fl_inf hr] at hX
    subst hX
    have hb2 : b = (if s then 2147483648 else 0) + 2139095040 := by
      rw [sw32, inf32] at hg; rw [sw32] at hs
      cases s
      · have : ¬ b / 2147483648 % 2 = 1 := by intro hc; rw [hc] at hs; cases hs
        simp only [Bool.false_eq_true, if_false]; omega
      · have : b / 2147483648 % 2 = 1 := by simpa using hs.symm
        simp only [if_true]; omega
    cases s
    · simp only [Bool.false_eq_true, if_false] at hb2
      subst hb2
      decide +kernel
    · simp only [if_true] at hb2
      subst hb2
      decide +kernel
  · rw [k] at hX
    subst hX
    rfl
/-- A start, a station. -/
def okStart (z : Int) : Bool := inB z 0 100000
set_option maxRecDepth 20000 in
set_option maxHeartbeats 400000 in
theorem c_l07Number {r : Nat} {X : Option Nat} (h : Fl .f32 r X) (w : World) : Calls Try.prog 86 #[.float .f32 r] w fun e w' => e = .returned (.bool (fkept X)) ∧ w' = w := by
  have h1 : _ = fkept X := (szw_fl h).olt fl_k99
  cases hA : fkept X
  all_goals
    rw [hA] at h1
    go_enter Try.func86, Try.ntmps86
    go_wp2_with (go_at_call 96; refine Calls.mono (c_l03Size _ _) ?_; rintro e w1 ⟨rfl, rfl⟩)
    go_ret
    exact ⟨rfl, rfl⟩
set_option maxRecDepth 20000 in
set_option maxHeartbeats 400000 in
theorem c_isStart (i : Int) (w : World) : Calls Try.prog 65 #[.int .i64 i] w fun e w' => e = .returned (.bool (inB i 0 100000)) ∧ w' = w := by
  by_cases h1 : i < 0
  · rw [inB_lo h1]
    have i1 : ¬ (0 : Int) ≤ i := by omega
    clear h1
    go_enter Try.func65, Try.ntmps65
    go_wp2_with (fail)
    go_ret
    exact ⟨rfl, rfl⟩
  by_cases h2 : 100000 < i
  · rw [inB_hi h2]
    have i1 : (0 : Int) ≤ i := by omega
    have i2 : ¬ i ≤ 100000 := by omega
    clear h1 h2
    go_enter Try.func65, Try.ntmps65
    go_wp2_with (fail)
    go_ret
    exact ⟨rfl, rfl⟩
  rw [inB_yes (by omega) (by omega)]
  have i1 : (0 : Int) ≤ i := by omega
  have i2 : i ≤ 100000 := by omega
  clear h1 h2
  go_enter Try.func65, Try.ntmps65
  go_wp2_with (fail)
  go_ret
  exact ⟨rfl, rfl⟩
end Go.Proofs.Ytfmhdnhaaohdjaa
