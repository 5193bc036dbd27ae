/- The greatest size of a list, as both sides take it. No condition. -/
import Derived.Test.YtkbkjkjjoogieaaPw
import Derived.Test.YtkbkjkjjoogieaaZm
import Derived.Test.YtkbkjkjjoogieaaZo
namespace Go.Proofs.Ytkbkjkjjoogieaa
open Go.RowKit Ieee
set_option linter.unusedVariables false
set_option linter.unusedSimpArgs false

/-- What a number stands for: nothing for +infinity. -/
def Rk (X : Option Nat) (v : Option Int) : Prop := (∃ a t m e, X = some a ∧ Fin_ .f32 a t m e ∧ v = some (sv t m e)) ∨ (∃ a, X = some a ∧ FloatKind.f32.format.read a = .infinity false ∧ v = none)
def gtv : Option Int → Option Int → Bool
  | none, some _ => true
  | none, none => false
  | some x, some y => decide (y < x)
  | some _, none => false
theorem cmp_gt_b (x y : Int) : (some (compare x y) == some Ordering.gt) = decide (y < x) := by
  have key : compare x y = if x < y then .lt else if x = y then .eq else .gt := rfl
  rw [key]
  by_cases h : x < y
  · rw [if_pos h, decide_eq_false (by omega)]; rfl
  · rw [if_neg h]
    by_cases h2 : x = y
    · rw [if_pos h2, decide_eq_false (by omega)]; rfl
    · rw [if_neg h2, decide_eq_true (by omega)]; rfl
theorem rk_gt {X Y : Option Nat} {v u : Option Int} (hX : Rk X v) (hY : Rk Y u) : fgt32 X Y = gtv v u := by
  unfold fgt32 ford
  rcases hX with ⟨a, t, m, e, rfl, k, rfl⟩ | ⟨a, rfl, hr, rfl⟩
  · rcases hY with ⟨a', t', m', e', rfl, k', rfl⟩ | ⟨a', rfl, hr', rfl⟩
    · show (FloatKind.f32.format.order a a' == some .gt) = _
      rw [k.order k', cmp_gt_b]; rfl
    · show (FloatKind.f32.format.order a a' == some .gt) = _
      unfold Format.order; rw [k.read, hr']; rfl
  · rcases hY with ⟨a', t', m', e', rfl, k', rfl⟩ | ⟨a', rfl, hr', rfl⟩
    · show (FloatKind.f32.format.order a a' == some .gt) = _
      unfold Format.order; rw [hr, k'.read]; rfl
    · show (FloatKind.f32.format.order a a' == some .gt) = _
      unfold Format.order; rw [hr, hr']; rfl
theorem rk_sz {b : Nat} {X : Option Nat} (h : Fl .f32 b X) (hn : X ≠ none) : ∃ v, Rk (fsz X) v := by
  rcases abs2 h hn with ⟨a, c, t, m, e, m', e', h1, h2, h3, _⟩ | ⟨a, c, h1, h2, _⟩
  · exact ⟨_, .inl ⟨a, t, m, e, h1, h2, rfl⟩⟩
  · exact ⟨_, .inr ⟨a, h1, h2, rfl⟩⟩
theorem rk_fz : Rk fz (some 0) := .inl ⟨0, false, 0, 0, by decide +kernel, fin_zero, by rw [sv_zero]⟩
theorem gt_none (Y : Option Nat) : fgt32 (fsz none) Y = false := rfl
/-- The greatest size so far. -/
def most (L : List (Option Nat)) : Nat → Option Nat
  | 0 => fz
  | k + 1 => if fgt32 (fsz (L.getD k none)) (most L k) = true then fsz (L.getD k none) else most L k
theorem most_yes {L : List (Option Nat)} {k : Nat} (h : fgt32 (fsz (L.getD k none)) (most L k) = true) : most L (k + 1) = fsz (L.getD k none) := by rw [most, if_pos h]
theorem most_no {L : List (Option Nat)} {k : Nat} (h : fgt32 (fsz (L.getD k none)) (most L k) = false) : most L (k + 1) = most L k := by rw [most, if_neg (by rw [h]; decide)]
def topOf (X : Option Nat) : Option Nat := if fgt32 (fsz X) fz = true then fsz X else fz
theorem most_pk {L : List (Option Nat)} {n : Nat} (hL : ∀ k, k < n → ∃ b, Fl .f32 b (L.getD k none)) : ∀ k, k ≤ n → most L k = (match pk L k with | none => fz | some j => topOf (L.getD j none))
  | 0, _ => rfl
  | k + 1, hk => by
    have ih := most_pk hL k (by omega)
    obtain ⟨b, hb⟩ := hL k (by omega)
    cases hS : (L.getD k none).isSome
    · rw [pk_nan hS, ← ih]
      refine most_no ?_
      have : L.getD k none = none := by cases h : L.getD k none with | none => rfl | some x => rw [h] at hS; cases hS
      rw [this]; exact gt_none _
    · have hn : L.getD k none ≠ none := by intro h; rw [h] at hS; cases hS
      obtain ⟨v, hv⟩ := rk_sz hb hn
      cases hp : pk L k with
      | none =>
        rw [hp] at ih
        rw [pk_first hS hp]
        dsimp only at ih ⊢
        unfold topOf
        rw [most, ih]
      | some j =>
        rw [hp] at ih
        obtain ⟨hjk, hSj⟩ := pk_lt hp
        obtain ⟨c, hc⟩ := hL j (by omega)
        have hnj : L.getD j none ≠ none := by intro h; rw [h] at hSj; cases hSj
        obtain ⟨u, hu⟩ := rk_sz hc hnj
        have he : fstr (L.getD k none) (L.getD j none) = gtv v u := by
          have h9 : fstr (L.getD k none) (L.getD j none) = fgt32 (fsz (L.getD k none)) (fsz (L.getD j none)) := fstr_eq hb hn hc hnj
          rw [h9, rk_gt hv hu]
        have hk0 := rk_gt hv rk_fz
        have hj0 := rk_gt hu rk_fz
        have hkj := rk_gt hv hu
        dsimp only at ih
        cases hs : fstr (L.getD k none) (L.getD j none)
        · rw [pk_less hS hp hs]
          dsimp only
          rw [← ih]
          refine most_no ?_
          rw [ih]
          rw [hs] at he
          unfold topOf
          cases h0 : fgt32 (fsz (L.getD j none)) fz
          · rw [if_neg (by decide)]
            rw [hk0]
            rw [h0] at hj0
            cases v with
            | none => cases u with
              | none => cases hj0
              | some y => cases he
            | some x => cases u with
              | none => cases hj0
              | some y =>
                have e1 : decide (y < x) = false := he.symm
                have e2 : decide ((0 : Int) < y) = false := hj0.symm
                show decide ((0 : Int) < x) = false
                rw [decide_eq_false_iff_not] at e1 e2 ⊢
                omega
          · rw [if_pos rfl, hkj, ← he]
        · rw [pk_more hS hp hs]
          dsimp only
          rw [hs] at he
          unfold topOf at ih ⊢
          cases h0 : fgt32 (fsz (L.getD j none)) fz
          · rw [h0, if_neg (by decide)] at ih
            rw [most, ih]
          · rw [h0, if_pos rfl] at ih
            rw [most, ih, hkj, ← he, if_pos rfl, hk0]
            rw [h0] at hj0
            have : gtv v (some 0) = true := by
              cases v with
              | none => rfl
              | some x => cases u with
                | none => cases he
                | some y =>
                  have e1 : decide (y < x) = true := he.symm
                  have e2 : decide ((0 : Int) < y) = true := hj0.symm
                  show decide ((0 : Int) < x) = true
                  rw [decide_eq_true_eq] at e1 e2 ⊢
                  omega
            rw [this, if_pos rfl]
/-- The size that the program takes of a peak. -/
def szP (X : Option Nat) : Option Nat := fconv .f64 .f32 (fabs64 X)
theorem inf_absF {b : Nat} {s : Bool} (hr : FloatKind.f32.format.read b = .infinity s) : ∃ c, fabs64 (some b) = some c ∧ FloatKind.f64.format.read c = .infinity false := by
  refine ⟨wide b % 9223372036854775808, by unfold fabs64 fconv; rw [if_neg (by decide)]; rfl, ?_⟩
  unfold wide FloatKind.encode FloatKind.decode
  rw [hr]
  cases s <;> decide +kernel
theorem fits_abs2 {b : Nat} {X : Option Nat} (h : Fl .f32 b X) (hn : X ≠ none) : Fits .f64 .f32 (fabs64 X) := by
  have hX := h.eq
  rcases shape .f32 b with ⟨s, m2, e2, k⟩ | ⟨s, hr, _, _⟩ | k
  · exact fits_abs h (by rw [← hX]; exact k.ffin)
  · right
    intro x hx
    rw [fl_inf hr] at hX
    subst hX
    obtain ⟨c, h1, h2⟩ := inf_absF hr
    rw [h1] at hx
    cases hx
    left
    unfold FloatKind.decode
    rw [h2]; rfl
  · rw [k] at hX; exact absurd hX.symm hn
theorem above_fz : fabove fz = false := by decide +kernel
theorem sz_top {b : Nat} {X : Option Nat} (h : Fl .f32 b X) (hn : X ≠ none) : fabove (szP X) = fabove (topOf X) ∧ (fabove (topOf X) = true → szP X = topOf X) := by
  have hX := h.eq
  unfold szP topOf
  rcases shape .f32 b with ⟨s, m2, e2, k⟩ | ⟨s, hr, _, _⟩ | k
  · obtain ⟨m, e, hlt, hf, h1, _, h2⟩ := abs_form h (by rw [← hX]; exact k.ffin)
    rw [h1]
    rcases h2 with h2 | ⟨h2, h3⟩
    · rw [h2]
      cases hg : fgt32 (some (e * 8388608 + m)) fz
      · rw [if_neg (by decide), above_fz]
        refine ⟨?_, fun h => by cases h⟩
        unfold fabove gt0
        unfold fgt32 at hg
        rw [hg, Bool.and_false]
      · rw [if_pos rfl]
        exact ⟨rfl, fun _ => rfl⟩
    · rw [h2, h3, if_neg (by decide +kernel)]
      exact ⟨by decide +kernel, fun h => by rw [above_fz] at h; cases h⟩
  · rw [fl_inf hr] at hX
    subst hX
    obtain ⟨c, h1, h2⟩ := inf_absF hr
    have e1 : fconv .f64 .f32 (some c) = some 2139095040 := by
      show some (FloatKind.f32.format.write (FloatKind.f64.format.read c)) = _
      rw [h2]; decide +kernel
    have e2 : fabove (if fgt32 (fsz (some b)) fz = true then fsz (some b) else fz) = false := by
      split
      · rcases abs2 h hn with ⟨a, c', t, m, e, m', e', g1, g2, g3, g4, g5, g6⟩ | ⟨a, c', g1, g2, g4, g5⟩
        · exfalso
          rw [h1] at g4
          cases g4
          rw [g5.read] at h2; cases h2
        · rw [g1]
          unfold fabove ffin FloatKind.decode
          simp only [g2]
          rfl
      · exact above_fz
    rw [h1, e1, e2]
    exact ⟨by decide +kernel, fun h => by cases h⟩
  · rw [k] at hX; exact absurd hX.symm hn
/-- Both sides divide by the same. -/
theorem norm_same {L : List (Option Nat)} {n : Nat} (hn : tlen n = true) (hL : ∀ k, k < n → ∃ b, Fl .f32 b (L.getD k none)) :
    fabove (szP (xP L n)) = fabove (most L n) ∧ (fabove (most L n) = true → szP (xP L n) = most L n) ∧ xP L n ≠ none := by
  have hm := most_pk hL n (Nat.le_refl _)
  cases hp : pk L n with
  | none =>
    rw [hp] at hm
    dsimp only at hm
    have hx : xP L n = fz := by unfold xP okP; rw [hp, hn]; rfl
    rw [hm, hx]
    exact ⟨by decide +kernel, fun h => (by rw [above_fz] at h; cases h), by decide +kernel⟩
  | some j =>
    rw [hp] at hm
    dsimp only at hm
    obtain ⟨hjk, hSj⟩ := pk_lt hp
    obtain ⟨b, hb⟩ := hL j hjk
    have hnj : L.getD j none ≠ none := by intro h; rw [h] at hSj; cases hSj
    have hx : xP L n = L.getD j none := by unfold xP okP atP; rw [hp, hn]; rfl
    rw [hm, hx]
    exact ⟨(sz_top hb hnj).1, (sz_top hb hnj).2, hnj⟩
set_option maxRecDepth 20000 in
set_option maxHeartbeats 2000000 in
theorem c_absoluteOf2 {w : World} {b : Nat} {P : Option Nat} (fp : Fl .f32 b P) (hft : Fits .f64 .f32 (fabs64 P)) :
    Calls Try.prog 128 #[.float .f32 b] w fun e w' => ∃ r, e = .returned (.float .f32 r) ∧ Fl .f32 r (szP P) ∧ Dr w w' := by
  unfold szP
  go_enter Try.func128, Try.ntmps128
  go_wp2_with (first | (apply upon_wide s_f32 Try.underlying86; (exact fp); intro r4 n4 hr4) | (go_at_call 111; refine Calls.mono (c_Abs _ hr4.lt _) ?_; rintro e w5 ⟨rfl, rfl⟩; have hab := fabs64_fl hr4) | (apply upon_narrow s_f64 Try.underlying79; (exact hab); (exact hft); intro r6 n6 hr6))
  go_ret
  exact ⟨_, rfl, hr6, _, by first | rfl | (simp only [World.drewN_drewN]; rfl)⟩
theorem szP_fz : szP fz = fz := by decide +kernel
set_option maxRecDepth 20000 in
set_option maxHeartbeats 2000000 in
theorem c_greatestSize {w : World} {B n c : Nat} {A : Option Addr} {L : List (Option Nat)} (h : RdF w B A n L) (hn : n ≤ 1048576) (ht : tlen n = true) :
    Calls Try.prog 98 #[.slice A n c] w fun e w' => ∃ r, e = .returned (.float .f32 r) ∧ Fl .f32 r (szP (xP L n)) ∧ Dr w w' := by
  have cP := c_peakOf (c := c) h hn
  cases hp : pk L n with
  | none =>
    have hx : szP (xP L n) = fz := by unfold xP okP; rw [hp, ht]; exact szP_fz
    rw [hx]
    rw [show atP L n = 0 by unfold atP; rw [hp], show (pk L n).isSome = false by rw [hp]; rfl] at cP
    have CP := Lib.hid cP
    clear cP
    go_enter Try.func98, Try.ntmps98
    go_wp2_with (go_at_call 127; refine Calls.mono CP.out ?_; rintro e w1 ⟨rfl, n1, rfl⟩)
    go_ret
    exact ⟨_, rfl, fl_fz, _, rfl⟩
  | some j =>
    obtain ⟨hjk, hSj⟩ := pk_lt hp
    have hx : xP L n = L.getD j none := by unfold xP okP atP; rw [hp, ht]; rfl
    rw [hx]
    obtain ⟨b, off, q, rfl, hb, hq, hfq⟩ := h.cell hjk
    have hnj : L.getD j none ≠ none := by intro h; rw [h] at hSj; cases hSj
    have hjn : (j : Int) < (n : Int) := by omega
    rw [show atP L n = j by unfold atP; rw [hp], show (pk L n).isSome = true by rw [hp]; rfl] at cP
    have CP := Lib.hid cP
    have CA := Lib.hid (fun (W : World) => c_absoluteOf2 (w := W) hfq (fits_abs2 hfq hnj))
    clear cP h hSj hx
    go_enter Try.func98, Try.ntmps98
    go_wp2_with (first | (go_at_call 127; refine Calls.mono CP.out ?_; rintro e w1 ⟨rfl, n1, rfl⟩) | (go_at_call 128; refine Calls.mono (CA.out _) ?_; rintro e w2 ⟨r, rfl, hr, n2, rfl⟩))
    go_ret
    exact ⟨_, rfl, hr, _, by first | rfl | (simp only [World.drewN_drewN]; rfl)⟩
def nmF (G : Gat) (i t : Nat) : Option Nat := if fabove (most (G.r.getD i []) (G.r.getD i []).length) = true then fop .quo .f32 ((G.r.getD i []).getD t none) (most (G.r.getD i []) (G.r.getD i []).length) else (G.r.getD i []).getD t none
end Go.Proofs.Ytkbkjkjjoogieaa
