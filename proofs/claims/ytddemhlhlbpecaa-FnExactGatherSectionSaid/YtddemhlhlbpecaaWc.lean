/- Curves, and what comes straight: roots, quotients, on both sides. No condition but that floats are 32 bits. -/
import Derived.Test.YtddemhlhlbpecaaWb
import Derived.Test.YtddemhlhlbpecaaUa
import Derived.Test.YtddemhlhlbpecaaSq
namespace Go.Proofs.Ytddemhlhlbpecaa
open Go.RowKit Ieee

def numX (x : Option Nat) : Option Nat := if ffin .f32 x then x else fz
def froot (x : Option Nat) : Option Nat := fconv .f64 .f32 (fsqrt (fconv .f32 .f64 x))
def fsq2 (a b : Option Nat) : Option Nat := froot (fop .add .f32 (fop .mul .f32 a a) (fop .mul .f32 b b))
def fcurve (S P V : Option Nat) : Option Nat := fsq2 S (fop .quo .f32 P V)
def fstraight (K Q : Option Nat) : Option Nat := froot (fop .sub .f32 (fop .mul .f32 K K) Q)
def fsqq (P V : Option Nat) : Option Nat := fop .mul .f32 (fop .quo .f32 P V) (fop .quo .f32 P V)

set_option maxRecDepth 20000 in
set_option maxHeartbeats 400000 in
theorem c_l01Sqrt {x : Nat} {X : Option Nat} (h : Fl .f32 x X) (w : World) :
    Calls Try.prog 122 #[.float .f32 x] w fun e w' => ∃ r, e = .returned (.float .f32 r) ∧ Fl .f32 r (froot X) ∧ Dr w w' := by
  have hf := fits_root h
  go_enter Try.func122, Try.ntmps122
  go_wp2_with (first | (apply upon_wide s_f32 Try.underlying41; (first | assumption | exact Fl.const (of_decide_eq_true (by kernel_rfl))); intro r n hr) | (go_at_call 156; refine Calls.mono (c_Sqrt (by assumption) _) ?_; rintro e w' ⟨r, rfl, hr, n, rfl⟩) | (apply upon_narrow s_f64 Try.underlying22; (first | assumption | exact Fl.const (of_decide_eq_true (by kernel_rfl))); assumption; intro r n hr) | go_in)
  go_ret
  exact ⟨_, rfl, by assumption, _, rfl⟩
set_option maxRecDepth 20000 in
set_option maxHeartbeats 400000 in
theorem c_RootNumber {x : Nat} {X : Option Nat} (h : Fl .f32 x X) (w : World) :
    Calls Try.prog 157 #[.float .f32 x] w fun e w' => ∃ r, e = .returned (.float .f32 r) ∧ Fl .f32 r (froot X) ∧ Dr w w' := by
  have hf := fits_root h
  go_enter Try.func157, Try.ntmps157
  go_wp2_with (first | (apply upon_wide s_f32 Try.underlying41; (first | assumption | exact Fl.const (of_decide_eq_true (by kernel_rfl))); intro r n hr) | (go_at_call 156; refine Calls.mono (c_Sqrt (by assumption) _) ?_; rintro e w' ⟨r, rfl, hr, n, rfl⟩) | (apply upon_narrow s_f64 Try.underlying22; (first | assumption | exact Fl.const (of_decide_eq_true (by kernel_rfl))); assumption; intro r n hr) | go_in)
  go_ret
  exact ⟨_, rfl, by assumption, _, rfl⟩
set_option maxRecDepth 20000 in
set_option maxHeartbeats 400000 in
theorem c_l02Above {x : Nat} {X : Option Nat} (h : Fl .f32 x X) (w : World) :
    Calls Try.prog 78 #[.float .f32 x] w fun e w' => e = .returned (.bool (fabove X)) ∧ Dr w w' := by
  have hg := h.ogt0
  cases hF : ffin .f32 X
  all_goals
    go_enter Try.func78, Try.ntmps78
    go_wp2_with (first | (go_at_call 128; refine Calls.mono (c_l01Finite h _) ?_; rw [hF]; rintro e w' ⟨rfl, n, rfl⟩))
    go_ret
    exact ⟨retb (by simp [fabove, hF]), _, rfl⟩
set_option maxRecDepth 20000 in
set_option maxHeartbeats 400000 in
theorem c_l02Way {x : Nat} {X : Option Nat} (h : Fl .f32 x X) (w : World) :
    Calls Try.prog 97 #[.float .f32 x] w fun e w' => e = .returned (.bool (fway X)) ∧ Dr w w' := by
  have hg := h.oge0
  cases hF : ffin .f32 X
  all_goals
    go_enter Try.func97, Try.ntmps97
    go_wp2_with (first | (go_at_call 128; refine Calls.mono (c_l01Finite h _) ?_; rw [hF]; rintro e w' ⟨rfl, n, rfl⟩))
    go_ret
    exact ⟨retb (by simp [fway, hF]), _, rfl⟩
set_option maxRecDepth 20000 in
set_option maxHeartbeats 400000 in
theorem c_isDistance {x : Nat} {X : Option Nat} (h : Fl .f32 x X) (w : World) :
    Calls Try.prog 100 #[.float .f32 x] w fun e w' => e = .returned (.bool (fway X)) ∧ Dr w w' := by
  have hg := h.oge0
  cases hF : ffin .f32 X
  all_goals
    go_enter Try.func100, Try.ntmps100
    go_wp2_with (first | (go_at_call 137; refine Calls.mono (c_impl_IsFinite h _) ?_; rw [hF]; rintro e w' ⟨rfl, n, rfl⟩))
    go_ret
    exact ⟨retb (by simp [fway, hF]), _, rfl⟩
set_option linter.unusedSimpArgs false in
set_option maxRecDepth 20000 in
set_option maxHeartbeats 400000 in
theorem c_rootOfSquares {a b : Nat} {A B : Option Nat} (ha : Fl .f32 a A) (hb : Fl .f32 b B) (w : World) :
    Calls Try.prog 125 #[.float .f32 a, .float .f32 b] w fun e w' => ∃ r, e = .returned (.float .f32 r) ∧ Fl .f32 r (fsq2 A B) ∧ Dr w w' := by
  go_enter Try.func125, Try.ntmps125
  go_wp2_with (first | (go_at_call 117; go_in) | (go_at_call 157; refine Calls.mono (c_RootNumber (by assumption) _) ?_; rintro e w' ⟨r9, rfl, hr9, n, rfl⟩) | (apply upon_fop rfl; (first | assumption | exact Fl.const (of_decide_eq_true (by kernel_rfl))); (first | assumption | exact Fl.const (of_decide_eq_true (by kernel_rfl))); intro r n hr))
  go_ret
  exact ⟨_, rfl, by assumption, _, rfl⟩
set_option maxRecDepth 20000 in
set_option maxHeartbeats 400000 in
theorem c_l04Curve {s p v : Nat} {S P V : Option Nat} (fs : Fl .f32 s S) (fp : Fl .f32 p P) (fv : Fl .f32 v V) (w : World) :
    Calls Try.prog 99 #[.float .f32 s, .float .f32 p, .float .f32 v] w fun e w' => ∃ r, e = .returned (.float .f32 r) ∧ Fl .f32 r (fcurve S P V) ∧ Dr w w' := by
  go_enter Try.func99, Try.ntmps99
  go_wp2_with (first | (go_at_call 122; refine Calls.mono (c_l01Sqrt (by assumption) _) ?_; rintro e w' ⟨r9, rfl, hr9, n, rfl⟩) | (apply upon_fop rfl; (exact fp); (exact fv); intro r5 n5 hr5) | (apply upon_fop rfl; (exact fs); (exact fs); intro r6 n6 hr6) | (apply upon_fop rfl; (exact hr5); (exact hr5); intro r7 n7 hr7) | (apply upon_fop rfl; (exact hr6); (exact hr7); intro r8 n8 hr8))
  go_ret
  exact ⟨_, rfl, by assumption, _, rfl⟩
set_option maxRecDepth 20000 in
set_option maxHeartbeats 400000 in
theorem c_curve1 {w : World} {g q k : Nat} {Q K : Option Nat} (hg : w.cell? ⟨g, 0, none⟩ = some (.float .f32 q)) (fq : Fl .f32 q Q) (fk : Fl .f32 k K) :
    Calls Try.prog 145 #[.float .f32 k, .pointer (some ⟨g, 0, none⟩)] w fun e w' => ∃ r, e = .returned (.float .f32 r) ∧ Fl .f32 r (fsq2 K Q) ∧ Dr w w' := by
  go_enter Try.func145, Try.ntmps145
  go_wp2_with (go_at_call 125; refine Calls.mono (c_rootOfSquares fk fq _) ?_; rintro e w' ⟨r9, rfl, hr9, n, rfl⟩)
  go_ret
  exact ⟨_, rfl, by assumption, _, rfl⟩
theorem new1 (w : World) (v : Value) (T : TypeId) (n : Nat) : ((w.drewN n).alloc (.cells #[v] T)).cell? ⟨w.heap.size, 0, none⟩ = some v ∧ ((w.drewN n).alloc (.cells #[v] T)).frozen? ⟨w.heap.size, 0, none⟩ = false := by
  have h := heap_alloc_new (w.drewN n) (.cells #[v] T)
  refine ⟨cell1' h, ?_⟩
  obtain ⟨_, _, h2⟩ := own_cell (k := 0) (n := 1) h rfl (by decide)
  exact h2
theorem new1_set (w : World) (v u : Value) (T : TypeId) (n : Nat) : (((w.drewN n).alloc (.cells #[v] T)).setCell ⟨w.heap.size, 0, none⟩ u).cell? ⟨w.heap.size, 0, none⟩ = some u :=
  cell1' (blk_set1 (heap_alloc_new (w.drewN n) (.cells #[v] T)) 0 u)
set_option maxRecDepth 20000 in
set_option maxHeartbeats 400000 in
theorem c_curveOf {w : World} {p v : Nat} {P V : Option Nat} (fp : Fl .f32 p P) (fv : Fl .f32 v V) :
    Calls Try.prog 101 #[.float .f32 p, .float .f32 v] w fun e w' => ∃ g q, e = .returned (.func (.func 145) #[] #[.pointer (some ⟨g, 0, none⟩)]) ∧ w.heap.size ≤ g ∧ g < w'.heap.size ∧ w'.cell? ⟨g, 0, none⟩ = some (.float .f32 q) ∧ Fl .f32 q (fop .quo .f32 P V) ∧ Ext w w' := by
  go_enter Try.func101, Try.ntmps101
  go_wp2_with (apply upon_fop rfl; (exact fp); (exact fv); intro r8 n8 hr8; obtain ⟨q1, q2⟩ := new1 w (.float .f32 0) 22 n8)
  go_ret
  exact ⟨_, _, rfl, Nat.le_refl _, by simp, new1_set _ _ _ _ _, hr8, (by repeat (first | assumption | exact Ext.refl _ | apply Ext.drewN | apply Ext.drew | apply Ext.alloc | (refine Ext.trans ?_ (by assumption)) | (refine Ext.set ?_ (by dsimp only; omega) _)))⟩
/-- Below zero, there is no root. -/
theorem froot_neg {b : Nat} {X : Option Nat} (h : Fl .f32 b X) (hn : lt0 X = true) : froot X = none := by
  have o1 := h.olt0
  rw [hn] at o1
  have hX := h.eq
  unfold froot
  rcases shape .f32 b with ⟨s, m, e, k⟩ | ⟨s, hr, _, _⟩ | k
  · rw [k.fl] at hX
    subst hX
    obtain ⟨m', e', k', hv⟩ := k.wide
    have hsm : s = true ∧ m ≠ 0 := by
      rw [k.order fin_zero, cmp_eq] at o1
      cases s
      · rw [sv_plus, sv_plus, if_neg (by omega)] at o1
        split at o1 <;> cases o1
      · refine ⟨rfl, fun h0 => ?_⟩
        subst h0
        rw [sv_minus, sv_plus] at o1
        simp at o1
    obtain ⟨rfl, hm⟩ := hsm
    have hm' : m' ≠ 0 := by
      intro h0
      rw [h0, Nat.zero_mul] at hv
      rcases Nat.mul_eq_zero.1 hv.symm with h2 | h2
      · exact hm h2
      · exact absurd h2 (Nat.pos_iff_ne_zero.1 (Nat.two_pow_pos _))
    have e1 : fconv .f32 .f64 (some b) = some (wide b) := rfl
    rw [e1]
    have e2 : fsqrt (some (wide b)) = none := by
      show FloatKind.f64.format.sqrt (wide b) = none
      unfold Format.sqrt
      rw [k'.read]
      simp [Datum.root, hm']
    rw [e2]; rfl
  · rw [fl_inf hr] at hX
    subst hX
    cases s
    · rw [show FloatKind.f32.format.order b 0 = some .gt from by unfold Format.order; rw [hr, fin_zero.read]; rfl] at o1
      cases o1
    · have e1 : fconv .f32 .f64 (some b) = some (wide b) := rfl
      rw [e1]
      have e2 : fsqrt (some (wide b)) = none := by
        show FloatKind.f64.format.sqrt (wide b) = none
        unfold Format.sqrt
        rw [wide_inf hr]
        simp [Datum.root]
      rw [e2]; rfl
  · rw [k] at hX
    subst hX
    rfl
theorem fbet_none (L : List (Option Nat)) : fbet L none = fz := fbet_lo rfl
theorem fbet_straight {L : List (Option Nat)} {q : Nat} {Q : Option Nat} (h : Fl .f32 q Q) (hn : lt0 Q = true) : fbet L (froot Q) = fz := by rw [froot_neg h hn]; exact fbet_none L
end Go.Proofs.Ytddemhlhlbpecaa
