/- Curves, and what comes straight: roots, quotients, on both sides. No condition but that floats are 32 bits. -/
import Derived.Test.YtkbkjkjjoogieaaWb
import Derived.Test.YtkbkjkjjoogieaaUa
import Derived.Test.YtkbkjkjjoogieaaSq
namespace Go.Proofs.Ytkbkjkjjoogieaa
open Go.RowKit Ieee

def numX (x : Option Nat) : Option Nat := if ffin .f32 x then x else fz
def froot (x : Option Nat) : Option Nat := fconv .f64 .f32 (fsqrt (fconv .f32 .f64 x))
def fsq2 (a b : Option Nat) : Option Nat := froot (fop .add .f32 (fop .mul .f32 a a) (fop .mul .f32 b b))
def fcurve (S P V : Option Nat) : Option Nat := fsq2 S (fop .quo .f32 P V)
def fstraight (K Q : Option Nat) : Option Nat := froot (fop .sub .f32 (fop .mul .f32 K K) Q)
def fsqq (P V : Option Nat) : Option Nat := fop .mul .f32 (fop .quo .f32 P V) (fop .quo .f32 P V)

set_option maxRecDepth 20000 in
set_option maxHeartbeats 400000 in
theorem c_l02Above {x : Nat} {X : Option Nat} (h : Fl .f32 x X) (w : World) :
    Calls Try.prog 94 #[.float .f32 x] w fun e w' => e = .returned (.bool (fabove X)) ∧ Dr w w' := by
  have hg := h.ogt0
  cases hF : ffin .f32 X
  all_goals
    go_enter Try.func94, Try.ntmps94
    go_wp2_with (first | (go_at_call 122; refine Calls.mono (c_l01Finite h _) ?_; rw [hF]; rintro e w' ⟨rfl, n, rfl⟩))
    go_ret
    exact ⟨retb (by simp [fabove, hF]), _, rfl⟩
theorem new1 (w : World) (v : Value) (T : TypeId) (n : Nat) : ((w.drewN n).alloc (.cells #[v] T)).cell? ⟨w.heap.size, 0, none⟩ = some v ∧ ((w.drewN n).alloc (.cells #[v] T)).frozen? ⟨w.heap.size, 0, none⟩ = false := by
  have h := heap_alloc_new (w.drewN n) (.cells #[v] T)
  refine ⟨cell1' h, ?_⟩
  obtain ⟨_, _, h2⟩ := own_cell (k := 0) (n := 1) h rfl (by decide)
  exact h2
theorem new1_set (w : World) (v u : Value) (T : TypeId) (n : Nat) : (((w.drewN n).alloc (.cells #[v] T)).setCell ⟨w.heap.size, 0, none⟩ u).cell? ⟨w.heap.size, 0, none⟩ = some u :=
  cell1' (blk_set1 (heap_alloc_new (w.drewN n) (.cells #[v] T)) 0 u)
/-- Below zero, there is no root. -/
theorem froot_neg {b : Nat} {X : Option Nat} (h : Fl .f32 b X) (hn : lt0 X = true) : froot X = none := by
  have o1 := h.olt0
  rw [hn] at o1
  have hX := h.eq
  unfold froot
  rcases shape .f32 b with ⟨s, m, e, k⟩ | ⟨s, hr, _, _⟩ | k
  · rw [k.fl] at hX
    subst hX
    obtain ⟨m', e', k', hv⟩ := k.wide
    have hsm : s = true ∧ m ≠ 0 := by
      rw [k.order fin_zero, cmp_eq] at o1
      cases s
      · rw [sv_plus, sv_plus, if_neg (by omega)] at o1
        split at o1 <;> cases o1
      · refine ⟨rfl, fun h0 => ?_⟩
        subst h0
        rw [sv_minus, sv_plus] at o1
        simp at o1
    obtain ⟨rfl, hm⟩ := hsm
    have hm' : m' ≠ 0 := by
      intro h0
      rw [h0, Nat.zero_mul] at hv
      rcases Nat.mul_eq_zero.1 hv.symm with h2 | h2
      · exact hm h2
      · exact absurd h2 (Nat.pos_iff_ne_zero.1 (Nat.two_pow_pos _))
    have e1 : fconv .f32 .f64 (some b) = some (wide b) := rfl
    rw [e1]
    have e2 : fsqrt (some (wide b)) = none := by
      show FloatKind.f64.format.sqrt (wide b) = none
      unfold Format.sqrt
      rw [k'.read]
      simp [Datum.root, hm']
    rw [e2]; rfl
  · rw [fl_inf hr] at hX
    subst hX
    cases s
    · rw [show FloatKind.f32.format.order b 0 = some .gt from by unfold Format.order; rw [hr, fin_zero.read]; rfl] at o1
      cases o1
    · have e1 : fconv .f32 .f64 (some b) = some (wide b) := rfl
      rw [e1]
      have e2 : fsqrt (some (wide b)) = none := by
        show FloatKind.f64.format.sqrt (wide b) = none
        unfold Format.sqrt
        rw [wide_inf hr]
        simp [Datum.root]
      rw [e2]; rfl
  · rw [k] at hX
    subst hX
    rfl
theorem fbet_none (L : List (Option Nat)) : fbet L none = fz := fbet_lo rfl
theorem fbet_straight {L : List (Option Nat)} {q : Nat} {Q : Option Nat} (h : Fl .f32 q Q) (hn : lt0 Q = true) : fbet L (froot Q) = fz := by rw [froot_neg h hn]; exact fbet_none L
end Go.Proofs.Ytkbkjkjjoogieaa
