/- Contracts: sizes of sections, valid sections, on both sides. No condition. -/
import Derived.Test.YtddemhlhlbpecaaXa
import Derived.Test.YtddemhlhlbpecaaTr
import Derived.Deep.QuietTactic
namespace Go.Proofs.Ytddemhlhlbpecaa
open Go.RowKit Go.ChangeShapes Go.WideShapes Go.Deep Ieee
set_option linter.unusedVariables false
set_option linter.unusedSimpArgs false
attribute [local irreducible] wpQuiet

/-- A section may be so wide and so deep. -/
def sizeT (x z : Int) : Bool := inB x 1 16 && inB z 1 16
/-- A section is valid. -/
def fvT (S : Sct) : Bool := sizeT S.x S.z && ((S.v.length : Int) == S.x * S.z)
theorem sizeT_of {x z : Int} (h : sizeT x z = true) : ∃ a b n : Nat, x = (a : Int) ∧ z = (b : Int) ∧ 1 ≤ a ∧ a ≤ 16 ∧ 1 ≤ b ∧ b ≤ 16 ∧ a * b = n ∧ 1 ≤ n ∧ n ≤ 256 ∧ (a : Int) * (b : Int) = (n : Int) := by
  unfold sizeT at h
  rw [Bool.and_eq_true] at h
  obtain ⟨h1, h2⟩ := inB_of h.1
  obtain ⟨h3, h4⟩ := inB_of h.2
  have e1 : x = ((x.toNat : Nat) : Int) := by omega
  have e2 : z = ((z.toNat : Nat) : Int) := by omega
  refine ⟨x.toNat, z.toNat, x.toNat * z.toNat, e1, e2, by omega, by omega, by omega, by omega, rfl, ?_, ?_, by simp⟩
  · exact Nat.mul_pos (by omega) (by omega)
  · exact Nat.mul_le_mul (by omega : x.toNat ≤ 16) (by omega : z.toNat ≤ 16)
theorem fvT_of {S : Sct} (h : fvT S = true) : ∃ a b n : Nat, S.x = (a : Int) ∧ S.z = (b : Int) ∧ S.v.length = n ∧ 1 ≤ a ∧ a ≤ 16 ∧ 1 ≤ b ∧ b ≤ 16 ∧ a * b = n ∧ 1 ≤ n ∧ n ≤ 256 ∧ (a : Int) * (b : Int) = (n : Int) := by
  unfold fvT at h
  rw [Bool.and_eq_true] at h
  obtain ⟨a, b, n, e1, e2, h1, h2, h3, h4, h5, h6, h7, h8⟩ := sizeT_of h.1
  refine ⟨a, b, n, e1, e2, ?_, h1, h2, h3, h4, h5, h6, h7, h8⟩
  have := h.2
  rw [e1, e2, h8] at this
  have := eq_of_beq this
  omega
set_option maxRecDepth 20000 in
set_option maxHeartbeats 400000 in
theorem c_l06Size (x z : Int) (w : World) : Calls Try.prog 59 #[.int .i64 x, .int .i64 z] w fun e w' => e = .returned (.bool (sizeT x z)) ∧ w' = w := by
  unfold sizeT
  have hx := fun W => c_l00In x 1 16 W
  have hz := fun W => c_l00In z 1 16 W
  cases hX : inB x 1 16
  · rw [hX] at hx
    go_enter Try.func59, Try.ntmps59
    go_wp2_with (go_at_call 120; refine Calls.mono (hx _) ?_; rintro e w1 ⟨rfl, rfl⟩)
    go_ret
    exact ⟨rfl, rfl⟩
  rw [hX] at hx
  rw [Bool.true_and]
  cases hZ : inB z 1 16
  all_goals
    rw [hZ] at hz
    go_enter Try.func59, Try.ntmps59
    go_wp2_with (first | (go_at_call_of 120 x; refine Calls.mono (hx _) ?_; rintro e w1 ⟨rfl, rfl⟩) | (go_at_call_of 120 z; refine Calls.mono (hz _) ?_; rintro e w1 ⟨rfl, rfl⟩))
    go_ret
    exact ⟨rfl, rfl⟩
set_option linter.unusedSimpArgs false in
set_option maxRecDepth 20000 in
set_option maxHeartbeats 400000 in
theorem c_isSize (x z : Int) (w : World) : Calls Try.prog 63 #[.int .i64 x, .int .i64 z] w fun e w' => e = .returned (.bool (sizeT x z)) ∧ w' = w := by
  unfold sizeT inB
  by_cases h1 : 1 ≤ x
  · by_cases h2 : x ≤ 16
    · by_cases h3 : 1 ≤ z
      · by_cases h4 : z ≤ 16
        all_goals
          simp only [h1, h2, h3, h4, decide_true, decide_false, Bool.and_true, Bool.and_false]
          go_enter Try.func63, Try.ntmps63
          go_wp2_with (fail)
          go_ret
          exact ⟨rfl, rfl⟩
      · simp only [h1, h2, h3, decide_true, decide_false, Bool.and_true, Bool.and_false, Bool.false_and]
        go_enter Try.func63, Try.ntmps63
        go_wp2_with (fail)
        go_ret
        exact ⟨rfl, rfl⟩
    · simp only [h1, h2, decide_true, decide_false, Bool.and_true, Bool.and_false, Bool.false_and]
      go_enter Try.func63, Try.ntmps63
      go_wp2_with (fail)
      go_ret
      exact ⟨rfl, rfl⟩
  · simp only [h1, decide_false, Bool.false_and]
    go_enter Try.func63, Try.ntmps63
    go_wp2_with (fail)
    go_ret
    exact ⟨rfl, rfl⟩
set_option maxRecDepth 20000 in
set_option maxHeartbeats 4000000 in
theorem c_l06Is {w : World} {b n c : Nat} {A : Option Addr} {S : Sct} (hb : SbAt w b S.x S.z A n c) (hl : S.v.length = n) (hn : n ≤ 1048576) :
    Calls Try.prog 68 #[.pointer (some ⟨b, 0, none⟩)] w fun e w' => e = .returned (.bool (fvT S)) ∧ Dr w w' := by
  obtain ⟨p0, p1, p2, _⟩ := hb
  unfold fvT
  rw [hl]
  have cT : ∀ W, Calls Try.prog 59 #[.int .i64 S.x, .int .i64 S.z] W fun e w' => e = .returned (.bool (sizeT S.x S.z)) ∧ w' = W := fun W => c_l06Size _ _ W
  cases hT : sizeT S.x S.z
  · rw [hT] at cT
    rw [Bool.false_and]
    clear hT
    go_enter Try.func68, Try.ntmps68
    go_wp2_with (fail)
    go_quiet (first | (go_at_call 59; exact Calls.quiet_of_same (cT _)))
    go_wp2_with (fail)
    go_ret
    exact ⟨rfl, _, rfl⟩
  rw [hT] at cT
  rw [Bool.true_and]
  obtain ⟨a, d, m, e1, e2, h1, h2, h3, h4, h5, h6, h7, h8⟩ := sizeT_of hT
  rw [e1] at cT p0 ⊢
  rw [e2] at cT p1 ⊢
  rw [h8]
  have hwr := IntWalk.i64_in (m : Int) (by omega)
  clear hT
  by_cases hnm : n = m
  · subst hnm
    have q1 : ((n : Int) == (n : Int)) = true := by simp
    rw [q1]
    go_enter Try.func68, Try.ntmps68
    go_wp2_with (fail)
    go_quiet (first | (go_at_call 59; exact Calls.quiet_of_same (cT _)))
    go_wp2_with (fail)
    go_ret
    exact ⟨rfl, _, rfl⟩
  · have q1 : ((n : Int) == (m : Int)) = false := by rw [beq_eq_false_iff_ne]; omega
    rw [q1]
    go_enter Try.func68, Try.ntmps68
    go_wp2_with (fail)
    go_quiet (first | (go_at_call 59; exact Calls.quiet_of_same (cT _)))
    go_wp2_with (fail)
    go_ret
    exact ⟨rfl, _, rfl⟩
set_option maxRecDepth 20000 in
set_option maxHeartbeats 4000000 in
theorem c_impl_ValidSection {w : World} {B : Nat} {u : Value} {S : Sct} (h : RdT w B u S) (_hB : B ≤ w.heap.size) (h1 : S.v.length ≤ 1048576) :
    Calls Try.prog 71 #[u] w fun e w' => e = .returned (.bool (fvT S)) ∧ Ext w w' := by
  obtain ⟨A, c, rfl, hp, _⟩ := h.ex
  have hbox : SbAt (w.alloc (.cells #[.int .i64 S.x, .int .i64 S.z, .slice A S.v.length c] 38)) w.heap.size S.x S.z A S.v.length c := SbAt.blk (T := 38) (by repeat (first | (refine al_at ?_ ?_ <;> first | rfl | (simp only [al_size] <;> omega)) | apply al_old))
  obtain ⟨p0, p1, p2, _⟩ := hbox
  unfold fvT
  have cT : ∀ W, Calls Try.prog 63 #[.int .i64 S.x, .int .i64 S.z] W fun e w' => e = .returned (.bool (sizeT S.x S.z)) ∧ w' = W := fun W => c_isSize _ _ W
  cases hT : sizeT S.x S.z
  · rw [hT] at cT
    rw [Bool.false_and]
    clear hT
    go_enter Try.func71, Try.ntmps71
    go_wp2_with (go_at_call 63; refine Calls.mono (cT _) ?_; rintro e w1 ⟨rfl, rfl⟩)
    go_ret
    exact ⟨rfl, (by repeat (first | assumption | exact Ext.refl _ | apply Ext.drewN | apply Ext.drew | apply Ext.alloc | (refine Ext.trans ?_ (by assumption)) | (refine Ext.set ?_ (by dsimp only; omega) _)))⟩
  rw [hT] at cT
  rw [Bool.true_and]
  obtain ⟨a, d, m, e1, e2, h1, h2, h3, h4, h5, h6, h7, h8⟩ := sizeT_of hT
  rw [e1] at cT p0 ⊢
  rw [e2] at cT p1 ⊢
  rw [h8]
  have hwr := IntWalk.i64_in (m : Int) (by omega)
  clear hT
  obtain ⟨n, hn⟩ : ∃ n, S.v.length = n := ⟨_, rfl⟩
  rw [hn] at p2 ⊢
  by_cases hnm : n = m
  · subst hnm
    have q1 : ((n : Int) == (n : Int)) = true := by simp
    rw [q1]
    go_enter Try.func71, Try.ntmps71
    go_wp2_with (go_at_call 63; refine Calls.mono (cT _) ?_; rintro e w1 ⟨rfl, rfl⟩)
    go_ret
    exact ⟨rfl, (by repeat (first | assumption | exact Ext.refl _ | apply Ext.drewN | apply Ext.drew | apply Ext.alloc | (refine Ext.trans ?_ (by assumption)) | (refine Ext.set ?_ (by dsimp only; omega) _)))⟩
  · have q1 : ((n : Int) == (m : Int)) = false := by rw [beq_eq_false_iff_ne]; omega
    rw [q1]
    go_enter Try.func71, Try.ntmps71
    go_wp2_with (go_at_call 63; refine Calls.mono (cT _) ?_; rintro e w1 ⟨rfl, rfl⟩)
    go_ret
    exact ⟨rfl, (by repeat (first | assumption | exact Ext.refl _ | apply Ext.drewN | apply Ext.drew | apply Ext.alloc | (refine Ext.trans ?_ (by assumption)) | (refine Ext.set ?_ (by dsimp only; omega) _)))⟩
end Go.Proofs.Ytddemhlhlbpecaa
