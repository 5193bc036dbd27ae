/- Contracts: the same frame. Condition: the frames are read. -/
import Derived.Test.YtkbkjkjjoogieaaXa
import Derived.Test.YtkbkjkjjoogieaaYh
namespace Go.Proofs.Ytkbkjkjjoogieaa
open Go.RowKit Go.ChangeShapes Go.WideShapes Go.Deep Ieee
set_option linter.unusedVariables false
set_option linter.unusedSimpArgs false

/-- Frames are the same. -/
def sameF (S U : Sct) : Bool := decide (S.x = U.x) && (decide (S.z = U.z) && sameL S.v U.v)
set_option maxRecDepth 20000 in
set_option maxHeartbeats 4000000 in
theorem c_spec_SameFrame {w : World} {B : Nat} {u : Value} {S : Sct} (h : RdT w B u S) (hB : B ≤ w.heap.size) (h1 : S.v.length ≤ 1048576) {B' : Nat} {u' : Value} {U : Sct} (h' : RdT w B' u' U) (hB' : B' ≤ w.heap.size) (h1' : U.v.length ≤ 1048576) :
    Calls Try.prog 20 #[u, u'] w fun e w' => e = .returned (.bool (sameF S U)) ∧ Ext w w' := by
  obtain ⟨A, c, rfl, hp, _⟩ := h.ex
  obtain ⟨A', c', rfl, hp', _⟩ := h'.ex
  clear h h'
  obtain ⟨x, z, L⟩ := S
  obtain ⟨x', z', L'⟩ := U
  unfold sameF
  dsimp only at hp hp' h1 h1' ⊢
  have hbox : SbAt ((w.alloc (.cells #[.int .i64 x, .int .i64 z, .slice A L.length c] 27)).alloc (.cells #[.int .i64 x', .int .i64 z', .slice A' L'.length c'] 27)) w.heap.size x z A L.length c := SbAt.blk (T := 27) (by repeat (first | (refine al_at ?_ ?_ <;> first | rfl | (simp only [al_size] <;> omega)) | apply al_old))
  have hbox' : SbAt ((w.alloc (.cells #[.int .i64 x, .int .i64 z, .slice A L.length c] 27)).alloc (.cells #[.int .i64 x', .int .i64 z', .slice A' L'.length c'] 27)) (w.heap.size + 1) x' z' A' L'.length c' := SbAt.blk (T := 27) (al_at (al_size _ _).symm rfl)
  obtain ⟨p0, p1, p2, _⟩ := hbox
  obtain ⟨q0, q1, q2, _⟩ := hbox'
  have cL := fun (W : World) (hx : Ext w W) => c_l01SameAll (w := W) (c := c) (c' := c') (hp.below (hx.mono hB)) (hp'.below (hx.mono hB')) h1 h1'
  clear hp hp'
  by_cases hx : x = x'
  · subst hx
    by_cases hz : z = z'
    · subst hz
      simp only [decide_true, Bool.true_and]
      cases hL : sameL L L'
      all_goals
        rw [hL] at cL
        have CL := Lib.hid cL
        clear cL hL
        go_enter Try.func20, Try.ntmps20
        go_wp2_with (go_at_call 65; refine Calls.mono (CL.out _ (by repeat (first | assumption | exact Ext.refl _ | apply Ext.drewN | apply Ext.drew | apply Ext.alloc | (refine Ext.trans ?_ (by assumption)) | (refine Ext.set ?_ (by dsimp only; omega) _)))) ?_; rintro e w2 ⟨rfl, n2, rfl⟩)
        go_ret
        exact ⟨rfl, (by repeat (first | assumption | exact Ext.refl _ | apply Ext.drewN | apply Ext.drew | apply Ext.alloc | (refine Ext.trans ?_ (by assumption)) | (refine Ext.set ?_ (by dsimp only; omega) _)))⟩
    · have e2 : (z == z') = false := by simp [hz]
      simp only [hz, decide_true, decide_false, Bool.true_and, Bool.false_and]
      clear hz cL
      go_enter Try.func20, Try.ntmps20
      go_wp2_with (fail)
      go_ret
      exact ⟨rfl, (by repeat (first | assumption | exact Ext.refl _ | apply Ext.drewN | apply Ext.drew | apply Ext.alloc | (refine Ext.trans ?_ (by assumption)) | (refine Ext.set ?_ (by dsimp only; omega) _)))⟩
  · have e1 : (x == x') = false := by simp [hx]
    simp only [hx, decide_false, Bool.false_and]
    clear hx cL
    go_enter Try.func20, Try.ntmps20
    go_wp2_with (fail)
    go_ret
    exact ⟨rfl, (by repeat (first | assumption | exact Ext.refl _ | apply Ext.drewN | apply Ext.drew | apply Ext.alloc | (refine Ext.trans ?_ (by assumption)) | (refine Ext.set ?_ (by dsimp only; omega) _)))⟩
set_option maxRecDepth 20000 in
set_option maxHeartbeats 4000000 in
theorem c_impl_SameFrame {w : World} {B : Nat} {u : Value} {S : Sct} (h : RdT w B u S) (hB : B ≤ w.heap.size) (h1 : S.v.length ≤ 1048576) {B' : Nat} {u' : Value} {U : Sct} (h' : RdT w B' u' U) (hB' : B' ≤ w.heap.size) (h1' : U.v.length ≤ 1048576) :
    Calls Try.prog 21 #[u, u'] w fun e w' => e = .returned (.bool (sameF S U)) ∧ Ext w w' := by
  obtain ⟨A, c, rfl, hp, _⟩ := h.ex
  obtain ⟨A', c', rfl, hp', _⟩ := h'.ex
  clear h h'
  obtain ⟨x, z, L⟩ := S
  obtain ⟨x', z', L'⟩ := U
  unfold sameF
  dsimp only at hp hp' h1 h1' ⊢
  have hbox : SbAt ((w.alloc (.cells #[.int .i64 x, .int .i64 z, .slice A L.length c] 27)).alloc (.cells #[.int .i64 x', .int .i64 z', .slice A' L'.length c'] 27)) w.heap.size x z A L.length c := SbAt.blk (T := 27) (by repeat (first | (refine al_at ?_ ?_ <;> first | rfl | (simp only [al_size] <;> omega)) | apply al_old))
  have hbox' : SbAt ((w.alloc (.cells #[.int .i64 x, .int .i64 z, .slice A L.length c] 27)).alloc (.cells #[.int .i64 x', .int .i64 z', .slice A' L'.length c'] 27)) (w.heap.size + 1) x' z' A' L'.length c' := SbAt.blk (T := 27) (al_at (al_size _ _).symm rfl)
  obtain ⟨p0, p1, p2, _⟩ := hbox
  obtain ⟨q0, q1, q2, _⟩ := hbox'
  have cL := fun (W : World) (hx : Ext w W) => c_sameNumbers (w := W) (c := c) (c' := c') (hp.below (hx.mono hB)) (hp'.below (hx.mono hB')) h1 h1'
  clear hp hp'
  by_cases hx : x = x'
  · subst hx
    by_cases hz : z = z'
    · subst hz
      simp only [decide_true, Bool.true_and]
      cases hL : sameL L L'
      all_goals
        rw [hL] at cL
        have CL := Lib.hid cL
        clear cL hL
        go_enter Try.func21, Try.ntmps21
        go_wp2_with (go_at_call 66; refine Calls.mono (CL.out _ (by repeat (first | assumption | exact Ext.refl _ | apply Ext.drewN | apply Ext.drew | apply Ext.alloc | (refine Ext.trans ?_ (by assumption)) | (refine Ext.set ?_ (by dsimp only; omega) _)))) ?_; rintro e w2 ⟨rfl, n2, rfl⟩)
        go_ret
        exact ⟨rfl, (by repeat (first | assumption | exact Ext.refl _ | apply Ext.drewN | apply Ext.drew | apply Ext.alloc | (refine Ext.trans ?_ (by assumption)) | (refine Ext.set ?_ (by dsimp only; omega) _)))⟩
    · have e2 : (z == z') = false := by simp [hz]
      simp only [hz, decide_true, decide_false, Bool.true_and, Bool.false_and]
      clear hz cL
      go_enter Try.func21, Try.ntmps21
      go_wp2_with (fail)
      go_ret
      exact ⟨rfl, (by repeat (first | assumption | exact Ext.refl _ | apply Ext.drewN | apply Ext.drew | apply Ext.alloc | (refine Ext.trans ?_ (by assumption)) | (refine Ext.set ?_ (by dsimp only; omega) _)))⟩
  · have e1 : (x == x') = false := by simp [hx]
    simp only [hx, decide_false, Bool.false_and]
    clear hx cL
    go_enter Try.func21, Try.ntmps21
    go_wp2_with (fail)
    go_ret
    exact ⟨rfl, (by repeat (first | assumption | exact Ext.refl _ | apply Ext.drewN | apply Ext.drew | apply Ext.alloc | (refine Ext.trans ?_ (by assumption)) | (refine Ext.set ?_ (by dsimp only; omega) _)))⟩
theorem both_SameFrame {S0 : Sct} (za0 : S0.v.length ≤ 1048576) (_hok0 : S0.Ok) {S1 : Sct} (za1 : S1.v.length ≤ 1048576) (_hok1 : S1.Ok) :
    ∃ X, (∀ W : World, ∀ (B0 : Nat) (v0 : Value), RdT W B0 v0 S0 → B0 ≤ W.heap.size → ∀ (B1 : Nat) (v1 : Value), RdT W B1 v1 S1 → B1 ≤ W.heap.size → Calls Try.prog 20 #[v0, v1] W fun e w' => e = .returned (.bool X) ∧ Ext W w') ∧
      (∀ W : World, ∀ (B0 : Nat) (v0 : Value), RdT W B0 v0 S0 → B0 ≤ W.heap.size → ∀ (B1 : Nat) (v1 : Value), RdT W B1 v1 S1 → B1 ≤ W.heap.size → Calls Try.prog 21 #[v0, v1] W fun e w' => e = .returned (.bool X) ∧ Ext W w') :=
  ⟨sameF S0 S1, fun _ _ _ h0 hB0 _ _ h1 hB1 => c_spec_SameFrame h0 hB0 za0 h1 hB1 za1, fun _ _ _ h0 hB0 _ _ h1 hB1 => c_impl_SameFrame h0 hB0 za0 h1 hB1 za1⟩
end Go.Proofs.Ytkbkjkjjoogieaa
