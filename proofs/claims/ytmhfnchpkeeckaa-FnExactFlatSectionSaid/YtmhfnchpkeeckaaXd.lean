/- Contracts: the same section, two sections of one size; sections copied and made. Condition: the sections are read. -/
import Derived.Test.YtmhfnchpkeeckaaXc
import Derived.Test.YtmhfnchpkeeckaaYh
import Derived.Test.YtmhfnchpkeeckaaYm
namespace Go.Proofs.Ytmhfnchpkeeckaa
open Go.RowKit Go.ChangeShapes Go.WideShapes Go.Deep Ieee
set_option linter.unusedVariables false
set_option linter.unusedSimpArgs false
attribute [local irreducible] wpQuiet

/-- Sections are the same. -/
def sameT (S U : Sct) : Bool := decide (S.x = U.x) && (decide (S.z = U.z) && sameL S.v U.v)
/-- Sections are valid and of one size. -/
def twoT (S U : Sct) : Bool := fvT S && (fvT U && (decide (S.x = U.x) && decide (S.z = U.z)))
set_option maxRecDepth 20000 in
set_option maxHeartbeats 4000000 in
theorem c_spec_SameSection {w : World} {B : Nat} {u : Value} {S : Sct} (h : RdT w B u S) (hB : B ≤ w.heap.size) (h1 : S.v.length ≤ 1048576) {B' : Nat} {u' : Value} {U : Sct} (h' : RdT w B' u' U) (hB' : B' ≤ w.heap.size) (h1' : U.v.length ≤ 1048576) :
    Calls Try.prog 20 #[u, u'] w fun e w' => e = .returned (.bool (sameT S U)) ∧ Ext w w' := by
  obtain ⟨A, c, rfl, hp, _⟩ := h.ex
  obtain ⟨A', c', rfl, hp', _⟩ := h'.ex
  clear h h'
  obtain ⟨x, z, L⟩ := S
  obtain ⟨x', z', L'⟩ := U
  unfold sameT
  dsimp only at hp hp' h1 h1' ⊢
  have hbox : SbAt ((w.alloc (.cells #[.int .i64 x, .int .i64 z, .slice A L.length c] 27)).alloc (.cells #[.int .i64 x', .int .i64 z', .slice A' L'.length c'] 27)) w.heap.size x z A L.length c := SbAt.blk (T := 27) (by repeat (first | (refine al_at ?_ ?_ <;> first | rfl | (simp only [al_size] <;> omega)) | apply al_old))
  have hbox' : SbAt ((w.alloc (.cells #[.int .i64 x, .int .i64 z, .slice A L.length c] 27)).alloc (.cells #[.int .i64 x', .int .i64 z', .slice A' L'.length c'] 27)) (w.heap.size + 1) x' z' A' L'.length c' := SbAt.blk (T := 27) (al_at (al_size _ _).symm rfl)
  obtain ⟨p0, p1, p2, _⟩ := hbox
  obtain ⟨q0, q1, q2, _⟩ := hbox'
  have cL := fun (W : World) (hx : Ext w W) => c_l01SameAll (w := W) (c := c) (c' := c') (hp.below (hx.mono hB)) (hp'.below (hx.mono hB')) h1 h1'
  clear hp hp'
  by_cases hx : x = x'
  · subst hx
    by_cases hz : z = z'
    · subst hz
      simp only [decide_true, Bool.true_and]
      cases hL : sameL L L'
      all_goals
        rw [hL] at cL
        have CL := Lib.hid cL
        clear cL hL
        go_enter Try.func20, Try.ntmps20
        go_wp2_with (go_at_call 50; refine Calls.mono (CL.out _ (by repeat (first | assumption | exact Ext.refl _ | apply Ext.drewN | apply Ext.drew | apply Ext.alloc | (refine Ext.trans ?_ (by assumption)) | (refine Ext.set ?_ (by dsimp only; omega) _)))) ?_; rintro e w2 ⟨rfl, n2, rfl⟩)
        go_ret
        exact ⟨rfl, (by repeat (first | assumption | exact Ext.refl _ | apply Ext.drewN | apply Ext.drew | apply Ext.alloc | (refine Ext.trans ?_ (by assumption)) | (refine Ext.set ?_ (by dsimp only; omega) _)))⟩
    · have e2 : (z == z') = false := by simp [hz]
      simp only [hz, decide_true, decide_false, Bool.true_and, Bool.false_and]
      clear hz cL
      go_enter Try.func20, Try.ntmps20
      go_wp2_with (fail)
      go_ret
      exact ⟨rfl, (by repeat (first | assumption | exact Ext.refl _ | apply Ext.drewN | apply Ext.drew | apply Ext.alloc | (refine Ext.trans ?_ (by assumption)) | (refine Ext.set ?_ (by dsimp only; omega) _)))⟩
  · have e1 : (x == x') = false := by simp [hx]
    simp only [hx, decide_false, Bool.false_and]
    clear hx cL
    go_enter Try.func20, Try.ntmps20
    go_wp2_with (fail)
    go_ret
    exact ⟨rfl, (by repeat (first | assumption | exact Ext.refl _ | apply Ext.drewN | apply Ext.drew | apply Ext.alloc | (refine Ext.trans ?_ (by assumption)) | (refine Ext.set ?_ (by dsimp only; omega) _)))⟩
set_option maxRecDepth 20000 in
set_option maxHeartbeats 4000000 in
theorem c_impl_SameSection {w : World} {B : Nat} {u : Value} {S : Sct} (h : RdT w B u S) (hB : B ≤ w.heap.size) (h1 : S.v.length ≤ 1048576) {B' : Nat} {u' : Value} {U : Sct} (h' : RdT w B' u' U) (hB' : B' ≤ w.heap.size) (h1' : U.v.length ≤ 1048576) :
    Calls Try.prog 21 #[u, u'] w fun e w' => e = .returned (.bool (sameT S U)) ∧ Ext w w' := by
  obtain ⟨A, c, rfl, hp, _⟩ := h.ex
  obtain ⟨A', c', rfl, hp', _⟩ := h'.ex
  clear h h'
  obtain ⟨x, z, L⟩ := S
  obtain ⟨x', z', L'⟩ := U
  unfold sameT
  dsimp only at hp hp' h1 h1' ⊢
  have hbox : SbAt ((w.alloc (.cells #[.int .i64 x, .int .i64 z, .slice A L.length c] 27)).alloc (.cells #[.int .i64 x', .int .i64 z', .slice A' L'.length c'] 27)) w.heap.size x z A L.length c := SbAt.blk (T := 27) (by repeat (first | (refine al_at ?_ ?_ <;> first | rfl | (simp only [al_size] <;> omega)) | apply al_old))
  have hbox' : SbAt ((w.alloc (.cells #[.int .i64 x, .int .i64 z, .slice A L.length c] 27)).alloc (.cells #[.int .i64 x', .int .i64 z', .slice A' L'.length c'] 27)) (w.heap.size + 1) x' z' A' L'.length c' := SbAt.blk (T := 27) (al_at (al_size _ _).symm rfl)
  obtain ⟨p0, p1, p2, _⟩ := hbox
  obtain ⟨q0, q1, q2, _⟩ := hbox'
  have cL := fun (W : World) (hx : Ext w W) => c_sameNumbers (w := W) (c := c) (c' := c') (hp.below (hx.mono hB)) (hp'.below (hx.mono hB')) h1 h1'
  clear hp hp'
  by_cases hx : x = x'
  · subst hx
    by_cases hz : z = z'
    · subst hz
      simp only [decide_true, Bool.true_and]
      cases hL : sameL L L'
      all_goals
        rw [hL] at cL
        have CL := Lib.hid cL
        clear cL hL
        go_enter Try.func21, Try.ntmps21
        go_wp2_with (go_at_call 51; refine Calls.mono (CL.out _ (by repeat (first | assumption | exact Ext.refl _ | apply Ext.drewN | apply Ext.drew | apply Ext.alloc | (refine Ext.trans ?_ (by assumption)) | (refine Ext.set ?_ (by dsimp only; omega) _)))) ?_; rintro e w2 ⟨rfl, n2, rfl⟩)
        go_ret
        exact ⟨rfl, (by repeat (first | assumption | exact Ext.refl _ | apply Ext.drewN | apply Ext.drew | apply Ext.alloc | (refine Ext.trans ?_ (by assumption)) | (refine Ext.set ?_ (by dsimp only; omega) _)))⟩
    · have e2 : (z == z') = false := by simp [hz]
      simp only [hz, decide_true, decide_false, Bool.true_and, Bool.false_and]
      clear hz cL
      go_enter Try.func21, Try.ntmps21
      go_wp2_with (fail)
      go_ret
      exact ⟨rfl, (by repeat (first | assumption | exact Ext.refl _ | apply Ext.drewN | apply Ext.drew | apply Ext.alloc | (refine Ext.trans ?_ (by assumption)) | (refine Ext.set ?_ (by dsimp only; omega) _)))⟩
  · have e1 : (x == x') = false := by simp [hx]
    simp only [hx, decide_false, Bool.false_and]
    clear hx cL
    go_enter Try.func21, Try.ntmps21
    go_wp2_with (fail)
    go_ret
    exact ⟨rfl, (by repeat (first | assumption | exact Ext.refl _ | apply Ext.drewN | apply Ext.drew | apply Ext.alloc | (refine Ext.trans ?_ (by assumption)) | (refine Ext.set ?_ (by dsimp only; omega) _)))⟩
theorem both_SameSection {S0 : Sct} (za0 : S0.v.length ≤ 1048576) (_hok0 : S0.Ok) {S1 : Sct} (za1 : S1.v.length ≤ 1048576) (_hok1 : S1.Ok) :
    ∃ X, (∀ W : World, ∀ (B0 : Nat) (v0 : Value), RdT W B0 v0 S0 → B0 ≤ W.heap.size → ∀ (B1 : Nat) (v1 : Value), RdT W B1 v1 S1 → B1 ≤ W.heap.size → Calls Try.prog 20 #[v0, v1] W fun e w' => e = .returned (.bool X) ∧ Ext W w') ∧
      (∀ W : World, ∀ (B0 : Nat) (v0 : Value), RdT W B0 v0 S0 → B0 ≤ W.heap.size → ∀ (B1 : Nat) (v1 : Value), RdT W B1 v1 S1 → B1 ≤ W.heap.size → Calls Try.prog 21 #[v0, v1] W fun e w' => e = .returned (.bool X) ∧ Ext W w') :=
  ⟨sameT S0 S1, fun _ _ _ h0 hB0 _ _ h1 hB1 => c_spec_SameSection h0 hB0 za0 h1 hB1 za1, fun _ _ _ h0 hB0 _ _ h1 hB1 => c_impl_SameSection h0 hB0 za0 h1 hB1 za1⟩
set_option maxRecDepth 20000 in
set_option maxHeartbeats 4000000 in
theorem c_l06Two {w : World} {b b' n n' c c' : Nat} {A A' : Option Addr} {S U : Sct} (hb : SbAt w b S.x S.z A n c) (hl : S.v.length = n) (hb' : SbAt w b' U.x U.z A' n' c') (hl' : U.v.length = n') (hn : n ≤ 1048576) (hn' : n' ≤ 1048576) :
    Calls Try.prog 61 #[.pointer (some ⟨b, 0, none⟩), .pointer (some ⟨b', 0, none⟩)] w fun e w' => e = .returned (.bool (twoT S U)) ∧ Dr w w' := by
  obtain ⟨x, z, L⟩ := S
  obtain ⟨x', z', L'⟩ := U
  dsimp only at hb hb' hl hl'
  obtain ⟨p0, p1, p2, p3⟩ := id hb
  obtain ⟨q0, q1, q2, q3⟩ := id hb'
  have cA : ∀ m, Calls Try.prog 46 #[.pointer (some ⟨b, 0, none⟩)] (w.drewN m) fun e w' => e = .returned (.bool (fvT ⟨x, z, L⟩)) ∧ ∃ q, w' = (w.drewN m).drewN q := fun m => c_l06Is ⟨p0, p1, p2, p3⟩ hl hn
  have cB : ∀ m, Calls Try.prog 46 #[.pointer (some ⟨b', 0, none⟩)] (w.drewN m) fun e w' => e = .returned (.bool (fvT ⟨x', z', L'⟩)) ∧ ∃ q, w' = (w.drewN m).drewN q := fun m => c_l06Is ⟨q0, q1, q2, q3⟩ hl' hn'
  unfold twoT
  cases hS : fvT ⟨x, z, L⟩
  · rw [hS] at cA
    rw [Bool.false_and]
    clear hS
    go_enter Try.func61, Try.ntmps61
    go_wp2_with (fail)
    go_quiet (first | (go_at_call_of 46 (some (⟨b, 0, none⟩ : Addr)); exact Calls.quiet_of (cA _)) | (go_at_call_of 46 (some (⟨b', 0, none⟩ : Addr)); exact Calls.quiet_of (cB _)))
    go_wp2_with (fail)
    go_ret
    exact ⟨rfl, _, rfl⟩
  rw [hS] at cA
  rw [Bool.true_and]
  cases hU : fvT ⟨x', z', L'⟩
  · rw [hU] at cB
    rw [Bool.false_and]
    clear hU hS
    go_enter Try.func61, Try.ntmps61
    go_wp2_with (fail)
    go_quiet (first | (go_at_call_of 46 (some (⟨b, 0, none⟩ : Addr)); exact Calls.quiet_of (cA _)) | (go_at_call_of 46 (some (⟨b', 0, none⟩ : Addr)); exact Calls.quiet_of (cB _)))
    go_wp2_with (fail)
    go_ret
    exact ⟨rfl, _, rfl⟩
  rw [hU] at cB
  rw [Bool.true_and]
  (try dsimp only)
  clear hS hU
  by_cases hx : x = x'
  case neg =>
    have e1 : (x == x') = false := by simp [hx]
    simp only [hx, decide_false, Bool.false_and]
    clear hx
    go_enter Try.func61, Try.ntmps61
    go_wp2_with (fail)
    go_quiet (first | (go_at_call_of 46 (some (⟨b, 0, none⟩ : Addr)); exact Calls.quiet_of (cA _)) | (go_at_call_of 46 (some (⟨b', 0, none⟩ : Addr)); exact Calls.quiet_of (cB _)))
    go_wp2_with (fail)
    go_ret
    exact ⟨rfl, _, rfl⟩
  subst hx
  by_cases hz : z = z'
  case neg =>
    have e1 : (z == z') = false := by simp [hz]
    simp only [hz, decide_true, decide_false, Bool.true_and]
    clear hz
    go_enter Try.func61, Try.ntmps61
    go_wp2_with (fail)
    go_quiet (first | (go_at_call_of 46 (some (⟨b, 0, none⟩ : Addr)); exact Calls.quiet_of (cA _)) | (go_at_call_of 46 (some (⟨b', 0, none⟩ : Addr)); exact Calls.quiet_of (cB _)))
    go_wp2_with (fail)
    go_ret
    exact ⟨rfl, _, rfl⟩
  case pos =>
    subst hz
    simp only [decide_true, Bool.true_and]
    go_enter Try.func61, Try.ntmps61
    go_wp2_with (fail)
    go_quiet (first | (go_at_call_of 46 (some (⟨b, 0, none⟩ : Addr)); exact Calls.quiet_of (cA _)) | (go_at_call_of 46 (some (⟨b', 0, none⟩ : Addr)); exact Calls.quiet_of (cB _)))
    go_wp2_with (fail)
    go_ret
    exact ⟨rfl, _, rfl⟩
set_option maxRecDepth 20000 in
set_option maxHeartbeats 4000000 in
theorem c_areAlike {w : World} {B : Nat} {u : Value} {S : Sct} (h : RdT w B u S) (hB : B ≤ w.heap.size) (h1 : S.v.length ≤ 1048576) {B' : Nat} {u' : Value} {U : Sct} (h' : RdT w B' u' U) (hB' : B' ≤ w.heap.size) (h1' : U.v.length ≤ 1048576) :
    Calls Try.prog 62 #[u, u'] w fun e w' => e = .returned (.bool (twoT S U)) ∧ Ext w w' := by
  have cA := fun (W : World) (hx : Ext w W) => c_impl_ValidSection (w := W) (h.below (hx.mono hB)) (Nat.le_trans hB hx.size) h1
  have cB := fun (W : World) (hx : Ext w W) => c_impl_ValidSection (w := W) (h'.below (hx.mono hB')) (Nat.le_trans hB' hx.size) h1'
  obtain ⟨A, c, rfl, hp, _⟩ := h.ex
  obtain ⟨A', c', rfl, hp', _⟩ := h'.ex
  clear h h' hp hp'
  obtain ⟨x, z, L⟩ := S
  obtain ⟨x', z', L'⟩ := U
  unfold twoT
  dsimp only at h1 h1' cA cB ⊢
  have hbox : SbAt ((w.alloc (.cells #[.int .i64 x, .int .i64 z, .slice A L.length c] 27)).alloc (.cells #[.int .i64 x', .int .i64 z', .slice A' L'.length c'] 27)) w.heap.size x z A L.length c := SbAt.blk (T := 27) (by repeat (first | (refine al_at ?_ ?_ <;> first | rfl | (simp only [al_size] <;> omega)) | apply al_old))
  have hbox' : SbAt ((w.alloc (.cells #[.int .i64 x, .int .i64 z, .slice A L.length c] 27)).alloc (.cells #[.int .i64 x', .int .i64 z', .slice A' L'.length c'] 27)) (w.heap.size + 1) x' z' A' L'.length c' := SbAt.blk (T := 27) (al_at (al_size _ _).symm rfl)
  obtain ⟨p0, p1, p2, _⟩ := id hbox
  obtain ⟨q0, q1, q2, _⟩ := id hbox'
  cases hS : fvT ⟨x, z, L⟩
  · rw [hS] at cA
    rw [Bool.false_and]
    clear hS
    have CA := Lib.hid cA
    have CB := Lib.hid cB
    clear cA cB
    go_enter Try.func62, Try.ntmps62
    go_wp2_with (first | (go_at_call_of 18 A; refine Calls.mono (CA.out _ (by repeat (first | assumption | exact Ext.refl _ | apply Ext.drewN | apply Ext.drew | apply Ext.alloc | (refine Ext.trans ?_ (by assumption)) | (refine Ext.set ?_ (by dsimp only; omega) _)))) ?_; rintro e w2 ⟨rfl, hx2⟩; obtain ⟨p0, p1, p2, _⟩ := hbox.ext (w' := w2) (by repeat (first | assumption | exact Ext.refl _ | apply Ext.drewN | apply Ext.drew | apply Ext.alloc | (refine Ext.trans ?_ (by assumption)) | (refine Ext.set ?_ (by dsimp only; omega) _))); obtain ⟨q0, q1, q2, _⟩ := hbox'.ext (w' := w2) (by repeat (first | assumption | exact Ext.refl _ | apply Ext.drewN | apply Ext.drew | apply Ext.alloc | (refine Ext.trans ?_ (by assumption)) | (refine Ext.set ?_ (by dsimp only; omega) _)))) | (go_at_call_of 18 A'; refine Calls.mono (CB.out _ (by repeat (first | assumption | exact Ext.refl _ | apply Ext.drewN | apply Ext.drew | apply Ext.alloc | (refine Ext.trans ?_ (by assumption)) | (refine Ext.set ?_ (by dsimp only; omega) _)))) ?_; rintro e w3 ⟨rfl, hx3⟩; obtain ⟨p0, p1, p2, _⟩ := hbox.ext (w' := w3) (by repeat (first | assumption | exact Ext.refl _ | apply Ext.drewN | apply Ext.drew | apply Ext.alloc | (refine Ext.trans ?_ (by assumption)) | (refine Ext.set ?_ (by dsimp only; omega) _))); obtain ⟨q0, q1, q2, _⟩ := hbox'.ext (w' := w3) (by repeat (first | assumption | exact Ext.refl _ | apply Ext.drewN | apply Ext.drew | apply Ext.alloc | (refine Ext.trans ?_ (by assumption)) | (refine Ext.set ?_ (by dsimp only; omega) _)))))
    go_ret
    exact ⟨rfl, (by repeat (first | assumption | exact Ext.refl _ | apply Ext.drewN | apply Ext.drew | apply Ext.alloc | (refine Ext.trans ?_ (by assumption)) | (refine Ext.set ?_ (by dsimp only; omega) _)))⟩
  rw [hS] at cA
  rw [Bool.true_and]
  cases hU : fvT ⟨x', z', L'⟩
  · rw [hU] at cB
    rw [Bool.false_and]
    clear hU hS
    have CA := Lib.hid cA
    have CB := Lib.hid cB
    clear cA cB
    go_enter Try.func62, Try.ntmps62
    go_wp2_with (first | (go_at_call_of 18 A; refine Calls.mono (CA.out _ (by repeat (first | assumption | exact Ext.refl _ | apply Ext.drewN | apply Ext.drew | apply Ext.alloc | (refine Ext.trans ?_ (by assumption)) | (refine Ext.set ?_ (by dsimp only; omega) _)))) ?_; rintro e w2 ⟨rfl, hx2⟩; obtain ⟨p0, p1, p2, _⟩ := hbox.ext (w' := w2) (by repeat (first | assumption | exact Ext.refl _ | apply Ext.drewN | apply Ext.drew | apply Ext.alloc | (refine Ext.trans ?_ (by assumption)) | (refine Ext.set ?_ (by dsimp only; omega) _))); obtain ⟨q0, q1, q2, _⟩ := hbox'.ext (w' := w2) (by repeat (first | assumption | exact Ext.refl _ | apply Ext.drewN | apply Ext.drew | apply Ext.alloc | (refine Ext.trans ?_ (by assumption)) | (refine Ext.set ?_ (by dsimp only; omega) _)))) | (go_at_call_of 18 A'; refine Calls.mono (CB.out _ (by repeat (first | assumption | exact Ext.refl _ | apply Ext.drewN | apply Ext.drew | apply Ext.alloc | (refine Ext.trans ?_ (by assumption)) | (refine Ext.set ?_ (by dsimp only; omega) _)))) ?_; rintro e w3 ⟨rfl, hx3⟩; obtain ⟨p0, p1, p2, _⟩ := hbox.ext (w' := w3) (by repeat (first | assumption | exact Ext.refl _ | apply Ext.drewN | apply Ext.drew | apply Ext.alloc | (refine Ext.trans ?_ (by assumption)) | (refine Ext.set ?_ (by dsimp only; omega) _))); obtain ⟨q0, q1, q2, _⟩ := hbox'.ext (w' := w3) (by repeat (first | assumption | exact Ext.refl _ | apply Ext.drewN | apply Ext.drew | apply Ext.alloc | (refine Ext.trans ?_ (by assumption)) | (refine Ext.set ?_ (by dsimp only; omega) _)))))
    go_ret
    exact ⟨rfl, (by repeat (first | assumption | exact Ext.refl _ | apply Ext.drewN | apply Ext.drew | apply Ext.alloc | (refine Ext.trans ?_ (by assumption)) | (refine Ext.set ?_ (by dsimp only; omega) _)))⟩
  rw [hU] at cB
  rw [Bool.true_and]
  (try dsimp only)
  clear hS hU
  by_cases hx : x = x'
  case neg =>
    have e1 : (x == x') = false := by simp [hx]
    simp only [hx, decide_false, Bool.false_and]
    clear hx
    have CA := Lib.hid cA
    have CB := Lib.hid cB
    clear cA cB
    go_enter Try.func62, Try.ntmps62
    go_wp2_with (first | (go_at_call_of 18 A; refine Calls.mono (CA.out _ (by repeat (first | assumption | exact Ext.refl _ | apply Ext.drewN | apply Ext.drew | apply Ext.alloc | (refine Ext.trans ?_ (by assumption)) | (refine Ext.set ?_ (by dsimp only; omega) _)))) ?_; rintro e w2 ⟨rfl, hx2⟩; obtain ⟨p0, p1, p2, _⟩ := hbox.ext (w' := w2) (by repeat (first | assumption | exact Ext.refl _ | apply Ext.drewN | apply Ext.drew | apply Ext.alloc | (refine Ext.trans ?_ (by assumption)) | (refine Ext.set ?_ (by dsimp only; omega) _))); obtain ⟨q0, q1, q2, _⟩ := hbox'.ext (w' := w2) (by repeat (first | assumption | exact Ext.refl _ | apply Ext.drewN | apply Ext.drew | apply Ext.alloc | (refine Ext.trans ?_ (by assumption)) | (refine Ext.set ?_ (by dsimp only; omega) _)))) | (go_at_call_of 18 A'; refine Calls.mono (CB.out _ (by repeat (first | assumption | exact Ext.refl _ | apply Ext.drewN | apply Ext.drew | apply Ext.alloc | (refine Ext.trans ?_ (by assumption)) | (refine Ext.set ?_ (by dsimp only; omega) _)))) ?_; rintro e w3 ⟨rfl, hx3⟩; obtain ⟨p0, p1, p2, _⟩ := hbox.ext (w' := w3) (by repeat (first | assumption | exact Ext.refl _ | apply Ext.drewN | apply Ext.drew | apply Ext.alloc | (refine Ext.trans ?_ (by assumption)) | (refine Ext.set ?_ (by dsimp only; omega) _))); obtain ⟨q0, q1, q2, _⟩ := hbox'.ext (w' := w3) (by repeat (first | assumption | exact Ext.refl _ | apply Ext.drewN | apply Ext.drew | apply Ext.alloc | (refine Ext.trans ?_ (by assumption)) | (refine Ext.set ?_ (by dsimp only; omega) _)))))
    go_ret
    exact ⟨rfl, (by repeat (first | assumption | exact Ext.refl _ | apply Ext.drewN | apply Ext.drew | apply Ext.alloc | (refine Ext.trans ?_ (by assumption)) | (refine Ext.set ?_ (by dsimp only; omega) _)))⟩
  subst hx
  by_cases hz : z = z'
  case neg =>
    have e1 : (z == z') = false := by simp [hz]
    simp only [hz, decide_true, decide_false, Bool.true_and]
    clear hz
    have CA := Lib.hid cA
    have CB := Lib.hid cB
    clear cA cB
    go_enter Try.func62, Try.ntmps62
    go_wp2_with (first | (go_at_call_of 18 A; refine Calls.mono (CA.out _ (by repeat (first | assumption | exact Ext.refl _ | apply Ext.drewN | apply Ext.drew | apply Ext.alloc | (refine Ext.trans ?_ (by assumption)) | (refine Ext.set ?_ (by dsimp only; omega) _)))) ?_; rintro e w2 ⟨rfl, hx2⟩; obtain ⟨p0, p1, p2, _⟩ := hbox.ext (w' := w2) (by repeat (first | assumption | exact Ext.refl _ | apply Ext.drewN | apply Ext.drew | apply Ext.alloc | (refine Ext.trans ?_ (by assumption)) | (refine Ext.set ?_ (by dsimp only; omega) _))); obtain ⟨q0, q1, q2, _⟩ := hbox'.ext (w' := w2) (by repeat (first | assumption | exact Ext.refl _ | apply Ext.drewN | apply Ext.drew | apply Ext.alloc | (refine Ext.trans ?_ (by assumption)) | (refine Ext.set ?_ (by dsimp only; omega) _)))) | (go_at_call_of 18 A'; refine Calls.mono (CB.out _ (by repeat (first | assumption | exact Ext.refl _ | apply Ext.drewN | apply Ext.drew | apply Ext.alloc | (refine Ext.trans ?_ (by assumption)) | (refine Ext.set ?_ (by dsimp only; omega) _)))) ?_; rintro e w3 ⟨rfl, hx3⟩; obtain ⟨p0, p1, p2, _⟩ := hbox.ext (w' := w3) (by repeat (first | assumption | exact Ext.refl _ | apply Ext.drewN | apply Ext.drew | apply Ext.alloc | (refine Ext.trans ?_ (by assumption)) | (refine Ext.set ?_ (by dsimp only; omega) _))); obtain ⟨q0, q1, q2, _⟩ := hbox'.ext (w' := w3) (by repeat (first | assumption | exact Ext.refl _ | apply Ext.drewN | apply Ext.drew | apply Ext.alloc | (refine Ext.trans ?_ (by assumption)) | (refine Ext.set ?_ (by dsimp only; omega) _)))))
    go_ret
    exact ⟨rfl, (by repeat (first | assumption | exact Ext.refl _ | apply Ext.drewN | apply Ext.drew | apply Ext.alloc | (refine Ext.trans ?_ (by assumption)) | (refine Ext.set ?_ (by dsimp only; omega) _)))⟩
  case pos =>
    subst hz
    simp only [decide_true, Bool.true_and]
    have CA := Lib.hid cA
    have CB := Lib.hid cB
    clear cA cB
    go_enter Try.func62, Try.ntmps62
    go_wp2_with (first | (go_at_call_of 18 A; refine Calls.mono (CA.out _ (by repeat (first | assumption | exact Ext.refl _ | apply Ext.drewN | apply Ext.drew | apply Ext.alloc | (refine Ext.trans ?_ (by assumption)) | (refine Ext.set ?_ (by dsimp only; omega) _)))) ?_; rintro e w2 ⟨rfl, hx2⟩; obtain ⟨p0, p1, p2, _⟩ := hbox.ext (w' := w2) (by repeat (first | assumption | exact Ext.refl _ | apply Ext.drewN | apply Ext.drew | apply Ext.alloc | (refine Ext.trans ?_ (by assumption)) | (refine Ext.set ?_ (by dsimp only; omega) _))); obtain ⟨q0, q1, q2, _⟩ := hbox'.ext (w' := w2) (by repeat (first | assumption | exact Ext.refl _ | apply Ext.drewN | apply Ext.drew | apply Ext.alloc | (refine Ext.trans ?_ (by assumption)) | (refine Ext.set ?_ (by dsimp only; omega) _)))) | (go_at_call_of 18 A'; refine Calls.mono (CB.out _ (by repeat (first | assumption | exact Ext.refl _ | apply Ext.drewN | apply Ext.drew | apply Ext.alloc | (refine Ext.trans ?_ (by assumption)) | (refine Ext.set ?_ (by dsimp only; omega) _)))) ?_; rintro e w3 ⟨rfl, hx3⟩; obtain ⟨p0, p1, p2, _⟩ := hbox.ext (w' := w3) (by repeat (first | assumption | exact Ext.refl _ | apply Ext.drewN | apply Ext.drew | apply Ext.alloc | (refine Ext.trans ?_ (by assumption)) | (refine Ext.set ?_ (by dsimp only; omega) _))); obtain ⟨q0, q1, q2, _⟩ := hbox'.ext (w' := w3) (by repeat (first | assumption | exact Ext.refl _ | apply Ext.drewN | apply Ext.drew | apply Ext.alloc | (refine Ext.trans ?_ (by assumption)) | (refine Ext.set ?_ (by dsimp only; omega) _)))))
    go_ret
    exact ⟨rfl, (by repeat (first | assumption | exact Ext.refl _ | apply Ext.drewN | apply Ext.drew | apply Ext.alloc | (refine Ext.trans ?_ (by assumption)) | (refine Ext.set ?_ (by dsimp only; omega) _)))⟩
end Go.Proofs.Ytmhfnchpkeeckaa
