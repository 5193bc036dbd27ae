/- Contracts: the same section, two sections of one size; sections copied and made. Condition: the sections are read. -/
import Derived.Test.YtddemhlhlbpecaaXc
import Derived.Test.YtddemhlhlbpecaaYh
import Derived.Test.YtddemhlhlbpecaaYm
namespace Go.Proofs.Ytddemhlhlbpecaa
open Go.RowKit Go.ChangeShapes Go.WideShapes Go.Deep Ieee
set_option linter.unusedVariables false
set_option linter.unusedSimpArgs false
attribute [local irreducible] wpQuiet

/-- Sections are the same. -/
def sameT (S U : Sct) : Bool := decide (S.x = U.x) && (decide (S.z = U.z) && sameL S.v U.v)
/-- Sections are valid and of one size. -/
def twoT (S U : Sct) : Bool := fvT S && (fvT U && (decide (S.x = U.x) && decide (S.z = U.z)))
set_option maxRecDepth 20000 in
set_option maxHeartbeats 4000000 in
theorem c_l06Two {w : World} {b b' n n' c c' : Nat} {A A' : Option Addr} {S U : Sct} (hb : SbAt w b S.x S.z A n c) (hl : S.v.length = n) (hb' : SbAt w b' U.x U.z A' n' c') (hl' : U.v.length = n') (hn : n ≤ 1048576) (hn' : n' ≤ 1048576) :
    Calls Try.prog 73 #[.pointer (some ⟨b, 0, none⟩), .pointer (some ⟨b', 0, none⟩)] w fun e w' => e = .returned (.bool (twoT S U)) ∧ Dr w w' := by
  obtain ⟨x, z, L⟩ := S
  obtain ⟨x', z', L'⟩ := U
  dsimp only at hb hb' hl hl'
  obtain ⟨p0, p1, p2, p3⟩ := id hb
  obtain ⟨q0, q1, q2, q3⟩ := id hb'
  have cA : ∀ m, Calls Try.prog 68 #[.pointer (some ⟨b, 0, none⟩)] (w.drewN m) fun e w' => e = .returned (.bool (fvT ⟨x, z, L⟩)) ∧ ∃ q, w' = (w.drewN m).drewN q := fun m => c_l06Is ⟨p0, p1, p2, p3⟩ hl hn
  have cB : ∀ m, Calls Try.prog 68 #[.pointer (some ⟨b', 0, none⟩)] (w.drewN m) fun e w' => e = .returned (.bool (fvT ⟨x', z', L'⟩)) ∧ ∃ q, w' = (w.drewN m).drewN q := fun m => c_l06Is ⟨q0, q1, q2, q3⟩ hl' hn'
  unfold twoT
  cases hS : fvT ⟨x, z, L⟩
  · rw [hS] at cA
    rw [Bool.false_and]
    clear hS
    go_enter Try.func73, Try.ntmps73
    go_wp2_with (fail)
    go_quiet (first | (go_at_call_of 68 (some (⟨b, 0, none⟩ : Addr)); exact Calls.quiet_of (cA _)) | (go_at_call_of 68 (some (⟨b', 0, none⟩ : Addr)); exact Calls.quiet_of (cB _)))
    go_wp2_with (fail)
    go_ret
    exact ⟨rfl, _, rfl⟩
  rw [hS] at cA
  rw [Bool.true_and]
  cases hU : fvT ⟨x', z', L'⟩
  · rw [hU] at cB
    rw [Bool.false_and]
    clear hU hS
    go_enter Try.func73, Try.ntmps73
    go_wp2_with (fail)
    go_quiet (first | (go_at_call_of 68 (some (⟨b, 0, none⟩ : Addr)); exact Calls.quiet_of (cA _)) | (go_at_call_of 68 (some (⟨b', 0, none⟩ : Addr)); exact Calls.quiet_of (cB _)))
    go_wp2_with (fail)
    go_ret
    exact ⟨rfl, _, rfl⟩
  rw [hU] at cB
  rw [Bool.true_and]
  (try dsimp only)
  clear hS hU
  by_cases hx : x = x'
  case neg =>
    have e1 : (x == x') = false := by simp [hx]
    simp only [hx, decide_false, Bool.false_and]
    clear hx
    go_enter Try.func73, Try.ntmps73
    go_wp2_with (fail)
    go_quiet (first | (go_at_call_of 68 (some (⟨b, 0, none⟩ : Addr)); exact Calls.quiet_of (cA _)) | (go_at_call_of 68 (some (⟨b', 0, none⟩ : Addr)); exact Calls.quiet_of (cB _)))
    go_wp2_with (fail)
    go_ret
    exact ⟨rfl, _, rfl⟩
  subst hx
  by_cases hz : z = z'
  case neg =>
    have e1 : (z == z') = false := by simp [hz]
    simp only [hz, decide_true, decide_false, Bool.true_and]
    clear hz
    go_enter Try.func73, Try.ntmps73
    go_wp2_with (fail)
    go_quiet (first | (go_at_call_of 68 (some (⟨b, 0, none⟩ : Addr)); exact Calls.quiet_of (cA _)) | (go_at_call_of 68 (some (⟨b', 0, none⟩ : Addr)); exact Calls.quiet_of (cB _)))
    go_wp2_with (fail)
    go_ret
    exact ⟨rfl, _, rfl⟩
  case pos =>
    subst hz
    simp only [decide_true, Bool.true_and]
    go_enter Try.func73, Try.ntmps73
    go_wp2_with (fail)
    go_quiet (first | (go_at_call_of 68 (some (⟨b, 0, none⟩ : Addr)); exact Calls.quiet_of (cA _)) | (go_at_call_of 68 (some (⟨b', 0, none⟩ : Addr)); exact Calls.quiet_of (cB _)))
    go_wp2_with (fail)
    go_ret
    exact ⟨rfl, _, rfl⟩
set_option maxRecDepth 20000 in
set_option maxHeartbeats 4000000 in
theorem c_areAlike {w : World} {B : Nat} {u : Value} {S : Sct} (h : RdT w B u S) (hB : B ≤ w.heap.size) (h1 : S.v.length ≤ 1048576) {B' : Nat} {u' : Value} {U : Sct} (h' : RdT w B' u' U) (hB' : B' ≤ w.heap.size) (h1' : U.v.length ≤ 1048576) :
    Calls Try.prog 75 #[u, u'] w fun e w' => e = .returned (.bool (twoT S U)) ∧ Ext w w' := by
  have cA := fun (W : World) (hx : Ext w W) => c_impl_ValidSection (w := W) (h.below (hx.mono hB)) (Nat.le_trans hB hx.size) h1
  have cB := fun (W : World) (hx : Ext w W) => c_impl_ValidSection (w := W) (h'.below (hx.mono hB')) (Nat.le_trans hB' hx.size) h1'
  obtain ⟨A, c, rfl, hp, _⟩ := h.ex
  obtain ⟨A', c', rfl, hp', _⟩ := h'.ex
  clear h h' hp hp'
  obtain ⟨x, z, L⟩ := S
  obtain ⟨x', z', L'⟩ := U
  unfold twoT
  dsimp only at h1 h1' cA cB ⊢
  have hbox : SbAt ((w.alloc (.cells #[.int .i64 x, .int .i64 z, .slice A L.length c] 38)).alloc (.cells #[.int .i64 x', .int .i64 z', .slice A' L'.length c'] 38)) w.heap.size x z A L.length c := SbAt.blk (T := 38) (by repeat (first | (refine al_at ?_ ?_ <;> first | rfl | (simp only [al_size] <;> omega)) | apply al_old))
  have hbox' : SbAt ((w.alloc (.cells #[.int .i64 x, .int .i64 z, .slice A L.length c] 38)).alloc (.cells #[.int .i64 x', .int .i64 z', .slice A' L'.length c'] 38)) (w.heap.size + 1) x' z' A' L'.length c' := SbAt.blk (T := 38) (al_at (al_size _ _).symm rfl)
  obtain ⟨p0, p1, p2, _⟩ := id hbox
  obtain ⟨q0, q1, q2, _⟩ := id hbox'
  cases hS : fvT ⟨x, z, L⟩
  · rw [hS] at cA
    rw [Bool.false_and]
    clear hS
    have CA := Lib.hid cA
    have CB := Lib.hid cB
    clear cA cB
    go_enter Try.func75, Try.ntmps75
    go_wp2_with (first | (go_at_call_of 71 A; refine Calls.mono (CA.out _ (by repeat (first | assumption | exact Ext.refl _ | apply Ext.drewN | apply Ext.drew | apply Ext.alloc | (refine Ext.trans ?_ (by assumption)) | (refine Ext.set ?_ (by dsimp only; omega) _)))) ?_; rintro e w2 ⟨rfl, hx2⟩; obtain ⟨p0, p1, p2, _⟩ := hbox.ext (w' := w2) (by repeat (first | assumption | exact Ext.refl _ | apply Ext.drewN | apply Ext.drew | apply Ext.alloc | (refine Ext.trans ?_ (by assumption)) | (refine Ext.set ?_ (by dsimp only; omega) _))); obtain ⟨q0, q1, q2, _⟩ := hbox'.ext (w' := w2) (by repeat (first | assumption | exact Ext.refl _ | apply Ext.drewN | apply Ext.drew | apply Ext.alloc | (refine Ext.trans ?_ (by assumption)) | (refine Ext.set ?_ (by dsimp only; omega) _)))) | (go_at_call_of 71 A'; refine Calls.mono (CB.out _ (by repeat (first | assumption | exact Ext.refl _ | apply Ext.drewN | apply Ext.drew | apply Ext.alloc | (refine Ext.trans ?_ (by assumption)) | (refine Ext.set ?_ (by dsimp only; omega) _)))) ?_; rintro e w3 ⟨rfl, hx3⟩; obtain ⟨p0, p1, p2, _⟩ := hbox.ext (w' := w3) (by repeat (first | assumption | exact Ext.refl _ | apply Ext.drewN | apply Ext.drew | apply Ext.alloc | (refine Ext.trans ?_ (by assumption)) | (refine Ext.set ?_ (by dsimp only; omega) _))); obtain ⟨q0, q1, q2, _⟩ := hbox'.ext (w' := w3) (by repeat (first | assumption | exact Ext.refl _ | apply Ext.drewN | apply Ext.drew | apply Ext.alloc | (refine Ext.trans ?_ (by assumption)) | (refine Ext.set ?_ (by dsimp only; omega) _)))))
    go_ret
    exact ⟨rfl, (by repeat (first | assumption | exact Ext.refl _ | apply Ext.drewN | apply Ext.drew | apply Ext.alloc | (refine Ext.trans ?_ (by assumption)) | (refine Ext.set ?_ (by dsimp only; omega) _)))⟩
  rw [hS] at cA
  rw [Bool.true_and]
  cases hU : fvT ⟨x', z', L'⟩
  · rw [hU] at cB
    rw [Bool.false_and]
    clear hU hS
    have CA := Lib.hid cA
    have CB := Lib.hid cB
    clear cA cB
    go_enter Try.func75, Try.ntmps75
    go_wp2_with (first | (go_at_call_of 71 A; refine Calls.mono (CA.out _ (by repeat (first | assumption | exact Ext.refl _ | apply Ext.drewN | apply Ext.drew | apply Ext.alloc | (refine Ext.trans ?_ (by assumption)) | (refine Ext.set ?_ (by dsimp only; omega) _)))) ?_; rintro e w2 ⟨rfl, hx2⟩; obtain ⟨p0, p1, p2, _⟩ := hbox.ext (w' := w2) (by repeat (first | assumption | exact Ext.refl _ | apply Ext.drewN | apply Ext.drew | apply Ext.alloc | (refine Ext.trans ?_ (by assumption)) | (refine Ext.set ?_ (by dsimp only; omega) _))); obtain ⟨q0, q1, q2, _⟩ := hbox'.ext (w' := w2) (by repeat (first | assumption | exact Ext.refl _ | apply Ext.drewN | apply Ext.drew | apply Ext.alloc | (refine Ext.trans ?_ (by assumption)) | (refine Ext.set ?_ (by dsimp only; omega) _)))) | (go_at_call_of 71 A'; refine Calls.mono (CB.out _ (by repeat (first | assumption | exact Ext.refl _ | apply Ext.drewN | apply Ext.drew | apply Ext.alloc | (refine Ext.trans ?_ (by assumption)) | (refine Ext.set ?_ (by dsimp only; omega) _)))) ?_; rintro e w3 ⟨rfl, hx3⟩; obtain ⟨p0, p1, p2, _⟩ := hbox.ext (w' := w3) (by repeat (first | assumption | exact Ext.refl _ | apply Ext.drewN | apply Ext.drew | apply Ext.alloc | (refine Ext.trans ?_ (by assumption)) | (refine Ext.set ?_ (by dsimp only; omega) _))); obtain ⟨q0, q1, q2, _⟩ := hbox'.ext (w' := w3) (by repeat (first | assumption | exact Ext.refl _ | apply Ext.drewN | apply Ext.drew | apply Ext.alloc | (refine Ext.trans ?_ (by assumption)) | (refine Ext.set ?_ (by dsimp only; omega) _)))))
    go_ret
    exact ⟨rfl, (by repeat (first | assumption | exact Ext.refl _ | apply Ext.drewN | apply Ext.drew | apply Ext.alloc | (refine Ext.trans ?_ (by assumption)) | (refine Ext.set ?_ (by dsimp only; omega) _)))⟩
  rw [hU] at cB
  rw [Bool.true_and]
  (try dsimp only)
  clear hS hU
  by_cases hx : x = x'
  case neg =>
    have e1 : (x == x') = false := by simp [hx]
    simp only [hx, decide_false, Bool.false_and]
    clear hx
    have CA := Lib.hid cA
    have CB := Lib.hid cB
    clear cA cB
    go_enter Try.func75, Try.ntmps75
    go_wp2_with (first | (go_at_call_of 71 A; refine Calls.mono (CA.out _ (by repeat (first | assumption | exact Ext.refl _ | apply Ext.drewN | apply Ext.drew | apply Ext.alloc | (refine Ext.trans ?_ (by assumption)) | (refine Ext.set ?_ (by dsimp only; omega) _)))) ?_; rintro e w2 ⟨rfl, hx2⟩; obtain ⟨p0, p1, p2, _⟩ := hbox.ext (w' := w2) (by repeat (first | assumption | exact Ext.refl _ | apply Ext.drewN | apply Ext.drew | apply Ext.alloc | (refine Ext.trans ?_ (by assumption)) | (refine Ext.set ?_ (by dsimp only; omega) _))); obtain ⟨q0, q1, q2, _⟩ := hbox'.ext (w' := w2) (by repeat (first | assumption | exact Ext.refl _ | apply Ext.drewN | apply Ext.drew | apply Ext.alloc | (refine Ext.trans ?_ (by assumption)) | (refine Ext.set ?_ (by dsimp only; omega) _)))) | (go_at_call_of 71 A'; refine Calls.mono (CB.out _ (by repeat (first | assumption | exact Ext.refl _ | apply Ext.drewN | apply Ext.drew | apply Ext.alloc | (refine Ext.trans ?_ (by assumption)) | (refine Ext.set ?_ (by dsimp only; omega) _)))) ?_; rintro e w3 ⟨rfl, hx3⟩; obtain ⟨p0, p1, p2, _⟩ := hbox.ext (w' := w3) (by repeat (first | assumption | exact Ext.refl _ | apply Ext.drewN | apply Ext.drew | apply Ext.alloc | (refine Ext.trans ?_ (by assumption)) | (refine Ext.set ?_ (by dsimp only; omega) _))); obtain ⟨q0, q1, q2, _⟩ := hbox'.ext (w' := w3) (by repeat (first | assumption | exact Ext.refl _ | apply Ext.drewN | apply Ext.drew | apply Ext.alloc | (refine Ext.trans ?_ (by assumption)) | (refine Ext.set ?_ (by dsimp only; omega) _)))))
    go_ret
    exact ⟨rfl, (by repeat (first | assumption | exact Ext.refl _ | apply Ext.drewN | apply Ext.drew | apply Ext.alloc | (refine Ext.trans ?_ (by assumption)) | (refine Ext.set ?_ (by dsimp only; omega) _)))⟩
  subst hx
  by_cases hz : z = z'
  case neg =>
    have e1 : (z == z') = false := by simp [hz]
    simp only [hz, decide_true, decide_false, Bool.true_and]
    clear hz
    have CA := Lib.hid cA
    have CB := Lib.hid cB
    clear cA cB
    go_enter Try.func75, Try.ntmps75
    go_wp2_with (first | (go_at_call_of 71 A; refine Calls.mono (CA.out _ (by repeat (first | assumption | exact Ext.refl _ | apply Ext.drewN | apply Ext.drew | apply Ext.alloc | (refine Ext.trans ?_ (by assumption)) | (refine Ext.set ?_ (by dsimp only; omega) _)))) ?_; rintro e w2 ⟨rfl, hx2⟩; obtain ⟨p0, p1, p2, _⟩ := hbox.ext (w' := w2) (by repeat (first | assumption | exact Ext.refl _ | apply Ext.drewN | apply Ext.drew | apply Ext.alloc | (refine Ext.trans ?_ (by assumption)) | (refine Ext.set ?_ (by dsimp only; omega) _))); obtain ⟨q0, q1, q2, _⟩ := hbox'.ext (w' := w2) (by repeat (first | assumption | exact Ext.refl _ | apply Ext.drewN | apply Ext.drew | apply Ext.alloc | (refine Ext.trans ?_ (by assumption)) | (refine Ext.set ?_ (by dsimp only; omega) _)))) | (go_at_call_of 71 A'; refine Calls.mono (CB.out _ (by repeat (first | assumption | exact Ext.refl _ | apply Ext.drewN | apply Ext.drew | apply Ext.alloc | (refine Ext.trans ?_ (by assumption)) | (refine Ext.set ?_ (by dsimp only; omega) _)))) ?_; rintro e w3 ⟨rfl, hx3⟩; obtain ⟨p0, p1, p2, _⟩ := hbox.ext (w' := w3) (by repeat (first | assumption | exact Ext.refl _ | apply Ext.drewN | apply Ext.drew | apply Ext.alloc | (refine Ext.trans ?_ (by assumption)) | (refine Ext.set ?_ (by dsimp only; omega) _))); obtain ⟨q0, q1, q2, _⟩ := hbox'.ext (w' := w3) (by repeat (first | assumption | exact Ext.refl _ | apply Ext.drewN | apply Ext.drew | apply Ext.alloc | (refine Ext.trans ?_ (by assumption)) | (refine Ext.set ?_ (by dsimp only; omega) _)))))
    go_ret
    exact ⟨rfl, (by repeat (first | assumption | exact Ext.refl _ | apply Ext.drewN | apply Ext.drew | apply Ext.alloc | (refine Ext.trans ?_ (by assumption)) | (refine Ext.set ?_ (by dsimp only; omega) _)))⟩
  case pos =>
    subst hz
    simp only [decide_true, Bool.true_and]
    have CA := Lib.hid cA
    have CB := Lib.hid cB
    clear cA cB
    go_enter Try.func75, Try.ntmps75
    go_wp2_with (first | (go_at_call_of 71 A; refine Calls.mono (CA.out _ (by repeat (first | assumption | exact Ext.refl _ | apply Ext.drewN | apply Ext.drew | apply Ext.alloc | (refine Ext.trans ?_ (by assumption)) | (refine Ext.set ?_ (by dsimp only; omega) _)))) ?_; rintro e w2 ⟨rfl, hx2⟩; obtain ⟨p0, p1, p2, _⟩ := hbox.ext (w' := w2) (by repeat (first | assumption | exact Ext.refl _ | apply Ext.drewN | apply Ext.drew | apply Ext.alloc | (refine Ext.trans ?_ (by assumption)) | (refine Ext.set ?_ (by dsimp only; omega) _))); obtain ⟨q0, q1, q2, _⟩ := hbox'.ext (w' := w2) (by repeat (first | assumption | exact Ext.refl _ | apply Ext.drewN | apply Ext.drew | apply Ext.alloc | (refine Ext.trans ?_ (by assumption)) | (refine Ext.set ?_ (by dsimp only; omega) _)))) | (go_at_call_of 71 A'; refine Calls.mono (CB.out _ (by repeat (first | assumption | exact Ext.refl _ | apply Ext.drewN | apply Ext.drew | apply Ext.alloc | (refine Ext.trans ?_ (by assumption)) | (refine Ext.set ?_ (by dsimp only; omega) _)))) ?_; rintro e w3 ⟨rfl, hx3⟩; obtain ⟨p0, p1, p2, _⟩ := hbox.ext (w' := w3) (by repeat (first | assumption | exact Ext.refl _ | apply Ext.drewN | apply Ext.drew | apply Ext.alloc | (refine Ext.trans ?_ (by assumption)) | (refine Ext.set ?_ (by dsimp only; omega) _))); obtain ⟨q0, q1, q2, _⟩ := hbox'.ext (w' := w3) (by repeat (first | assumption | exact Ext.refl _ | apply Ext.drewN | apply Ext.drew | apply Ext.alloc | (refine Ext.trans ?_ (by assumption)) | (refine Ext.set ?_ (by dsimp only; omega) _)))))
    go_ret
    exact ⟨rfl, (by repeat (first | assumption | exact Ext.refl _ | apply Ext.drewN | apply Ext.drew | apply Ext.alloc | (refine Ext.trans ?_ (by assumption)) | (refine Ext.set ?_ (by dsimp only; omega) _)))⟩
end Go.Proofs.Ytddemhlhlbpecaa
