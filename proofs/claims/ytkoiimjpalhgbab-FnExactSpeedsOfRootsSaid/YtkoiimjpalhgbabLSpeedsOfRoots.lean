/- The law FnExactSpeedsOfRoots: every call returns true and leaves the memory as it was, whatever the arguments. No condition. -/
import Derived.Test.YtkoiimjpalhgbabSr
import Derived.Test.YtkoiimjpalhgbabFw
namespace Go.Proofs.Ytkoiimjpalhgbab
open Go.RowKit Ieee

theorem both_SpeedsOfRoots {n n' : Nat} {R T : List (Option Nat)} (hl : R.length = n) (hn : n ≤ 1048576) (hl' : T.length = n') (hn' : n' ≤ 1048576) :
    ∃ ok Q q, q ≤ 1048576 ∧ (∀ (W : World) (B : Nat) (A : Option Addr) (c : Nat), RdF W B A n R → B ≤ W.heap.size → ∀ (B' : Nat) (A' : Option Addr) (c' : Nat), RdF W B' A' n' T → B' ≤ W.heap.size → Calls Try.prog 37 #[.slice A n c, .slice A' n' c'] W fun e w' => RetQ W e w' ok q Q) ∧
      (∀ (W : World) (B : Nat) (A : Option Addr) (c : Nat), RdF W B A n R → B ≤ W.heap.size → ∀ (B' : Nat) (A' : Option Addr) (c' : Nat), RdF W B' A' n' T → B' ≤ W.heap.size → Calls Try.prog 39 #[.slice A n c, .slice A' n' c'] W fun e w' => RetQ W e w' ok q Q) := by
  refine ⟨okS R T, outL (okS R T) (lst (srr R T) R.length), (outL (okS R T) (lst (srr R T) R.length)).length, Nat.le_trans (outL_len _ _) (by rw [lst_len]; omega), ?_, ?_⟩
  · intro W B A c h hB B' A' c' h' hB'
    by_cases hc : n < 1 ∨ 12 < n ∨ n' ≠ n
    · exact Calls.mono (c_spec_SpeedsOfRoots_no hl hl' hc) (fun _ _ hr => hr.q)
    · obtain rfl : n' = n := by omega
      exact Calls.mono (c_spec_SpeedsOfRoots_yes h h' hB hB' (by omega) (by omega)) (fun _ _ hr => hr.q)
  · intro W B A c h hB B' A' c' h' hB'
    by_cases hc : n < 1 ∨ 12 < n ∨ n' ≠ n
    · exact Calls.mono (c_impl_SpeedsOfRoots_no hl hl' hc) (fun _ _ hr => hr.q)
    · obtain rfl : n' = n := by omega
      exact Calls.mono (c_impl_SpeedsOfRoots_yes h h' hB hB' (by omega) (by omega)) (fun _ _ hr => hr.q)
set_option linter.unusedSimpArgs false in
set_option maxRecDepth 20000 in
set_option maxHeartbeats 8000000 in
theorem w_FnExactSpeedsOfRoots {w : World} {v0 : Value} (o0 : ∃ A n c L, v0 = .slice A n c ∧ n ≤ maxLen ∧ RdF w w.heap.size A n L) {v1 : Value} (o1 : ∃ A n c L, v1 = .slice A n c ∧ n ≤ maxLen ∧ RdF w w.heap.size A n L) :
    Calls Try.prog 10 #[v0, v1] w fun e w' => e = .returned (.bool true) ∧ Below w.heap.size w w' := by
  obtain ⟨A0, n0, c0, L0, rfl, hm0, h0⟩ := o0
  unfold maxLen at hm0
  obtain ⟨A1, n1, c1, L1, rfl, hm1, h1⟩ := o1
  unfold maxLen at hm1
  by_cases hn0 : n0 ≤ 1048576
  case neg =>
    have hb0 : (1048576 : Int) < (n0 : Int) := by omega
    go_enter Try.func10, Try.ntmps10
    go_wp2_with (fail)
    go_ret
    exact ⟨rfl, Below.refl _ _⟩
  by_cases hn1 : n1 ≤ 1048576
  case neg =>
    have hb1 : (1048576 : Int) < (n1 : Int) := by omega
    have hd0 : ¬ ((1048576 : Int) < (n0 : Int)) := by omega
    go_enter Try.func10, Try.ntmps10
    go_wp2_with (fail)
    go_ret
    exact ⟨rfl, Below.refl _ _⟩
  case pos =>
    obtain ⟨ok, Q, q, hq, hS, hI⟩ := both_SpeedsOfRoots h0.len hn0 h1.len hn1
    have HS := Lib.hid hS
    have HI := Lib.hid hI
    have hd0 : ¬ ((1048576 : Int) < (n0 : Int)) := by omega
    have hd1 : ¬ ((1048576 : Int) < (n1 : Int)) := by omega
    have hneg : ¬ (((1 + n0 + n1 : Nat) : Int) < 0) := by omega
    have hneg2 : ¬ (((1 + q : Nat) : Int) < 0) := by omega
    clear hS hI
    go_enter Try.func10, Try.ntmps10
    go_wp2_with (go_at_call 38; refine Calls.mono (c_toFl (RdF.below h0 (by repeat (first | assumption | exact Ext.refl _ | apply Ext.drewN | apply Ext.drew | apply Ext.alloc | (refine Ext.trans ?_ (by assumption)) | (refine Ext.set ?_ (by dsimp only; omega) _)))) (by (try simp only [al_size, size_drewN]); omega) hn0) ?_; rintro e sw0 ⟨rfl, hs0, hxt, zs⟩; (try simp only [al_size, size_drewN] at zs))
    go_wp2_with (go_at_call 38; refine Calls.mono (c_toFl (RdF.below h1 (by repeat (first | assumption | exact Ext.refl _ | apply Ext.drewN | apply Ext.drew | apply Ext.alloc | (refine Ext.trans ?_ (by assumption)) | (refine Ext.set ?_ (by dsimp only; omega) _)))) (by (try simp only [al_size, size_drewN]); omega) hn1) ?_; rintro e sw1 ⟨rfl, hs1, hxt, zs⟩; (try simp only [al_size, size_drewN] at zs))
    go_wp2_with (go_at_call 37; refine Calls.mono (HS.out _ _ _ _ (OwL.rd (OwL.ext hs0 (by (try simp only [al_size, size_drewN]); omega) (by repeat (first | assumption | exact Ext.refl _ | apply Ext.drewN | apply Ext.drew | apply Ext.alloc | (refine Ext.trans ?_ (by assumption)) | (refine Ext.set ?_ (by dsimp only; omega) _))))) (by (try simp only [al_size, size_drewN]); omega) _ _ _ (OwL.rd (OwL.ext hs1 (by (try simp only [al_size, size_drewN]); omega) (by repeat (first | assumption | exact Ext.refl _ | apply Ext.drewN | apply Ext.drew | apply Ext.alloc | (refine Ext.trans ?_ (by assumption)) | (refine Ext.set ?_ (by dsimp only; omega) _))))) (by (try simp only [al_size, size_drewN]); omega)) ?_; rintro e ww ⟨Aw, cw, rfl, hw0, hxc⟩; have zs := hxc.size; (try simp only [al_size, size_drewN] at zs))
    go_wp2_with (go_at_call 38; refine Calls.mono (c_toFl (RdF.below h0 (by repeat (first | assumption | exact Ext.refl _ | apply Ext.drewN | apply Ext.drew | apply Ext.alloc | (refine Ext.trans ?_ (by assumption)) | (refine Ext.set ?_ (by dsimp only; omega) _)))) (by (try simp only [al_size, size_drewN]); omega) hn0) ?_; rintro e xw0 ⟨rfl, hx0, hxt, zs⟩; (try simp only [al_size, size_drewN] at zs))
    go_wp2_with (go_at_call 38; refine Calls.mono (c_toFl (RdF.below h1 (by repeat (first | assumption | exact Ext.refl _ | apply Ext.drewN | apply Ext.drew | apply Ext.alloc | (refine Ext.trans ?_ (by assumption)) | (refine Ext.set ?_ (by dsimp only; omega) _)))) (by (try simp only [al_size, size_drewN]); omega) hn1) ?_; rintro e xw1 ⟨rfl, hx1, hxt, zs⟩; (try simp only [al_size, size_drewN] at zs))
    go_wp2_with (go_at_call 39; refine Calls.mono (HI.out _ _ _ _ (OwL.rd (OwL.ext hx0 (by (try simp only [al_size, size_drewN]); omega) (by repeat (first | assumption | exact Ext.refl _ | apply Ext.drewN | apply Ext.drew | apply Ext.alloc | (refine Ext.trans ?_ (by assumption)) | (refine Ext.set ?_ (by dsimp only; omega) _))))) (by (try simp only [al_size, size_drewN]); omega) _ _ _ (OwL.rd (OwL.ext hx1 (by (try simp only [al_size, size_drewN]); omega) (by repeat (first | assumption | exact Ext.refl _ | apply Ext.drewN | apply Ext.drew | apply Ext.alloc | (refine Ext.trans ?_ (by assumption)) | (refine Ext.set ?_ (by dsimp only; omega) _))))) (by (try simp only [al_size, size_drewN]); omega)) ?_; rintro e gw ⟨Ag, cg, rfl, hg0, hxc⟩; have zs := hxc.size; (try simp only [al_size, size_drewN] at zs))
    go_wp2_with (go_at_call 33; refine Calls.mono (c_eqFloat32S (OwL.rd (OwL.ext hg0 (by (try simp only [al_size, size_drewN]); omega) (by repeat (first | assumption | exact Ext.refl _ | apply Ext.drewN | apply Ext.drew | apply Ext.alloc | (refine Ext.trans ?_ (by assumption)) | (refine Ext.set ?_ (by dsimp only; omega) _))))) (OwL.rd (OwL.ext hw0 (by (try simp only [al_size, size_drewN]); omega) (by repeat (first | assumption | exact Ext.refl _ | apply Ext.drewN | apply Ext.drew | apply Ext.alloc | (refine Ext.trans ?_ (by assumption)) | (refine Ext.set ?_ (by dsimp only; omega) _))))) hq) ?_; rintro e we ⟨rfl, m1, rfl⟩)
    go_wp2_with (go_at_call 38; refine Calls.mono (c_toFl (RdF.below h0 (by repeat (first | assumption | exact Ext.refl _ | apply Ext.drewN | apply Ext.drew | apply Ext.alloc | (refine Ext.trans ?_ (by assumption)) | (refine Ext.set ?_ (by dsimp only; omega) _)))) (by (try simp only [al_size, size_drewN]); omega) hn0) ?_; rintro e yw0 ⟨rfl, hy0, hxt, zs⟩; (try simp only [al_size, size_drewN] at zs))
    go_wp2_with (go_at_call 33; refine Calls.mono (c_eqFloat32S (OwL.rd (OwL.ext hx0 (by (try simp only [al_size, size_drewN]); omega) (by repeat (first | assumption | exact Ext.refl _ | apply Ext.drewN | apply Ext.drew | apply Ext.alloc | (refine Ext.trans ?_ (by assumption)) | (refine Ext.set ?_ (by dsimp only; omega) _))))) (OwL.rd (OwL.ext hy0 (by (try simp only [al_size, size_drewN]); omega) (by repeat (first | assumption | exact Ext.refl _ | apply Ext.drewN | apply Ext.drew | apply Ext.alloc | (refine Ext.trans ?_ (by assumption)) | (refine Ext.set ?_ (by dsimp only; omega) _))))) hn0) ?_; rintro e we ⟨rfl, m1, rfl⟩)
    go_wp2_with (go_at_call 38; refine Calls.mono (c_toFl (RdF.below h1 (by repeat (first | assumption | exact Ext.refl _ | apply Ext.drewN | apply Ext.drew | apply Ext.alloc | (refine Ext.trans ?_ (by assumption)) | (refine Ext.set ?_ (by dsimp only; omega) _)))) (by (try simp only [al_size, size_drewN]); omega) hn1) ?_; rintro e yw1 ⟨rfl, hy1, hxt, zs⟩; (try simp only [al_size, size_drewN] at zs))
    go_wp2_with (go_at_call 33; refine Calls.mono (c_eqFloat32S (OwL.rd (OwL.ext hx1 (by (try simp only [al_size, size_drewN]); omega) (by repeat (first | assumption | exact Ext.refl _ | apply Ext.drewN | apply Ext.drew | apply Ext.alloc | (refine Ext.trans ?_ (by assumption)) | (refine Ext.set ?_ (by dsimp only; omega) _))))) (OwL.rd (OwL.ext hy1 (by (try simp only [al_size, size_drewN]); omega) (by repeat (first | assumption | exact Ext.refl _ | apply Ext.drewN | apply Ext.drew | apply Ext.alloc | (refine Ext.trans ?_ (by assumption)) | (refine Ext.set ?_ (by dsimp only; omega) _))))) hn1) ?_; rintro e we ⟨rfl, m1, rfl⟩)
    go_wp2_with (go_at_call 35; refine Calls.mono (c_markFloat32S (OwL.ext hx0 (by (try simp only [al_size, size_drewN]); omega) (by repeat (first | assumption | exact Ext.refl _ | apply Ext.drewN | apply Ext.drew | apply Ext.alloc | (refine Ext.trans ?_ (by assumption)) | (refine Ext.set ?_ (by dsimp only; omega) _)))) hn0 (by decide)) ?_; rintro e wm0 ⟨rfl, _, hk⟩; have hXm : Ext w wm0 := Kb.ext hk (by repeat (first | assumption | exact Ext.refl _ | apply Ext.drewN | apply Ext.drew | apply Ext.alloc | (refine Ext.trans ?_ (by assumption)) | (refine Ext.set ?_ (by dsimp only; omega) _))) (by (try simp only [al_size, size_drewN]); omega); have hw0 := (OwL.ext hw0 (by (try simp only [al_size, size_drewN]); omega) (by repeat (first | assumption | exact Ext.refl _ | apply Ext.drewN | apply Ext.drew | apply Ext.alloc | (refine Ext.trans ?_ (by assumption)) | (refine Ext.set ?_ (by dsimp only; omega) _)))).same (hk.sameL (by (try simp only [al_size, size_drewN]); omega)); have hg0 := (OwL.ext hg0 (by (try simp only [al_size, size_drewN]); omega) (by repeat (first | assumption | exact Ext.refl _ | apply Ext.drewN | apply Ext.drew | apply Ext.alloc | (refine Ext.trans ?_ (by assumption)) | (refine Ext.set ?_ (by dsimp only; omega) _)))).same (hk.sameR (by (try simp only [al_size, size_drewN]); omega) (by (try simp only [al_size, size_drewN]); omega)); have hx1 := (OwL.ext hx1 (by (try simp only [al_size, size_drewN]); omega) (by repeat (first | assumption | exact Ext.refl _ | apply Ext.drewN | apply Ext.drew | apply Ext.alloc | (refine Ext.trans ?_ (by assumption)) | (refine Ext.set ?_ (by dsimp only; omega) _)))).same (hk.sameR (by (try simp only [al_size, size_drewN]); omega) (by (try simp only [al_size, size_drewN]); omega)); have zs := hk.below.size; (try simp only [al_size, size_drewN] at zs); clear hk)
    go_wp2_with (go_at_call 35; refine Calls.mono (c_markFloat32S (k0 := 1 + n0) (OwL.ext hx1 (by (try simp only [al_size, size_drewN]); omega) (by repeat (first | assumption | exact Ext.refl _ | apply Ext.drewN | apply Ext.drew | apply Ext.alloc | (refine Ext.trans ?_ (by assumption)) | (refine Ext.set ?_ (by dsimp only; omega) _)))) hn1 (by omega)) ?_; rintro e wm1 ⟨rfl, _, hk⟩; have hXm : Ext w wm1 := Kb.ext hk (by repeat (first | assumption | exact Ext.refl _ | apply Ext.drewN | apply Ext.drew | apply Ext.alloc | (refine Ext.trans ?_ (by assumption)) | (refine Ext.set ?_ (by dsimp only; omega) _))) (by (try simp only [al_size, size_drewN]); omega); have hw0 := (OwL.ext hw0 (by (try simp only [al_size, size_drewN]); omega) (by repeat (first | assumption | exact Ext.refl _ | apply Ext.drewN | apply Ext.drew | apply Ext.alloc | (refine Ext.trans ?_ (by assumption)) | (refine Ext.set ?_ (by dsimp only; omega) _)))).same (hk.sameL (by (try simp only [al_size, size_drewN]); omega)); have hg0 := (OwL.ext hg0 (by (try simp only [al_size, size_drewN]); omega) (by repeat (first | assumption | exact Ext.refl _ | apply Ext.drewN | apply Ext.drew | apply Ext.alloc | (refine Ext.trans ?_ (by assumption)) | (refine Ext.set ?_ (by dsimp only; omega) _)))).same (hk.sameR (by (try simp only [al_size, size_drewN]); omega) (by (try simp only [al_size, size_drewN]); omega)); have zs := hk.below.size; (try simp only [al_size, size_drewN] at zs); clear hk)
    go_wp2_with (go_at_call 33; refine Calls.mono (c_eqFloat32S (OwL.rd (OwL.ext hg0 (by (try simp only [al_size, size_drewN]); omega) (by repeat (first | assumption | exact Ext.refl _ | apply Ext.drewN | apply Ext.drew | apply Ext.alloc | (refine Ext.trans ?_ (by assumption)) | (refine Ext.set ?_ (by dsimp only; omega) _))))) (OwL.rd (OwL.ext hw0 (by (try simp only [al_size, size_drewN]); omega) (by repeat (first | assumption | exact Ext.refl _ | apply Ext.drewN | apply Ext.drew | apply Ext.alloc | (refine Ext.trans ?_ (by assumption)) | (refine Ext.set ?_ (by dsimp only; omega) _))))) hq) ?_; rintro e we ⟨rfl, m1, rfl⟩)
    go_wp2_with (go_at_call 35; refine Calls.mono (c_markFloat32S (OwL.ext hg0 (by (try simp only [al_size, size_drewN]); omega) (by repeat (first | assumption | exact Ext.refl _ | apply Ext.drewN | apply Ext.drew | apply Ext.alloc | (refine Ext.trans ?_ (by assumption)) | (refine Ext.set ?_ (by dsimp only; omega) _)))) hq (by decide)) ?_; rintro e wn ⟨rfl, hg0, hk⟩; have hXm : Ext w wn := Kb.ext hk (by repeat (first | assumption | exact Ext.refl _ | apply Ext.drewN | apply Ext.drew | apply Ext.alloc | (refine Ext.trans ?_ (by assumption)) | (refine Ext.set ?_ (by dsimp only; omega) _))) (by (try simp only [al_size, size_drewN]); omega); have hw0 := (OwL.ext hw0 (by (try simp only [al_size, size_drewN]); omega) (by repeat (first | assumption | exact Ext.refl _ | apply Ext.drewN | apply Ext.drew | apply Ext.alloc | (refine Ext.trans ?_ (by assumption)) | (refine Ext.set ?_ (by dsimp only; omega) _)))).same (hk.sameL (by (try simp only [al_size, size_drewN]); omega)); have zs := hk.below.size; (try simp only [al_size, size_drewN] at zs); clear hk)
    go_wp2_with (go_at_call 36; refine Calls.mono (c_heldFloat32S (OwL.rd (OwL.ext hg0 (by (try simp only [al_size, size_drewN]); omega) (by repeat (first | assumption | exact Ext.refl _ | apply Ext.drewN | apply Ext.drew | apply Ext.alloc | (refine Ext.trans ?_ (by assumption)) | (refine Ext.set ?_ (by dsimp only; omega) _))))) hq (by decide)) ?_; rintro e wo ⟨rfl, rfl⟩)
    go_wp2_with (go_at_call 38; refine Calls.mono (c_toFl (RdF.below h0 (by repeat (first | assumption | exact Ext.refl _ | apply Ext.drewN | apply Ext.drew | apply Ext.alloc | (refine Ext.trans ?_ (by assumption)) | (refine Ext.set ?_ (by dsimp only; omega) _)))) (by (try simp only [al_size, size_drewN]); omega) hn0) ?_; rintro e zw0 ⟨rfl, hz0, hxt, zs⟩; (try simp only [al_size, size_drewN] at zs))
    go_wp2_with (go_at_call 38; refine Calls.mono (c_toFl (RdF.below h1 (by repeat (first | assumption | exact Ext.refl _ | apply Ext.drewN | apply Ext.drew | apply Ext.alloc | (refine Ext.trans ?_ (by assumption)) | (refine Ext.set ?_ (by dsimp only; omega) _)))) (by (try simp only [al_size, size_drewN]); omega) hn1) ?_; rintro e zw1 ⟨rfl, hz1, hxt, zs⟩; (try simp only [al_size, size_drewN] at zs))
    go_wp2_with (go_at_call 39; refine Calls.mono (HI.out _ _ _ _ (OwL.rd (OwL.ext hz0 (by (try simp only [al_size, size_drewN]); omega) (by repeat (first | assumption | exact Ext.refl _ | apply Ext.drewN | apply Ext.drew | apply Ext.alloc | (refine Ext.trans ?_ (by assumption)) | (refine Ext.set ?_ (by dsimp only; omega) _))))) (by (try simp only [al_size, size_drewN]); omega) _ _ _ (OwL.rd (OwL.ext hz1 (by (try simp only [al_size, size_drewN]); omega) (by repeat (first | assumption | exact Ext.refl _ | apply Ext.drewN | apply Ext.drew | apply Ext.alloc | (refine Ext.trans ?_ (by assumption)) | (refine Ext.set ?_ (by dsimp only; omega) _))))) (by (try simp only [al_size, size_drewN]); omega)) ?_; rintro e hw ⟨Ah, ch, rfl, hh0, hxc⟩; have zs := hxc.size; (try simp only [al_size, size_drewN] at zs))
    go_wp2_with (go_at_call 33; refine Calls.mono (c_eqFloat32S (OwL.rd (OwL.ext hh0 (by (try simp only [al_size, size_drewN]); omega) (by repeat (first | assumption | exact Ext.refl _ | apply Ext.drewN | apply Ext.drew | apply Ext.alloc | (refine Ext.trans ?_ (by assumption)) | (refine Ext.set ?_ (by dsimp only; omega) _))))) (OwL.rd (OwL.ext hw0 (by (try simp only [al_size, size_drewN]); omega) (by repeat (first | assumption | exact Ext.refl _ | apply Ext.drewN | apply Ext.drew | apply Ext.alloc | (refine Ext.trans ?_ (by assumption)) | (refine Ext.set ?_ (by dsimp only; omega) _))))) hq) ?_; rintro e we ⟨rfl, m1, rfl⟩)
    go_wp2_with (go_at_call 36; refine Calls.mono (c_heldFloat32S (OwL.rd (OwL.ext hg0 (by (try simp only [al_size, size_drewN]); omega) (by repeat (first | assumption | exact Ext.refl _ | apply Ext.drewN | apply Ext.drew | apply Ext.alloc | (refine Ext.trans ?_ (by assumption)) | (refine Ext.set ?_ (by dsimp only; omega) _))))) hq (by decide)) ?_; rintro e wo ⟨rfl, rfl⟩)
    go_ret
    exact ⟨rfl, (by repeat (first | assumption | exact Ext.refl _ | apply Ext.drewN | apply Ext.drew | apply Ext.alloc | (refine Ext.trans ?_ (by assumption)) | (refine Ext.set ?_ (by dsimp only; omega) _)))⟩
set_option maxRecDepth 20000 in
open Go.ChangeShapes Go.WideShapes Go.ChangeAt Go.ChangeMaps in
theorem FnExactSpeedsOfRoots_holds : Rows.FnExactSpeedsOfRootsSaid :=
  OpenClaim.holds_of_wide 10 Try.f10 rfl rfl rfl rfl rfl rfl rfl ⟨rfl, rfl, rfl, rfl, rfl⟩ rfl rfl rfl rfl rfl (by kernel_rfl) Try.func10 (by kernel_rfl)
    (of_decide_eq_true (by kernel_rfl)) (by unfold Func.isWrapper; first | (rw [if_pos (by decide +kernel)]; kernel_rfl) | (rw [if_neg (by decide +kernel)]; exact ⟨rfl, rfl⟩))
    (fun os started H enc _ => law_lifted os started H enc 10 Try.f10 Rows.fnExactSpeedsOfRootsSpec (by kernel_rfl) Try.func10
      (ChangeSpec.witness6 (enc := enc) (C := Try.checked) false ⟨#[], #[.slice none 0 0, .slice none 0 0], []⟩ 8 (by kernel_rfl) (by kernel_rfl) (by kernel_rfl) (by kernel_rfl))
      (by rw [Try.params10]; intro t ht; simp at ht; subst ht <;> exact ⟨by kernel_rfl, of_decide_eq_true (by kernel_rfl)⟩) rfl 4 (by kernel_rfl) Try.underlying4
      (by intro ds hds; rw [Try.params10] at hds; match ds, hds with | [_, _], _ => rfl)
      (by
        intro W base args ds ps hval hA hlt
        rw [Try.params10] at hA hval
        obtain ⟨v0, v1, d0, d1, p0, p1, rfl, rfl, rfl, h0, h1⟩ := trodAll_two hA
        have o0 := open_floats Try.underlying44 Try.underlying23 cells_f32 (hval 0 44 v0 rfl rfl) h0 (fun x hx => hlt x (by simp [hx]))
        have o1 := open_floats Try.underlying44 Try.underlying23 cells_f32 (hval 1 44 v1 rfl rfl) h1 (fun x hx => hlt x (by simp [hx]))
        exact w_FnExactSpeedsOfRoots (w := W) o0 o1))

end Go.Proofs.Ytkoiimjpalhgbab
