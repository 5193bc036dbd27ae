/- The law FnExactHardnessOf: every call returns true and leaves the memory as it was, whatever the arguments. No condition. -/
import Derived.Test.YthgmkipifolbfabUf
namespace Go.Proofs.Ythgmkipifolbfab
open Go.RowKit Ieee

set_option linter.unusedSimpArgs false in
set_option maxRecDepth 20000 in
set_option maxHeartbeats 8000000 in
theorem w_FnExactHardnessOf {w : World} {p0 : Nat} (hp0 : p0 < 4294967296) {v1 : Value} (o1 : ∃ A n c L, v1 = .slice A n c ∧ n ≤ maxLen ∧ RdF w w.heap.size A n L) :
    Calls Try.prog 5 #[.float .f32 p0, v1] w fun e w' => e = .returned (.bool true) ∧ Below w.heap.size w w' := by
  have fp0 := Fl.of32 hp0
  generalize fl .f32 p0 = P0 at fp0
  obtain ⟨A1, n1, c1, L1, rfl, hm1, h1⟩ := o1
  unfold maxLen at hm1
  by_cases hn1 : n1 ≤ 1048576
  case neg =>
    have hb1 : (1048576 : Int) < (n1 : Int) := by omega
    go_enter Try.func5, Try.ntmps5
    go_wp2_with (fail)
    go_ret
    exact ⟨rfl, Below.refl _ _⟩
  case pos =>
    obtain ⟨ok, Q, q, hq, hS, hI⟩ := both_HardnessOf h1.len hn1 fp0
    have HS := Lib.hid hS
    have HI := Lib.hid hI
    have hd1 : ¬ ((1048576 : Int) < (n1 : Int)) := by omega
    have hneg : ¬ (((1 + n1 : Nat) : Int) < 0) := by omega
    have hneg2 : ¬ (((1 + q : Nat) : Int) < 0) := by omega
    clear hS hI
    go_enter Try.func5, Try.ntmps5
    go_wp2_with (go_at_call 16; refine Calls.mono (c_toFl (RdF.below h1 (by repeat (first | assumption | exact Ext.refl _ | apply Ext.drewN | apply Ext.drew | apply Ext.alloc | (refine Ext.trans ?_ (by assumption)) | (refine Ext.set ?_ (by dsimp only; omega) _)))) (by (try simp only [al_size, size_drewN]); omega) hn1) ?_; rintro e sw1 ⟨rfl, hs1, hxt, zs⟩; (try simp only [al_size, size_drewN] at zs))
    go_wp2_with (go_at_call 23; refine Calls.mono (HS.out _ _ _ _ (OwL.rd (OwL.ext hs1 (by (try simp only [al_size, size_drewN]); omega) (by repeat (first | assumption | exact Ext.refl _ | apply Ext.drewN | apply Ext.drew | apply Ext.alloc | (refine Ext.trans ?_ (by assumption)) | (refine Ext.set ?_ (by dsimp only; omega) _))))) (by (try simp only [al_size, size_drewN]); omega)) ?_; rintro e ww ⟨Aw, cw, rfl, hw0, hxc⟩; have zs := hxc.size; (try simp only [al_size, size_drewN] at zs))
    go_wp2_with (go_at_call 16; refine Calls.mono (c_toFl (RdF.below h1 (by repeat (first | assumption | exact Ext.refl _ | apply Ext.drewN | apply Ext.drew | apply Ext.alloc | (refine Ext.trans ?_ (by assumption)) | (refine Ext.set ?_ (by dsimp only; omega) _)))) (by (try simp only [al_size, size_drewN]); omega) hn1) ?_; rintro e xw1 ⟨rfl, hx1, hxt, zs⟩; (try simp only [al_size, size_drewN] at zs))
    go_wp2_with (go_at_call 24; refine Calls.mono (HI.out _ _ _ _ (OwL.rd (OwL.ext hx1 (by (try simp only [al_size, size_drewN]); omega) (by repeat (first | assumption | exact Ext.refl _ | apply Ext.drewN | apply Ext.drew | apply Ext.alloc | (refine Ext.trans ?_ (by assumption)) | (refine Ext.set ?_ (by dsimp only; omega) _))))) (by (try simp only [al_size, size_drewN]); omega)) ?_; rintro e gw ⟨Ag, cg, rfl, hg0, hxc⟩; have zs := hxc.size; (try simp only [al_size, size_drewN] at zs))
    go_wp2_with (go_at_call 18; refine Calls.mono (c_eqFloat32S (OwL.rd (OwL.ext hg0 (by (try simp only [al_size, size_drewN]); omega) (by repeat (first | assumption | exact Ext.refl _ | apply Ext.drewN | apply Ext.drew | apply Ext.alloc | (refine Ext.trans ?_ (by assumption)) | (refine Ext.set ?_ (by dsimp only; omega) _))))) (OwL.rd (OwL.ext hw0 (by (try simp only [al_size, size_drewN]); omega) (by repeat (first | assumption | exact Ext.refl _ | apply Ext.drewN | apply Ext.drew | apply Ext.alloc | (refine Ext.trans ?_ (by assumption)) | (refine Ext.set ?_ (by dsimp only; omega) _))))) hq) ?_; rintro e we ⟨rfl, m1, rfl⟩)
    go_wp2_with (go_at_call 16; refine Calls.mono (c_toFl (RdF.below h1 (by repeat (first | assumption | exact Ext.refl _ | apply Ext.drewN | apply Ext.drew | apply Ext.alloc | (refine Ext.trans ?_ (by assumption)) | (refine Ext.set ?_ (by dsimp only; omega) _)))) (by (try simp only [al_size, size_drewN]); omega) hn1) ?_; rintro e yw1 ⟨rfl, hy1, hxt, zs⟩; (try simp only [al_size, size_drewN] at zs))
    go_wp2_with (go_at_call 18; refine Calls.mono (c_eqFloat32S (OwL.rd (OwL.ext hx1 (by (try simp only [al_size, size_drewN]); omega) (by repeat (first | assumption | exact Ext.refl _ | apply Ext.drewN | apply Ext.drew | apply Ext.alloc | (refine Ext.trans ?_ (by assumption)) | (refine Ext.set ?_ (by dsimp only; omega) _))))) (OwL.rd (OwL.ext hy1 (by (try simp only [al_size, size_drewN]); omega) (by repeat (first | assumption | exact Ext.refl _ | apply Ext.drewN | apply Ext.drew | apply Ext.alloc | (refine Ext.trans ?_ (by assumption)) | (refine Ext.set ?_ (by dsimp only; omega) _))))) hn1) ?_; rintro e we ⟨rfl, m1, rfl⟩)
    go_wp2_with (go_at_call 21; refine Calls.mono (c_markFloat32S (OwL.ext hx1 (by (try simp only [al_size, size_drewN]); omega) (by repeat (first | assumption | exact Ext.refl _ | apply Ext.drewN | apply Ext.drew | apply Ext.alloc | (refine Ext.trans ?_ (by assumption)) | (refine Ext.set ?_ (by dsimp only; omega) _)))) hn1 (by decide)) ?_; rintro e wm1 ⟨rfl, _, hk⟩; have hXm : Ext w wm1 := Kb.ext hk (by repeat (first | assumption | exact Ext.refl _ | apply Ext.drewN | apply Ext.drew | apply Ext.alloc | (refine Ext.trans ?_ (by assumption)) | (refine Ext.set ?_ (by dsimp only; omega) _))) (by (try simp only [al_size, size_drewN]); omega); have hw0 := (OwL.ext hw0 (by (try simp only [al_size, size_drewN]); omega) (by repeat (first | assumption | exact Ext.refl _ | apply Ext.drewN | apply Ext.drew | apply Ext.alloc | (refine Ext.trans ?_ (by assumption)) | (refine Ext.set ?_ (by dsimp only; omega) _)))).same (hk.sameL (by (try simp only [al_size, size_drewN]); omega)); have hg0 := (OwL.ext hg0 (by (try simp only [al_size, size_drewN]); omega) (by repeat (first | assumption | exact Ext.refl _ | apply Ext.drewN | apply Ext.drew | apply Ext.alloc | (refine Ext.trans ?_ (by assumption)) | (refine Ext.set ?_ (by dsimp only; omega) _)))).same (hk.sameR (by (try simp only [al_size, size_drewN]); omega) (by (try simp only [al_size, size_drewN]); omega)); have zs := hk.below.size; (try simp only [al_size, size_drewN] at zs); clear hk)
    go_wp2_with (go_at_call 18; refine Calls.mono (c_eqFloat32S (OwL.rd (OwL.ext hg0 (by (try simp only [al_size, size_drewN]); omega) (by repeat (first | assumption | exact Ext.refl _ | apply Ext.drewN | apply Ext.drew | apply Ext.alloc | (refine Ext.trans ?_ (by assumption)) | (refine Ext.set ?_ (by dsimp only; omega) _))))) (OwL.rd (OwL.ext hw0 (by (try simp only [al_size, size_drewN]); omega) (by repeat (first | assumption | exact Ext.refl _ | apply Ext.drewN | apply Ext.drew | apply Ext.alloc | (refine Ext.trans ?_ (by assumption)) | (refine Ext.set ?_ (by dsimp only; omega) _))))) hq) ?_; rintro e we ⟨rfl, m1, rfl⟩)
    go_wp2_with (go_at_call 21; refine Calls.mono (c_markFloat32S (OwL.ext hg0 (by (try simp only [al_size, size_drewN]); omega) (by repeat (first | assumption | exact Ext.refl _ | apply Ext.drewN | apply Ext.drew | apply Ext.alloc | (refine Ext.trans ?_ (by assumption)) | (refine Ext.set ?_ (by dsimp only; omega) _)))) hq (by decide)) ?_; rintro e wn ⟨rfl, hg0, hk⟩; have hXm : Ext w wn := Kb.ext hk (by repeat (first | assumption | exact Ext.refl _ | apply Ext.drewN | apply Ext.drew | apply Ext.alloc | (refine Ext.trans ?_ (by assumption)) | (refine Ext.set ?_ (by dsimp only; omega) _))) (by (try simp only [al_size, size_drewN]); omega); have hw0 := (OwL.ext hw0 (by (try simp only [al_size, size_drewN]); omega) (by repeat (first | assumption | exact Ext.refl _ | apply Ext.drewN | apply Ext.drew | apply Ext.alloc | (refine Ext.trans ?_ (by assumption)) | (refine Ext.set ?_ (by dsimp only; omega) _)))).same (hk.sameL (by (try simp only [al_size, size_drewN]); omega)); have zs := hk.below.size; (try simp only [al_size, size_drewN] at zs); clear hk)
    go_wp2_with (go_at_call 22; refine Calls.mono (c_heldFloat32S (OwL.rd (OwL.ext hg0 (by (try simp only [al_size, size_drewN]); omega) (by repeat (first | assumption | exact Ext.refl _ | apply Ext.drewN | apply Ext.drew | apply Ext.alloc | (refine Ext.trans ?_ (by assumption)) | (refine Ext.set ?_ (by dsimp only; omega) _))))) hq (by decide)) ?_; rintro e wo ⟨rfl, rfl⟩)
    go_wp2_with (go_at_call 16; refine Calls.mono (c_toFl (RdF.below h1 (by repeat (first | assumption | exact Ext.refl _ | apply Ext.drewN | apply Ext.drew | apply Ext.alloc | (refine Ext.trans ?_ (by assumption)) | (refine Ext.set ?_ (by dsimp only; omega) _)))) (by (try simp only [al_size, size_drewN]); omega) hn1) ?_; rintro e zw1 ⟨rfl, hz1, hxt, zs⟩; (try simp only [al_size, size_drewN] at zs))
    go_wp2_with (go_at_call 24; refine Calls.mono (HI.out _ _ _ _ (OwL.rd (OwL.ext hz1 (by (try simp only [al_size, size_drewN]); omega) (by repeat (first | assumption | exact Ext.refl _ | apply Ext.drewN | apply Ext.drew | apply Ext.alloc | (refine Ext.trans ?_ (by assumption)) | (refine Ext.set ?_ (by dsimp only; omega) _))))) (by (try simp only [al_size, size_drewN]); omega)) ?_; rintro e hw ⟨Ah, ch, rfl, hh0, hxc⟩; have zs := hxc.size; (try simp only [al_size, size_drewN] at zs))
    go_wp2_with (go_at_call 18; refine Calls.mono (c_eqFloat32S (OwL.rd (OwL.ext hh0 (by (try simp only [al_size, size_drewN]); omega) (by repeat (first | assumption | exact Ext.refl _ | apply Ext.drewN | apply Ext.drew | apply Ext.alloc | (refine Ext.trans ?_ (by assumption)) | (refine Ext.set ?_ (by dsimp only; omega) _))))) (OwL.rd (OwL.ext hw0 (by (try simp only [al_size, size_drewN]); omega) (by repeat (first | assumption | exact Ext.refl _ | apply Ext.drewN | apply Ext.drew | apply Ext.alloc | (refine Ext.trans ?_ (by assumption)) | (refine Ext.set ?_ (by dsimp only; omega) _))))) hq) ?_; rintro e we ⟨rfl, m1, rfl⟩)
    go_wp2_with (go_at_call 22; refine Calls.mono (c_heldFloat32S (OwL.rd (OwL.ext hg0 (by (try simp only [al_size, size_drewN]); omega) (by repeat (first | assumption | exact Ext.refl _ | apply Ext.drewN | apply Ext.drew | apply Ext.alloc | (refine Ext.trans ?_ (by assumption)) | (refine Ext.set ?_ (by dsimp only; omega) _))))) hq (by decide)) ?_; rintro e wo ⟨rfl, rfl⟩)
    go_ret
    exact ⟨rfl, (by repeat (first | assumption | exact Ext.refl _ | apply Ext.drewN | apply Ext.drew | apply Ext.alloc | (refine Ext.trans ?_ (by assumption)) | (refine Ext.set ?_ (by dsimp only; omega) _)))⟩
set_option maxRecDepth 20000 in
open Go.ChangeShapes Go.WideShapes Go.ChangeAt Go.ChangeMaps in
theorem FnExactHardnessOf_holds : Rows.FnExactHardnessOfSaid :=
  OpenClaim.holds_of_wide 5 Try.f5 rfl rfl rfl rfl rfl rfl rfl ⟨rfl, rfl, rfl, rfl, rfl⟩ rfl rfl rfl rfl rfl (by kernel_rfl) Try.func5 (by kernel_rfl)
    (of_decide_eq_true (by kernel_rfl)) (by unfold Func.isWrapper; first | (rw [if_pos (by decide +kernel)]; kernel_rfl) | (rw [if_neg (by decide +kernel)]; exact ⟨rfl, rfl⟩))
    (fun os started H enc _ => law_lifted os started H enc 5 Try.f5 Rows.fnExactHardnessOfSpec (by kernel_rfl) Try.func5
      (ChangeSpec.witness6 (enc := enc) (C := Try.checked) false ⟨#[], #[.float .f32 0, .slice none 0 0], []⟩ 8 (by kernel_rfl) (by kernel_rfl) (by kernel_rfl) (by kernel_rfl))
      (by rw [Try.params5]; intro t ht; simp at ht; rcases ht with rfl | rfl <;> exact ⟨by kernel_rfl, of_decide_eq_true (by kernel_rfl)⟩) rfl 4 (by kernel_rfl) Try.underlying4
      (by intro ds hds; rw [Try.params5] at hds; match ds, hds with | [_, _], _ => rfl)
      (by
        intro W base args ds ps hval hA hlt
        rw [Try.params5] at hA hval
        obtain ⟨v0, v1, d0, d1, p0, p1, rfl, rfl, rfl, h0, h1⟩ := trodAll_two hA
        obtain ⟨a0, rfl, rfl, rfl, k0⟩ := open_float Try.underlying29 (hval 0 29 v0 rfl rfl) h0
        have o1 := open_floats Try.underlying22 Try.underlying29 cells_f32 (hval 1 22 v1 rfl rfl) h1 (fun x hx => hlt x (by simp [hx]))
        exact w_FnExactHardnessOf (w := W) (wf32 k0) o1))

end Go.Proofs.Ythgmkipifolbfab
