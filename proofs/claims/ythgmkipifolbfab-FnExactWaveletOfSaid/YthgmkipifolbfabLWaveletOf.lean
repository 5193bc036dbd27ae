/- The law FnExactWaveletOf: every call returns true and leaves the memory as it was, whatever the arguments. No condition. -/
import Derived.Test.YthgmkipifolbfabUc
namespace Go.Proofs.Ythgmkipifolbfab
open Go.RowKit Ieee

set_option linter.unusedSimpArgs false in
set_option maxRecDepth 20000 in
set_option maxHeartbeats 8000000 in
theorem w_FnExactWaveletOf {w : World} {i0 : Int} (hi0 : -9223372036854775808 ≤ i0) (hj0 : i0 ≤ 9223372036854775807) {p1 : Nat} (hp1 : p1 < 4294967296) :
    Calls Try.prog 12 #[.int .i64 i0, .float .f32 p1] w fun e w' => e = .returned (.bool true) ∧ Below w.heap.size w w' := by
  have fp1 := Fl.of32 hp1
  generalize fl .f32 p1 = P1 at fp1
  · skip
    obtain ⟨ok, Q, q, hq, hS, hI⟩ := both_WaveletOf  (i0 := i0) hi0 hj0 fp1
    have HS := Lib.hid hS
    have HI := Lib.hid hI
    have hneg : ¬ (((1 : Nat) : Int) < 0) := by omega
    have hneg2 : ¬ (((1 + q : Nat) : Int) < 0) := by omega
    clear hS hI
    go_enter Try.func12, Try.ntmps12
    go_wp2_with (go_at_call 37; refine Calls.mono (HS.out _ ) ?_; rintro e ww ⟨Aw, cw, rfl, hw0, hxc⟩; have zs := hxc.size; (try simp only [al_size, size_drewN] at zs))
    go_wp2_with (go_at_call 38; refine Calls.mono (HI.out _ ) ?_; rintro e gw ⟨Ag, cg, rfl, hg0, hxc⟩; have zs := hxc.size; (try simp only [al_size, size_drewN] at zs))
    go_wp2_with (go_at_call 18; refine Calls.mono (c_eqFloat32S (OwL.rd (OwL.ext hg0 (by (try simp only [al_size, size_drewN]); omega) (by repeat (first | assumption | exact Ext.refl _ | apply Ext.drewN | apply Ext.drew | apply Ext.alloc | (refine Ext.trans ?_ (by assumption)) | (refine Ext.set ?_ (by dsimp only; omega) _))))) (OwL.rd (OwL.ext hw0 (by (try simp only [al_size, size_drewN]); omega) (by repeat (first | assumption | exact Ext.refl _ | apply Ext.drewN | apply Ext.drew | apply Ext.alloc | (refine Ext.trans ?_ (by assumption)) | (refine Ext.set ?_ (by dsimp only; omega) _))))) hq) ?_; rintro e we ⟨rfl, m1, rfl⟩)
    go_wp2_with (go_at_call 18; refine Calls.mono (c_eqFloat32S (OwL.rd (OwL.ext hg0 (by (try simp only [al_size, size_drewN]); omega) (by repeat (first | assumption | exact Ext.refl _ | apply Ext.drewN | apply Ext.drew | apply Ext.alloc | (refine Ext.trans ?_ (by assumption)) | (refine Ext.set ?_ (by dsimp only; omega) _))))) (OwL.rd (OwL.ext hw0 (by (try simp only [al_size, size_drewN]); omega) (by repeat (first | assumption | exact Ext.refl _ | apply Ext.drewN | apply Ext.drew | apply Ext.alloc | (refine Ext.trans ?_ (by assumption)) | (refine Ext.set ?_ (by dsimp only; omega) _))))) hq) ?_; rintro e we ⟨rfl, m1, rfl⟩)
    go_wp2_with (go_at_call 21; refine Calls.mono (c_markFloat32S (OwL.ext hg0 (by (try simp only [al_size, size_drewN]); omega) (by repeat (first | assumption | exact Ext.refl _ | apply Ext.drewN | apply Ext.drew | apply Ext.alloc | (refine Ext.trans ?_ (by assumption)) | (refine Ext.set ?_ (by dsimp only; omega) _)))) hq (by decide)) ?_; rintro e wn ⟨rfl, hg0, hk⟩; have hXm : Ext w wn := Kb.ext hk (by repeat (first | assumption | exact Ext.refl _ | apply Ext.drewN | apply Ext.drew | apply Ext.alloc | (refine Ext.trans ?_ (by assumption)) | (refine Ext.set ?_ (by dsimp only; omega) _))) (by (try simp only [al_size, size_drewN]); omega); have hw0 := (OwL.ext hw0 (by (try simp only [al_size, size_drewN]); omega) (by repeat (first | assumption | exact Ext.refl _ | apply Ext.drewN | apply Ext.drew | apply Ext.alloc | (refine Ext.trans ?_ (by assumption)) | (refine Ext.set ?_ (by dsimp only; omega) _)))).same (hk.sameL (by (try simp only [al_size, size_drewN]); omega)); have zs := hk.below.size; (try simp only [al_size, size_drewN] at zs); clear hk)
    go_wp2_with (go_at_call 22; refine Calls.mono (c_heldFloat32S (OwL.rd (OwL.ext hg0 (by (try simp only [al_size, size_drewN]); omega) (by repeat (first | assumption | exact Ext.refl _ | apply Ext.drewN | apply Ext.drew | apply Ext.alloc | (refine Ext.trans ?_ (by assumption)) | (refine Ext.set ?_ (by dsimp only; omega) _))))) hq (by decide)) ?_; rintro e wo ⟨rfl, rfl⟩)
    go_wp2_with (go_at_call 38; refine Calls.mono (HI.out _ ) ?_; rintro e hw ⟨Ah, ch, rfl, hh0, hxc⟩; have zs := hxc.size; (try simp only [al_size, size_drewN] at zs))
    go_wp2_with (go_at_call 18; refine Calls.mono (c_eqFloat32S (OwL.rd (OwL.ext hh0 (by (try simp only [al_size, size_drewN]); omega) (by repeat (first | assumption | exact Ext.refl _ | apply Ext.drewN | apply Ext.drew | apply Ext.alloc | (refine Ext.trans ?_ (by assumption)) | (refine Ext.set ?_ (by dsimp only; omega) _))))) (OwL.rd (OwL.ext hw0 (by (try simp only [al_size, size_drewN]); omega) (by repeat (first | assumption | exact Ext.refl _ | apply Ext.drewN | apply Ext.drew | apply Ext.alloc | (refine Ext.trans ?_ (by assumption)) | (refine Ext.set ?_ (by dsimp only; omega) _))))) hq) ?_; rintro e we ⟨rfl, m1, rfl⟩)
    go_wp2_with (go_at_call 22; refine Calls.mono (c_heldFloat32S (OwL.rd (OwL.ext hg0 (by (try simp only [al_size, size_drewN]); omega) (by repeat (first | assumption | exact Ext.refl _ | apply Ext.drewN | apply Ext.drew | apply Ext.alloc | (refine Ext.trans ?_ (by assumption)) | (refine Ext.set ?_ (by dsimp only; omega) _))))) hq (by decide)) ?_; rintro e wo ⟨rfl, rfl⟩)
    go_ret
    exact ⟨rfl, (by repeat (first | assumption | exact Ext.refl _ | apply Ext.drewN | apply Ext.drew | apply Ext.alloc | (refine Ext.trans ?_ (by assumption)) | (refine Ext.set ?_ (by dsimp only; omega) _)))⟩
set_option maxRecDepth 20000 in
open Go.ChangeShapes Go.WideShapes Go.ChangeAt Go.ChangeMaps in
theorem FnExactWaveletOf_holds : Rows.FnExactWaveletOfSaid :=
  OpenClaim.holds_of_wide 12 Try.f12 rfl rfl rfl rfl rfl rfl rfl ⟨rfl, rfl, rfl, rfl, rfl⟩ rfl rfl rfl rfl rfl (by kernel_rfl) Try.func12 (by kernel_rfl)
    (of_decide_eq_true (by kernel_rfl)) (by unfold Func.isWrapper; first | (rw [if_pos (by decide +kernel)]; kernel_rfl) | (rw [if_neg (by decide +kernel)]; exact ⟨rfl, rfl⟩))
    (fun os started H enc _ => law_lifted os started H enc 12 Try.f12 Rows.fnExactWaveletOfSpec (by kernel_rfl) Try.func12
      (ChangeSpec.witness6 (enc := enc) (C := Try.checked) false ⟨#[], #[.int .i64 0, .float .f32 0], []⟩ 8 (by kernel_rfl) (by kernel_rfl) (by kernel_rfl) (by kernel_rfl))
      (by rw [Try.params12]; intro t ht; simp at ht; rcases ht with rfl | rfl <;> exact ⟨by kernel_rfl, of_decide_eq_true (by kernel_rfl)⟩) rfl 4 (by kernel_rfl) Try.underlying4
      (by intro ds hds; rw [Try.params12] at hds; match ds, hds with | [_, _], _ => rfl)
      (by
        intro W base args ds ps hval hA hlt
        rw [Try.params12] at hA hval
        obtain ⟨v0, v1, d0, d1, p0, p1, rfl, rfl, rfl, h0, h1⟩ := trodAll_two hA
        obtain ⟨a0, rfl, rfl, rfl, k0⟩ := open_int Try.underlying2 (hval 0 2 v0 rfl rfl) h0
        obtain ⟨a1, rfl, rfl, rfl, k1⟩ := open_float Try.underlying29 (hval 1 29 v1 rfl rfl) h1
        exact w_FnExactWaveletOf (w := W) (wfi64 k0).1 (wfi64 k0).2 (wf32 k1)))

end Go.Proofs.Ythgmkipifolbfab
