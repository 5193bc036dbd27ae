/- The law FnExactIsPath: every call returns true and leaves the memory as it was, whatever the arguments. No condition. -/
import Derived.Test.YtmhfnchpkeeckabPt
namespace Go.Proofs.Ytmhfnchpkeeckab
open Go.RowKit Ieee

set_option linter.unusedSimpArgs false in
set_option maxRecDepth 20000 in
set_option maxHeartbeats 40000000 in
theorem w_FnExactIsPath {w : World} {v0 : Value} (o0 : ∃ p : Pth, v0 = p.val ∧ p.Ok) :
    Calls Try.prog 4 #[v0] w fun e w' => e = .returned (.bool true) ∧ Below w.heap.size w w' := by
  obtain ⟨g0, rfl, hg0⟩ := o0
  unfold Pth.val
  have hbox0 : PbAt (w.alloc (.cells #[.float .f32 g0.a, .float .f32 g0.b, .float .f32 g0.c, .float .f32 g0.d] 37)) (w.heap.size) g0 := PbAt.blk (T := 37) (by repeat (first | (refine al_at ?_ ?_ <;> first | rfl | (simp only [al_size] <;> omega)) | apply al_old))
  obtain ⟨X, hS, hI⟩ := both_IsPath hg0
  have HS := Lib.hid hS
  have HI := Lib.hid hI
  clear hS hI
  · skip
    go_enter Try.func4, Try.ntmps4
    go_wp2_with ((go_at_call_of 26 g0.a; refine Calls.mono (c_toPath hg0) ?_; rintro e sw0 ⟨rfl, hxt⟩; have zs := hxt.size; (try simp only [al_size, size_drewN, size_drew] at zs); obtain ⟨p00, p01, p02, p03, _⟩ := hbox0.ext (w' := sw0) (by repeat (first | assumption | exact Ext.refl _ | apply Ext.drewN | apply Ext.drew | apply Ext.alloc | (refine Ext.trans ?_ (by assumption)) | (refine Ext.set ?_ (by dsimp only; omega) _))); ))
    go_wp2_with ((go_at_call 25; refine Calls.mono (HS.out _ ) ?_; rintro e aw ⟨rfl, hxc⟩; have zs := hxc.size; (try simp only [al_size, size_drewN, size_drew] at zs); obtain ⟨p00, p01, p02, p03, _⟩ := hbox0.ext (w' := aw) (by repeat (first | assumption | exact Ext.refl _ | apply Ext.drewN | apply Ext.drew | apply Ext.alloc | (refine Ext.trans ?_ (by assumption)) | (refine Ext.set ?_ (by dsimp only; omega) _))); ))
    go_wp2_with ((go_at_call_of 26 g0.a; refine Calls.mono (c_toPath hg0) ?_; rintro e yw0 ⟨rfl, hxt⟩; have zs := hxt.size; (try simp only [al_size, size_drewN, size_drew] at zs); obtain ⟨p00, p01, p02, p03, _⟩ := hbox0.ext (w' := yw0) (by repeat (first | assumption | exact Ext.refl _ | apply Ext.drewN | apply Ext.drew | apply Ext.alloc | (refine Ext.trans ?_ (by assumption)) | (refine Ext.set ?_ (by dsimp only; omega) _))); ))
    go_wp2_with ((go_at_call 27; refine Calls.mono (HI.out _ ) ?_; rintro e bw ⟨rfl, hxc⟩; have zs := hxc.size; (try simp only [al_size, size_drewN, size_drew] at zs); obtain ⟨p00, p01, p02, p03, _⟩ := hbox0.ext (w' := bw) (by repeat (first | assumption | exact Ext.refl _ | apply Ext.drewN | apply Ext.drew | apply Ext.alloc | (refine Ext.trans ?_ (by assumption)) | (refine Ext.set ?_ (by dsimp only; omega) _))); ))
    go_wp2_with (fail)
    go_ret
    exact ⟨rfl, (by repeat (first | assumption | exact Ext.refl _ | apply Ext.drewN | apply Ext.drew | apply Ext.alloc | (refine Ext.trans ?_ (by assumption)) | (refine Ext.set ?_ (by dsimp only; omega) _)))⟩
set_option maxRecDepth 20000 in
open Go.ChangeShapes Go.WideShapes Go.ChangeAt Go.ChangeMaps in
theorem FnExactIsPath_holds : Rows.FnExactIsPathSaid :=
  OpenClaim.holds_of_wide 4 Try.f4 rfl rfl rfl rfl rfl rfl rfl ⟨rfl, rfl, rfl, rfl, rfl⟩ rfl rfl rfl rfl rfl (by kernel_rfl) Try.func4 (by kernel_rfl)
    (of_decide_eq_true (by kernel_rfl)) (by unfold Func.isWrapper; first | (rw [if_pos (by decide +kernel)]; kernel_rfl) | (rw [if_neg (by decide +kernel)]; exact ⟨rfl, rfl⟩))
    (fun os started H enc _ => law_lifted os started H enc 4 Try.f4 Rows.fnExactIsPathSpec (by kernel_rfl) Try.func4
      (ChangeSpec.witness6 (enc := enc) (C := Try.checked) false ⟨#[], #[.agg #[.float .f32 0, .float .f32 0, .float .f32 0, .float .f32 0]], []⟩ 8 (by kernel_rfl) (by kernel_rfl) (by kernel_rfl) (by kernel_rfl))
      (by rw [Try.params4]; intro t ht; simp at ht; subst ht <;> exact ⟨by kernel_rfl, of_decide_eq_true (by kernel_rfl)⟩) rfl 4 (by kernel_rfl) Try.underlying4
      (by intro ds hds; rw [Try.params4] at hds; match ds, hds with | [_], _ => rfl)
      (by
        intro W base args ds ps hval hA hlt
        rw [Try.params4] at hA hval
        obtain ⟨v0, d0, rfl, rfl, h0⟩ := trodAll_one hA
        have o0 := open_path (hval 0 37 v0 rfl rfl) h0
        exact w_FnExactIsPath (w := W) o0))

end Go.Proofs.Ytmhfnchpkeeckab
