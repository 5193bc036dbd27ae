/- The law FnExactStretchAt: every call returns true and leaves the memory as it was, whatever the arguments. No condition. -/
import Derived.Test.YtbdmdpaggnaneaaWe
namespace Go.Proofs.Ytbdmdpaggnaneaa
open Go.RowKit Ieee

set_option linter.unusedSimpArgs false in
set_option maxRecDepth 20000 in
set_option maxHeartbeats 400000 in
theorem w_FnExactStretchAt {a b c : Nat} (ha : a < 4294967296) (hb : b < 4294967296) (hc : c < 4294967296) {w : World} :
    Calls Try.prog 7 #[.float .f32 a, .float .f32 b, .float .f32 c] w fun e w' => e = .returned (.bool true) ∧ Below w.heap.size w w' := by
  have fa := Fl.of32 ha
  have fb := Fl.of32 hb
  have fc := Fl.of32 hc
  generalize fl .f32 a = A at fa
  generalize fl .f32 b = B at fb
  generalize fl .f32 c = C at fc
  have h1 := fun W => c_spec_StretchAt (w := W) fa fb fc
  have h2 := fun W => c_impl_StretchAt (w := W) fa fb fc
  generalize tellB (okStretch A B C) (fstretch A B C) = ok at h1 h2
  generalize tellY (okStretch A B C) (fstretch A B C) = X at h1 h2
  have H1 := Lib.hid h1
  have H2 := Lib.hid h2
  clear h1 h2
  go_enter Try.func7, Try.ntmps7
  go_wp2_with (first | (go_at_call 28; refine Calls.mono (H1.out _) ?_; rintro e w1 ⟨r1, rfl, hr1, hx1⟩) | (go_at_call 29; refine Calls.mono (H2.out _) ?_; rintro e w2 ⟨r2, rfl, hr2, hx2⟩) | (apply upon_wide s_f32 Try.underlying28; (first | assumption | exact Fl.const (of_decide_eq_true (by kernel_rfl))); intro r n hr) | (go_at_call 18; refine Calls.mono (c_sameFloat (by assumption) (by assumption) _) ?_; rintro e w7 ⟨rfl, n3, rfl⟩))
  go_ret
  exact ⟨rfl, (by repeat (first | assumption | exact Ext.refl _ | apply Ext.drewN | apply Ext.drew | apply Ext.alloc | (refine Ext.trans ?_ (by assumption)) | (refine Ext.set ?_ (by dsimp only; omega) _)))⟩
set_option maxRecDepth 20000 in
open Go.ChangeShapes Go.WideShapes Go.ChangeAt Go.ChangeMaps in
theorem FnExactStretchAt_holds : Rows.FnExactStretchAtSaid :=
  OpenClaim.holds_of_wide 7 Try.f7 rfl rfl rfl rfl rfl rfl rfl ⟨rfl, rfl, rfl, rfl, rfl⟩ rfl rfl rfl rfl rfl (by kernel_rfl) Try.func7 (by kernel_rfl)
    (of_decide_eq_true (by kernel_rfl)) (by unfold Func.isWrapper; first | (rw [if_pos (by decide +kernel)]; kernel_rfl) | (rw [if_neg (by decide +kernel)]; exact ⟨rfl, rfl⟩))
    (fun os started H enc _ => law_lifted os started H enc 7 Try.f7 Rows.fnExactStretchAtSpec (by kernel_rfl) Try.func7
      (ChangeSpec.witness6 (enc := enc) (C := Try.checked) false ⟨#[], #[.float .f32 0, .float .f32 0, .float .f32 0], []⟩ 8 (by kernel_rfl) (by kernel_rfl) (by kernel_rfl) (by kernel_rfl))
      (by rw [Try.params7]; intro t ht; simp at ht; subst ht <;> exact ⟨by kernel_rfl, of_decide_eq_true (by kernel_rfl)⟩) rfl 4 (by kernel_rfl) Try.underlying4
      (by intro ds hds; rw [Try.params7] at hds; match ds, hds with | [_, _, _], _ => rfl)
      (by
        intro W base args ds ps hval hA hlt
        rw [Try.params7] at hA hval
        obtain ⟨v0, v1, v2, d0, d1, d2, p0, p1, p2, rfl, rfl, rfl, h0, h1, h2⟩ := trodAll_three hA
        obtain ⟨a0, rfl, rfl, rfl, k0⟩ := open_float Try.underlying23 (hval 0 23 v0 rfl rfl) h0
        obtain ⟨a1, rfl, rfl, rfl, k1⟩ := open_float Try.underlying23 (hval 1 23 v1 rfl rfl) h1
        obtain ⟨a2, rfl, rfl, rfl, k2⟩ := open_float Try.underlying23 (hval 2 23 v2 rfl rfl) h2
        exact w_FnExactStretchAt (w := W) (wf32 k0) (wf32 k1) (wf32 k2)))

end Go.Proofs.Ytbdmdpaggnaneaa
