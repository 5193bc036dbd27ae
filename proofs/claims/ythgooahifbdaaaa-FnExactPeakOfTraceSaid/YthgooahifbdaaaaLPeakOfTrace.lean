/- The law FnExactPeakOfTrace: every call returns true and leaves the memory as it was, whatever the arguments. No condition. -/
import Derived.Test.YthgooahifbdaaaaPw
namespace Go.Proofs.Ythgooahifbdaaaa
open Go.RowKit Ieee

set_option linter.unusedSimpArgs false in
set_option maxRecDepth 20000 in
set_option maxHeartbeats 8000000 in
theorem w_FnExactPeakOfTrace {w : World} {v0 : Value} (o0 : ∃ A n c L, v0 = .slice A n c ∧ n ≤ maxLen ∧ RdF w w.heap.size A n L) :
    Calls Try.prog 6 #[v0] w fun e w' => e = .returned (.bool true) ∧ Below w.heap.size w w' := by
  obtain ⟨A0, n0, c0, L0, rfl, hm0, h0⟩ := o0
  unfold maxLen at hm0
  by_cases hn0 : n0 ≤ 1048576
  case neg =>
    have hb0 : (1048576 : Int) < (n0 : Int) := by omega
    go_enter Try.func6, Try.ntmps6
    go_wp2_with (fail)
    go_ret
    exact ⟨rfl, Below.refl _ _⟩
  case pos =>
    obtain ⟨ok, iz, X, hS, hI⟩ := both_PeakOfTrace h0.len hn0
    have HS := Lib.hid hS
    have HI := Lib.hid hI
    have hd0 : ¬ ((1048576 : Int) < (n0 : Int)) := by omega
    clear hS hI
    go_enter Try.func6, Try.ntmps6
    go_wp2_with (go_at_call 16; refine Calls.mono (c_toFl (RdF.below h0 (by repeat (first | assumption | exact Ext.refl _ | apply Ext.drewN | apply Ext.drew | apply Ext.alloc | (refine Ext.trans ?_ (by assumption)) | (refine Ext.set ?_ (by dsimp only; omega) _)))) (by (try simp only [al_size, size_drewN]); omega) hn0) ?_; rintro e sw0 ⟨rfl, hs0, hxt, zs⟩; (try simp only [al_size, size_drewN] at zs))
    go_wp2_with (go_at_call 25; refine Calls.mono (HS.out _ _ _ _ (OwL.rd (OwL.ext hs0 (by (try simp only [al_size, size_drewN]); omega) (by repeat (first | assumption | exact Ext.refl _ | apply Ext.drewN | apply Ext.drew | apply Ext.alloc | (refine Ext.trans ?_ (by assumption)) | (refine Ext.set ?_ (by dsimp only; omega) _))))) (by (try simp only [al_size, size_drewN]); omega)) ?_; rintro e sv ⟨qa, rfl, hqa, ma, rfl⟩)
    go_wp2_with (go_at_call 16; refine Calls.mono (c_toFl (RdF.below h0 (by repeat (first | assumption | exact Ext.refl _ | apply Ext.drewN | apply Ext.drew | apply Ext.alloc | (refine Ext.trans ?_ (by assumption)) | (refine Ext.set ?_ (by dsimp only; omega) _)))) (by (try simp only [al_size, size_drewN]); omega) hn0) ?_; rintro e xw0 ⟨rfl, hx0, hxt, zs⟩; (try simp only [al_size, size_drewN] at zs))
    go_wp2_with (first | (go_at_call 26; refine Calls.mono (HI.out _ _ _ _ (OwL.rd (OwL.ext hx0 (by (try simp only [al_size, size_drewN]); omega) (by repeat (first | assumption | exact Ext.refl _ | apply Ext.drewN | apply Ext.drew | apply Ext.alloc | (refine Ext.trans ?_ (by assumption)) | (refine Ext.set ?_ (by dsimp only; omega) _))))) (by (try simp only [al_size, size_drewN]); omega)) ?_; rintro e xv ⟨qb, rfl, hqb, mb, rfl⟩) | (apply upon_wide s_f32 Try.underlying34; (first | assumption | exact Fl.const (of_decide_eq_true (by kernel_rfl))); intro r n hr) | (go_at_call 27; refine Calls.mono (c_sameFloat (by assumption) (by assumption) _) ?_; rintro e w7 ⟨rfl, n3, rfl⟩))
    go_wp2_with (go_at_call 16; refine Calls.mono (c_toFl (RdF.below h0 (by repeat (first | assumption | exact Ext.refl _ | apply Ext.drewN | apply Ext.drew | apply Ext.alloc | (refine Ext.trans ?_ (by assumption)) | (refine Ext.set ?_ (by dsimp only; omega) _)))) (by (try simp only [al_size, size_drewN]); omega) hn0) ?_; rintro e yw0 ⟨rfl, hy0, hxt, zs⟩; (try simp only [al_size, size_drewN] at zs))
    go_wp2_with (go_at_call 18; refine Calls.mono (c_eqFloat32S (OwL.rd (OwL.ext hx0 (by (try simp only [al_size, size_drewN]); omega) (by repeat (first | assumption | exact Ext.refl _ | apply Ext.drewN | apply Ext.drew | apply Ext.alloc | (refine Ext.trans ?_ (by assumption)) | (refine Ext.set ?_ (by dsimp only; omega) _))))) (OwL.rd (OwL.ext hy0 (by (try simp only [al_size, size_drewN]); omega) (by repeat (first | assumption | exact Ext.refl _ | apply Ext.drewN | apply Ext.drew | apply Ext.alloc | (refine Ext.trans ?_ (by assumption)) | (refine Ext.set ?_ (by dsimp only; omega) _))))) hn0) ?_; rintro e we ⟨rfl, m1, rfl⟩)
    go_ret
    exact ⟨rfl, (by repeat (first | assumption | exact Ext.refl _ | apply Ext.drewN | apply Ext.drew | apply Ext.alloc | (refine Ext.trans ?_ (by assumption)) | (refine Ext.set ?_ (by dsimp only; omega) _)))⟩
set_option maxRecDepth 20000 in
open Go.ChangeShapes Go.WideShapes Go.ChangeAt Go.ChangeMaps in
theorem FnExactPeakOfTrace_holds : Rows.FnExactPeakOfTraceSaid :=
  OpenClaim.holds_of_wide 6 Try.f6 rfl rfl rfl rfl rfl rfl rfl ⟨rfl, rfl, rfl, rfl, rfl⟩ rfl rfl rfl rfl rfl (by kernel_rfl) Try.func6 (by kernel_rfl)
    (of_decide_eq_true (by kernel_rfl)) (by unfold Func.isWrapper; first | (rw [if_pos (by decide +kernel)]; kernel_rfl) | (rw [if_neg (by decide +kernel)]; exact ⟨rfl, rfl⟩))
    (fun os started H enc _ => law_lifted os started H enc 6 Try.f6 Rows.fnExactPeakOfTraceSpec (by kernel_rfl) Try.func6
      (ChangeSpec.witness6 (enc := enc) (C := Try.checked) false ⟨#[], #[.slice none 0 0], []⟩ 8 (by kernel_rfl) (by kernel_rfl) (by kernel_rfl) (by kernel_rfl))
      (by rw [Try.params6]; intro t ht; simp at ht; subst ht <;> exact ⟨by kernel_rfl, of_decide_eq_true (by kernel_rfl)⟩) rfl 4 (by kernel_rfl) Try.underlying4
      (by intro ds hds; rw [Try.params6] at hds; match ds, hds with | [_], _ => rfl)
      (by
        intro W base args ds ps hval hA hlt
        rw [Try.params6] at hA hval
        obtain ⟨v0, d0, rfl, rfl, h0⟩ := trodAll_one hA
        have o0 := open_floats Try.underlying22 Try.underlying28 cells_f32 (hval 0 22 v0 rfl rfl) h0 (fun x hx => hlt x (by simp [hx]))
        exact w_FnExactPeakOfTrace (w := W) o0))

end Go.Proofs.Ythgooahifbdaaaa
