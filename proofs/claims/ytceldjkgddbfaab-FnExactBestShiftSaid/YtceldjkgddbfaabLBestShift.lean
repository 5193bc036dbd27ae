/- The law FnExactBestShift: every call returns true and leaves the memory as it was, whatever the arguments. No condition. -/
import Derived.Test.YtceldjkgddbfaabRg
namespace Go.Proofs.Ytceldjkgddbfaab
open Go.RowKit Ieee

set_option linter.unusedSimpArgs false in
set_option maxRecDepth 20000 in
set_option maxHeartbeats 8000000 in
theorem w_FnExactBestShift {w : World} {v0 : Value} (o0 : ∃ A n c L, v0 = .slice A n c ∧ n ≤ maxLen ∧ RdF w w.heap.size A n L) {v1 : Value} (o1 : ∃ A n c L, v1 = .slice A n c ∧ n ≤ maxLen ∧ RdF w w.heap.size A n L) {i2 : Int} (hi2 : -9223372036854775808 ≤ i2) (hj2 : i2 ≤ 9223372036854775807) :
    Calls Try.prog 8 #[v0, v1, .int .i64 i2] w fun e w' => e = .returned (.bool true) ∧ Below w.heap.size w w' := by
  obtain ⟨A0, n0, c0, L0, rfl, hm0, h0⟩ := o0
  unfold maxLen at hm0
  obtain ⟨A1, n1, c1, L1, rfl, hm1, h1⟩ := o1
  unfold maxLen at hm1
  by_cases hn0 : n0 ≤ 1048576
  case neg =>
    have hb0 : (1048576 : Int) < (n0 : Int) := by omega
    go_enter Try.func8, Try.ntmps8
    go_wp2_with (fail)
    go_ret
    exact ⟨rfl, Below.refl _ _⟩
  by_cases hn1 : n1 ≤ 1048576
  case neg =>
    have hb1 : (1048576 : Int) < (n1 : Int) := by omega
    have hd0 : ¬ ((1048576 : Int) < (n0 : Int)) := by omega
    go_enter Try.func8, Try.ntmps8
    go_wp2_with (fail)
    go_ret
    exact ⟨rfl, Below.refl _ _⟩
  case pos =>
    obtain ⟨ok, iz, X, hS, hI⟩ := both_BestShift h0.len hn0 h1.len hn1 (i2 := i2) hi2 hj2
    have HS := Lib.hid hS
    have HI := Lib.hid hI
    have hd0 : ¬ ((1048576 : Int) < (n0 : Int)) := by omega
    have hd1 : ¬ ((1048576 : Int) < (n1 : Int)) := by omega
    clear hS hI
    go_enter Try.func8, Try.ntmps8
    go_wp2_with (go_at_call 14; refine Calls.mono (c_toFl (RdF.below h0 (by repeat (first | assumption | exact Ext.refl _ | apply Ext.drewN | apply Ext.drew | apply Ext.alloc | (refine Ext.trans ?_ (by assumption)) | (refine Ext.set ?_ (by dsimp only; omega) _)))) (by (try simp only [al_size, size_drewN]); omega) hn0) ?_; rintro e sw0 ⟨rfl, hs0, hxt, zs⟩; (try simp only [al_size, size_drewN] at zs))
    go_wp2_with (go_at_call 14; refine Calls.mono (c_toFl (RdF.below h1 (by repeat (first | assumption | exact Ext.refl _ | apply Ext.drewN | apply Ext.drew | apply Ext.alloc | (refine Ext.trans ?_ (by assumption)) | (refine Ext.set ?_ (by dsimp only; omega) _)))) (by (try simp only [al_size, size_drewN]); omega) hn1) ?_; rintro e sw1 ⟨rfl, hs1, hxt, zs⟩; (try simp only [al_size, size_drewN] at zs))
    go_wp2_with (go_at_call 27; refine Calls.mono (HS.out _ _ _ _ (OwL.rd (OwL.ext hs0 (by (try simp only [al_size, size_drewN]); omega) (by repeat (first | assumption | exact Ext.refl _ | apply Ext.drewN | apply Ext.drew | apply Ext.alloc | (refine Ext.trans ?_ (by assumption)) | (refine Ext.set ?_ (by dsimp only; omega) _))))) (by (try simp only [al_size, size_drewN]); omega) (Nat.le_refl _) _ _ _ (OwL.rd (OwL.ext hs1 (by (try simp only [al_size, size_drewN]); omega) (by repeat (first | assumption | exact Ext.refl _ | apply Ext.drewN | apply Ext.drew | apply Ext.alloc | (refine Ext.trans ?_ (by assumption)) | (refine Ext.set ?_ (by dsimp only; omega) _))))) (by (try simp only [al_size, size_drewN]); omega) (Nat.le_refl _)) ?_; rintro e sv ⟨qa, rfl, hqa, hxc⟩; have zs := hxc.size; (try simp only [al_size, size_drewN] at zs))
    go_wp2_with (go_at_call 14; refine Calls.mono (c_toFl (RdF.below h0 (by repeat (first | assumption | exact Ext.refl _ | apply Ext.drewN | apply Ext.drew | apply Ext.alloc | (refine Ext.trans ?_ (by assumption)) | (refine Ext.set ?_ (by dsimp only; omega) _)))) (by (try simp only [al_size, size_drewN]); omega) hn0) ?_; rintro e xw0 ⟨rfl, hx0, hxt, zs⟩; (try simp only [al_size, size_drewN] at zs))
    go_wp2_with (go_at_call 14; refine Calls.mono (c_toFl (RdF.below h1 (by repeat (first | assumption | exact Ext.refl _ | apply Ext.drewN | apply Ext.drew | apply Ext.alloc | (refine Ext.trans ?_ (by assumption)) | (refine Ext.set ?_ (by dsimp only; omega) _)))) (by (try simp only [al_size, size_drewN]); omega) hn1) ?_; rintro e xw1 ⟨rfl, hx1, hxt, zs⟩; (try simp only [al_size, size_drewN] at zs))
    go_wp2_with (first | (go_at_call 28; refine Calls.mono (HI.out _ _ _ _ (OwL.rd (OwL.ext hx0 (by (try simp only [al_size, size_drewN]); omega) (by repeat (first | assumption | exact Ext.refl _ | apply Ext.drewN | apply Ext.drew | apply Ext.alloc | (refine Ext.trans ?_ (by assumption)) | (refine Ext.set ?_ (by dsimp only; omega) _))))) (by (try simp only [al_size, size_drewN]); omega) (Nat.le_refl _) _ _ _ (OwL.rd (OwL.ext hx1 (by (try simp only [al_size, size_drewN]); omega) (by repeat (first | assumption | exact Ext.refl _ | apply Ext.drewN | apply Ext.drew | apply Ext.alloc | (refine Ext.trans ?_ (by assumption)) | (refine Ext.set ?_ (by dsimp only; omega) _))))) (by (try simp only [al_size, size_drewN]); omega) (Nat.le_refl _)) ?_; rintro e xv ⟨qb, rfl, hqb, hxc⟩; have zs := hxc.size; (try simp only [al_size, size_drewN] at zs)) | (apply upon_wide s_f32 Try.underlying38; (first | assumption | exact Fl.const (of_decide_eq_true (by kernel_rfl))); intro r n hr) | (go_at_call 29; refine Calls.mono (c_sameFloat (by assumption) (by assumption) _) ?_; rintro e w7 ⟨rfl, n3, rfl⟩))
    go_wp2_with (go_at_call 14; refine Calls.mono (c_toFl (RdF.below h0 (by repeat (first | assumption | exact Ext.refl _ | apply Ext.drewN | apply Ext.drew | apply Ext.alloc | (refine Ext.trans ?_ (by assumption)) | (refine Ext.set ?_ (by dsimp only; omega) _)))) (by (try simp only [al_size, size_drewN]); omega) hn0) ?_; rintro e yw0 ⟨rfl, hy0, hxt, zs⟩; (try simp only [al_size, size_drewN] at zs))
    go_wp2_with (go_at_call 16; refine Calls.mono (c_eqFloat32S (OwL.rd (OwL.ext hx0 (by (try simp only [al_size, size_drewN]); omega) (by repeat (first | assumption | exact Ext.refl _ | apply Ext.drewN | apply Ext.drew | apply Ext.alloc | (refine Ext.trans ?_ (by assumption)) | (refine Ext.set ?_ (by dsimp only; omega) _))))) (OwL.rd (OwL.ext hy0 (by (try simp only [al_size, size_drewN]); omega) (by repeat (first | assumption | exact Ext.refl _ | apply Ext.drewN | apply Ext.drew | apply Ext.alloc | (refine Ext.trans ?_ (by assumption)) | (refine Ext.set ?_ (by dsimp only; omega) _))))) hn0) ?_; rintro e we ⟨rfl, m1, rfl⟩)
    go_wp2_with (go_at_call 14; refine Calls.mono (c_toFl (RdF.below h1 (by repeat (first | assumption | exact Ext.refl _ | apply Ext.drewN | apply Ext.drew | apply Ext.alloc | (refine Ext.trans ?_ (by assumption)) | (refine Ext.set ?_ (by dsimp only; omega) _)))) (by (try simp only [al_size, size_drewN]); omega) hn1) ?_; rintro e yw1 ⟨rfl, hy1, hxt, zs⟩; (try simp only [al_size, size_drewN] at zs))
    go_wp2_with (go_at_call 16; refine Calls.mono (c_eqFloat32S (OwL.rd (OwL.ext hx1 (by (try simp only [al_size, size_drewN]); omega) (by repeat (first | assumption | exact Ext.refl _ | apply Ext.drewN | apply Ext.drew | apply Ext.alloc | (refine Ext.trans ?_ (by assumption)) | (refine Ext.set ?_ (by dsimp only; omega) _))))) (OwL.rd (OwL.ext hy1 (by (try simp only [al_size, size_drewN]); omega) (by repeat (first | assumption | exact Ext.refl _ | apply Ext.drewN | apply Ext.drew | apply Ext.alloc | (refine Ext.trans ?_ (by assumption)) | (refine Ext.set ?_ (by dsimp only; omega) _))))) hn1) ?_; rintro e we ⟨rfl, m1, rfl⟩)
    go_ret
    exact ⟨rfl, (by repeat (first | assumption | exact Ext.refl _ | apply Ext.drewN | apply Ext.drew | apply Ext.alloc | (refine Ext.trans ?_ (by assumption)) | (refine Ext.set ?_ (by dsimp only; omega) _)))⟩
set_option maxRecDepth 20000 in
open Go.ChangeShapes Go.WideShapes Go.ChangeAt Go.ChangeMaps in
theorem FnExactBestShift_holds : Rows.FnExactBestShiftSaid :=
  OpenClaim.holds_of_wide 8 Try.f8 rfl rfl rfl rfl rfl rfl rfl ⟨rfl, rfl, rfl, rfl, rfl⟩ rfl rfl rfl rfl rfl (by kernel_rfl) Try.func8 (by kernel_rfl)
    (of_decide_eq_true (by kernel_rfl)) (by unfold Func.isWrapper; first | (rw [if_pos (by decide +kernel)]; kernel_rfl) | (rw [if_neg (by decide +kernel)]; exact ⟨rfl, rfl⟩))
    (fun os started H enc _ => law_lifted os started H enc 8 Try.f8 Rows.fnExactBestShiftSpec (by kernel_rfl) Try.func8
      (ChangeSpec.witness6 (enc := enc) (C := Try.checked) false ⟨#[], #[.slice none 0 0, .slice none 0 0, .int .i64 0], []⟩ 8 (by kernel_rfl) (by kernel_rfl) (by kernel_rfl) (by kernel_rfl))
      (by rw [Try.params8]; intro t ht; simp at ht; rcases ht with rfl | rfl <;> exact ⟨by kernel_rfl, of_decide_eq_true (by kernel_rfl)⟩) rfl 4 (by kernel_rfl) Try.underlying4
      (by intro ds hds; rw [Try.params8] at hds; match ds, hds with | [_, _, _], _ => rfl)
      (by
        intro W base args ds ps hval hA hlt
        rw [Try.params8] at hA hval
        obtain ⟨v0, v1, v2, d0, d1, d2, p0, p1, p2, rfl, rfl, rfl, h0, h1, h2⟩ := trodAll_three hA
        have o0 := open_floats Try.underlying22 Try.underlying28 cells_f32 (hval 0 22 v0 rfl rfl) h0 (fun x hx => hlt x (by simp [hx]))
        have o1 := open_floats Try.underlying22 Try.underlying28 cells_f32 (hval 1 22 v1 rfl rfl) h1 (fun x hx => hlt x (by simp [hx]))
        obtain ⟨a2, rfl, rfl, rfl, k2⟩ := open_int Try.underlying2 (hval 2 2 v2 rfl rfl) h2
        exact w_FnExactBestShift (w := W) o0 o1 (wfi64 k2).1 (wfi64 k2).2))

end Go.Proofs.Ytceldjkgddbfaab
