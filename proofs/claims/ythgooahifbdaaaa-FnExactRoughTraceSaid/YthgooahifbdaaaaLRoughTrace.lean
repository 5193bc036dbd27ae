/- The law FnExactRoughTrace: every call returns true and leaves the memory as it was, whatever the arguments. No condition. -/
import Derived.Test.YthgooahifbdaaaaFg
namespace Go.Proofs.Ythgooahifbdaaaa
open Go.RowKit Ieee

set_option linter.unusedSimpArgs false in
set_option maxRecDepth 20000 in
set_option maxHeartbeats 8000000 in
theorem w_FnExactRoughTrace {w : World} {v0 : Value} (o0 : ∃ A n c L, v0 = .slice A n c ∧ n ≤ maxLen ∧ RdF w w.heap.size A n L) {i1 : Int} (hi1 : -9223372036854775808 ≤ i1) (hj1 : i1 ≤ 9223372036854775807) :
    Calls Try.prog 7 #[v0, .int .i64 i1] w fun e w' => e = .returned (.bool true) ∧ Below w.heap.size w w' := by
  obtain ⟨A0, n0, c0, L0, rfl, hm0, h0⟩ := o0
  unfold maxLen at hm0
  by_cases hn0 : n0 ≤ 1048576
  case neg =>
    have hb0 : (1048576 : Int) < (n0 : Int) := by omega
    go_enter Try.func7, Try.ntmps7
    go_wp2_with (fail)
    go_ret
    exact ⟨rfl, Below.refl _ _⟩
  case pos =>
    obtain ⟨ok, Q, q, hq, hS, hI⟩ := both_RoughTrace h0.len hn0 (i1 := i1) hi1 hj1
    have HS := Lib.hid hS
    have HI := Lib.hid hI
    have hd0 : ¬ ((1048576 : Int) < (n0 : Int)) := by omega
    have hneg : ¬ (((1 + n0 : Nat) : Int) < 0) := by omega
    have hneg2 : ¬ (((1 + q : Nat) : Int) < 0) := by omega
    clear hS hI
    go_enter Try.func7, Try.ntmps7
    go_wp2_with (go_at_call 16; refine Calls.mono (c_toFl (RdF.below h0 (by repeat (first | assumption | exact Ext.refl _ | apply Ext.drewN | apply Ext.drew | apply Ext.alloc | (refine Ext.trans ?_ (by assumption)) | (refine Ext.set ?_ (by dsimp only; omega) _)))) (by (try simp only [al_size, size_drewN]); omega) hn0) ?_; rintro e sw0 ⟨rfl, hs0, hxt, zs⟩; (try simp only [al_size, size_drewN] at zs))
    go_wp2_with (go_at_call 28; refine Calls.mono (HS.out _ _ _ _ (OwL.rd (OwL.ext hs0 (by (try simp only [al_size, size_drewN]); omega) (by repeat (first | assumption | exact Ext.refl _ | apply Ext.drewN | apply Ext.drew | apply Ext.alloc | (refine Ext.trans ?_ (by assumption)) | (refine Ext.set ?_ (by dsimp only; omega) _))))) (by (try simp only [al_size, size_drewN]); omega)) ?_; rintro e ww ⟨Aw, cw, rfl, hw0, hxc⟩; have zs := hxc.size; (try simp only [al_size, size_drewN] at zs))
    go_wp2_with (go_at_call 16; refine Calls.mono (c_toFl (RdF.below h0 (by repeat (first | assumption | exact Ext.refl _ | apply Ext.drewN | apply Ext.drew | apply Ext.alloc | (refine Ext.trans ?_ (by assumption)) | (refine Ext.set ?_ (by dsimp only; omega) _)))) (by (try simp only [al_size, size_drewN]); omega) hn0) ?_; rintro e xw0 ⟨rfl, hx0, hxt, zs⟩; (try simp only [al_size, size_drewN] at zs))
    go_wp2_with (go_at_call 29; refine Calls.mono (HI.out _ _ _ _ (OwL.rd (OwL.ext hx0 (by (try simp only [al_size, size_drewN]); omega) (by repeat (first | assumption | exact Ext.refl _ | apply Ext.drewN | apply Ext.drew | apply Ext.alloc | (refine Ext.trans ?_ (by assumption)) | (refine Ext.set ?_ (by dsimp only; omega) _))))) (by (try simp only [al_size, size_drewN]); omega)) ?_; rintro e gw ⟨Ag, cg, rfl, hg0, hxc⟩; have zs := hxc.size; (try simp only [al_size, size_drewN] at zs))
    go_wp2_with (go_at_call 18; refine Calls.mono (c_eqFloat32S (OwL.rd (OwL.ext hg0 (by (try simp only [al_size, size_drewN]); omega) (by repeat (first | assumption | exact Ext.refl _ | apply Ext.drewN | apply Ext.drew | apply Ext.alloc | (refine Ext.trans ?_ (by assumption)) | (refine Ext.set ?_ (by dsimp only; omega) _))))) (OwL.rd (OwL.ext hw0 (by (try simp only [al_size, size_drewN]); omega) (by repeat (first | assumption | exact Ext.refl _ | apply Ext.drewN | apply Ext.drew | apply Ext.alloc | (refine Ext.trans ?_ (by assumption)) | (refine Ext.set ?_ (by dsimp only; omega) _))))) hq) ?_; rintro e we ⟨rfl, m1, rfl⟩)
    go_wp2_with (go_at_call 16; refine Calls.mono (c_toFl (RdF.below h0 (by repeat (first | assumption | exact Ext.refl _ | apply Ext.drewN | apply Ext.drew | apply Ext.alloc | (refine Ext.trans ?_ (by assumption)) | (refine Ext.set ?_ (by dsimp only; omega) _)))) (by (try simp only [al_size, size_drewN]); omega) hn0) ?_; rintro e yw0 ⟨rfl, hy0, hxt, zs⟩; (try simp only [al_size, size_drewN] at zs))
    go_wp2_with (go_at_call 18; refine Calls.mono (c_eqFloat32S (OwL.rd (OwL.ext hx0 (by (try simp only [al_size, size_drewN]); omega) (by repeat (first | assumption | exact Ext.refl _ | apply Ext.drewN | apply Ext.drew | apply Ext.alloc | (refine Ext.trans ?_ (by assumption)) | (refine Ext.set ?_ (by dsimp only; omega) _))))) (OwL.rd (OwL.ext hy0 (by (try simp only [al_size, size_drewN]); omega) (by repeat (first | assumption | exact Ext.refl _ | apply Ext.drewN | apply Ext.drew | apply Ext.alloc | (refine Ext.trans ?_ (by assumption)) | (refine Ext.set ?_ (by dsimp only; omega) _))))) hn0) ?_; rintro e we ⟨rfl, m1, rfl⟩)
    go_wp2_with (go_at_call 19; refine Calls.mono (c_markFloat32S (OwL.ext hx0 (by (try simp only [al_size, size_drewN]); omega) (by repeat (first | assumption | exact Ext.refl _ | apply Ext.drewN | apply Ext.drew | apply Ext.alloc | (refine Ext.trans ?_ (by assumption)) | (refine Ext.set ?_ (by dsimp only; omega) _)))) hn0 (by decide)) ?_; rintro e wm0 ⟨rfl, _, hk⟩; have hXm : Ext w wm0 := Kb.ext hk (by repeat (first | assumption | exact Ext.refl _ | apply Ext.drewN | apply Ext.drew | apply Ext.alloc | (refine Ext.trans ?_ (by assumption)) | (refine Ext.set ?_ (by dsimp only; omega) _))) (by (try simp only [al_size, size_drewN]); omega); have hw0 := (OwL.ext hw0 (by (try simp only [al_size, size_drewN]); omega) (by repeat (first | assumption | exact Ext.refl _ | apply Ext.drewN | apply Ext.drew | apply Ext.alloc | (refine Ext.trans ?_ (by assumption)) | (refine Ext.set ?_ (by dsimp only; omega) _)))).same (hk.sameL (by (try simp only [al_size, size_drewN]); omega)); have hg0 := (OwL.ext hg0 (by (try simp only [al_size, size_drewN]); omega) (by repeat (first | assumption | exact Ext.refl _ | apply Ext.drewN | apply Ext.drew | apply Ext.alloc | (refine Ext.trans ?_ (by assumption)) | (refine Ext.set ?_ (by dsimp only; omega) _)))).same (hk.sameR (by (try simp only [al_size, size_drewN]); omega) (by (try simp only [al_size, size_drewN]); omega)); have zs := hk.below.size; (try simp only [al_size, size_drewN] at zs); clear hk)
    go_wp2_with (go_at_call 18; refine Calls.mono (c_eqFloat32S (OwL.rd (OwL.ext hg0 (by (try simp only [al_size, size_drewN]); omega) (by repeat (first | assumption | exact Ext.refl _ | apply Ext.drewN | apply Ext.drew | apply Ext.alloc | (refine Ext.trans ?_ (by assumption)) | (refine Ext.set ?_ (by dsimp only; omega) _))))) (OwL.rd (OwL.ext hw0 (by (try simp only [al_size, size_drewN]); omega) (by repeat (first | assumption | exact Ext.refl _ | apply Ext.drewN | apply Ext.drew | apply Ext.alloc | (refine Ext.trans ?_ (by assumption)) | (refine Ext.set ?_ (by dsimp only; omega) _))))) hq) ?_; rintro e we ⟨rfl, m1, rfl⟩)
    go_wp2_with (go_at_call 19; refine Calls.mono (c_markFloat32S (OwL.ext hg0 (by (try simp only [al_size, size_drewN]); omega) (by repeat (first | assumption | exact Ext.refl _ | apply Ext.drewN | apply Ext.drew | apply Ext.alloc | (refine Ext.trans ?_ (by assumption)) | (refine Ext.set ?_ (by dsimp only; omega) _)))) hq (by decide)) ?_; rintro e wn ⟨rfl, hg0, hk⟩; have hXm : Ext w wn := Kb.ext hk (by repeat (first | assumption | exact Ext.refl _ | apply Ext.drewN | apply Ext.drew | apply Ext.alloc | (refine Ext.trans ?_ (by assumption)) | (refine Ext.set ?_ (by dsimp only; omega) _))) (by (try simp only [al_size, size_drewN]); omega); have hw0 := (OwL.ext hw0 (by (try simp only [al_size, size_drewN]); omega) (by repeat (first | assumption | exact Ext.refl _ | apply Ext.drewN | apply Ext.drew | apply Ext.alloc | (refine Ext.trans ?_ (by assumption)) | (refine Ext.set ?_ (by dsimp only; omega) _)))).same (hk.sameL (by (try simp only [al_size, size_drewN]); omega)); have zs := hk.below.size; (try simp only [al_size, size_drewN] at zs); clear hk)
    go_wp2_with (go_at_call 20; refine Calls.mono (c_heldFloat32S (OwL.rd (OwL.ext hg0 (by (try simp only [al_size, size_drewN]); omega) (by repeat (first | assumption | exact Ext.refl _ | apply Ext.drewN | apply Ext.drew | apply Ext.alloc | (refine Ext.trans ?_ (by assumption)) | (refine Ext.set ?_ (by dsimp only; omega) _))))) hq (by decide)) ?_; rintro e wo ⟨rfl, rfl⟩)
    go_wp2_with (go_at_call 16; refine Calls.mono (c_toFl (RdF.below h0 (by repeat (first | assumption | exact Ext.refl _ | apply Ext.drewN | apply Ext.drew | apply Ext.alloc | (refine Ext.trans ?_ (by assumption)) | (refine Ext.set ?_ (by dsimp only; omega) _)))) (by (try simp only [al_size, size_drewN]); omega) hn0) ?_; rintro e zw0 ⟨rfl, hz0, hxt, zs⟩; (try simp only [al_size, size_drewN] at zs))
    go_wp2_with (go_at_call 29; refine Calls.mono (HI.out _ _ _ _ (OwL.rd (OwL.ext hz0 (by (try simp only [al_size, size_drewN]); omega) (by repeat (first | assumption | exact Ext.refl _ | apply Ext.drewN | apply Ext.drew | apply Ext.alloc | (refine Ext.trans ?_ (by assumption)) | (refine Ext.set ?_ (by dsimp only; omega) _))))) (by (try simp only [al_size, size_drewN]); omega)) ?_; rintro e hw ⟨Ah, ch, rfl, hh0, hxc⟩; have zs := hxc.size; (try simp only [al_size, size_drewN] at zs))
    go_wp2_with (go_at_call 18; refine Calls.mono (c_eqFloat32S (OwL.rd (OwL.ext hh0 (by (try simp only [al_size, size_drewN]); omega) (by repeat (first | assumption | exact Ext.refl _ | apply Ext.drewN | apply Ext.drew | apply Ext.alloc | (refine Ext.trans ?_ (by assumption)) | (refine Ext.set ?_ (by dsimp only; omega) _))))) (OwL.rd (OwL.ext hw0 (by (try simp only [al_size, size_drewN]); omega) (by repeat (first | assumption | exact Ext.refl _ | apply Ext.drewN | apply Ext.drew | apply Ext.alloc | (refine Ext.trans ?_ (by assumption)) | (refine Ext.set ?_ (by dsimp only; omega) _))))) hq) ?_; rintro e we ⟨rfl, m1, rfl⟩)
    go_wp2_with (go_at_call 20; refine Calls.mono (c_heldFloat32S (OwL.rd (OwL.ext hg0 (by (try simp only [al_size, size_drewN]); omega) (by repeat (first | assumption | exact Ext.refl _ | apply Ext.drewN | apply Ext.drew | apply Ext.alloc | (refine Ext.trans ?_ (by assumption)) | (refine Ext.set ?_ (by dsimp only; omega) _))))) hq (by decide)) ?_; rintro e wo ⟨rfl, rfl⟩)
    go_ret
    exact ⟨rfl, (by repeat (first | assumption | exact Ext.refl _ | apply Ext.drewN | apply Ext.drew | apply Ext.alloc | (refine Ext.trans ?_ (by assumption)) | (refine Ext.set ?_ (by dsimp only; omega) _)))⟩
set_option maxRecDepth 20000 in
open Go.ChangeShapes Go.WideShapes Go.ChangeAt Go.ChangeMaps in
theorem FnExactRoughTrace_holds : Rows.FnExactRoughTraceSaid :=
  OpenClaim.holds_of_wide 7 Try.f7 rfl rfl rfl rfl rfl rfl rfl ⟨rfl, rfl, rfl, rfl, rfl⟩ rfl rfl rfl rfl rfl (by kernel_rfl) Try.func7 (by kernel_rfl)
    (of_decide_eq_true (by kernel_rfl)) (by unfold Func.isWrapper; first | (rw [if_pos (by decide +kernel)]; kernel_rfl) | (rw [if_neg (by decide +kernel)]; exact ⟨rfl, rfl⟩))
    (fun os started H enc _ => law_lifted os started H enc 7 Try.f7 Rows.fnExactRoughTraceSpec (by kernel_rfl) Try.func7
      (ChangeSpec.witness6 (enc := enc) (C := Try.checked) false ⟨#[], #[.slice none 0 0, .int .i64 0], []⟩ 8 (by kernel_rfl) (by kernel_rfl) (by kernel_rfl) (by kernel_rfl))
      (by rw [Try.params7]; intro t ht; simp at ht; rcases ht with rfl | rfl <;> exact ⟨by kernel_rfl, of_decide_eq_true (by kernel_rfl)⟩) rfl 4 (by kernel_rfl) Try.underlying4
      (by intro ds hds; rw [Try.params7] at hds; match ds, hds with | [_, _], _ => rfl)
      (by
        intro W base args ds ps hval hA hlt
        rw [Try.params7] at hA hval
        obtain ⟨v0, v1, d0, d1, p0, p1, rfl, rfl, rfl, h0, h1⟩ := trodAll_two hA
        have o0 := open_floats Try.underlying22 Try.underlying28 cells_f32 (hval 0 22 v0 rfl rfl) h0 (fun x hx => hlt x (by simp [hx]))
        obtain ⟨a1, rfl, rfl, rfl, k1⟩ := open_int Try.underlying2 (hval 1 2 v1 rfl rfl) h1
        exact w_FnExactRoughTrace (w := W) o0 (wfi64 k1).1 (wfi64 k1).2))

end Go.Proofs.Ythgooahifbdaaaa
