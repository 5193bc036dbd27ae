/- The law FnExactSpanOf: every call returns true and leaves the memory as it was, whatever the arguments. No condition. -/
import Derived.Test.YtfmhdnhaaohdjaaQh
import Derived.Test.YtfmhdnhaaohdjaaJt
namespace Go.Proofs.Ytfmhdnhaaohdjaa
open Go.RowKit Ieee
set_option linter.unusedVariables false
set_option linter.unusedSimpArgs false

set_option linter.unusedSimpArgs false in
set_option maxRecDepth 20000 in
set_option maxHeartbeats 40000000 in
theorem w_FnExactSpanOf {w : World} {v0 : Value} (o0 : ∃ A n c R, v0 = .slice A n c ∧ n ≤ maxLen ∧ RdM w w.heap.size A n R ∧ (∀ i, i < n → (R.getD i noT).v.length ≤ maxLen) ∧ ∀ i, i < n → (R.getD i noT).Ok) {i1 : Int} (hi1 : -9223372036854775808 ≤ i1) (hj1 : i1 ≤ 9223372036854775807) :
    Calls Try.prog 12 #[v0, .int .i64 i1] w fun e w' => e = .returned (.bool true) ∧ Below w.heap.size w w' := by
  obtain ⟨A0, n0, c0, R0, rfl, hm0, h0, hmr0, hok0⟩ := o0
  have hz0 := fun (W : World) (hx : Ext w W) (l : Nat) (hl : l ≤ 1048576) => c_szFrameS (w := W) (c := c0) (h0.below hx) hx.size hm0 hmr0 (l := l) hl
  have hz0 := fun (W : World) (hx : Ext w W) => hz0 W hx 1048576 (Nat.le_refl _)
  by_cases hs0 : n0 + totM R0 ≤ 1048576
  case neg =>
    rw [if_neg hs0] at hz0
    have hZ0 := Lib.hid hz0
    clear hz0
    go_enter Try.func12, Try.ntmps12
    go_wp2_with (go_at_call_of 20 A0; refine Calls.mono (hZ0.out _ (by repeat (first | assumption | exact Ext.refl _ | apply Ext.drewN | apply Ext.drew | apply Ext.alloc | (refine Ext.trans ?_ (by assumption)) | (refine Ext.set ?_ (by dsimp only; omega) _)))) ?_; rintro e wz0 ⟨rfl, hxz⟩; have zs := hxz.size; (try simp only [al_size, size_drewN, size_drew] at zs); )
    go_ret
    exact ⟨rfl, (by repeat (first | assumption | exact Ext.refl _ | apply Ext.drewN | apply Ext.drew | apply Ext.alloc | (refine Ext.trans ?_ (by assumption)) | (refine Ext.set ?_ (by dsimp only; omega) _)))⟩
  rw [if_pos hs0] at hz0
  obtain ⟨l0, hl0⟩ : ∃ l, 1048576 - (n0 + totM R0) = l := ⟨_, rfl⟩
  rw [hl0] at hz0
  have hlz0 : ¬ ((l0 : Int) < 0) := by omega
  have hZ0 := Lib.hid hz0
  have hls0 : l0 ≤ 1048576 := by omega
  clear hz0 hl0
  have hn0 : n0 ≤ 1048576 := by omega
  have ht0 : totM R0 ≤ 1048576 := by omega
  have hr0 : ∀ i, i < n0 → (R0.getD i noT).v.length ≤ 1048576 := fun i hi => Nat.le_trans (totM_at (by rw [h0.len]; exact hi)) ht0
  obtain ⟨ok, ia, ib, hS, hI⟩ := both_SpanOf h0.len hn0 hr0 ht0 hok0 (i1 := i1) hi1 hj1
  have HS := Lib.hid hS
  have HI := Lib.hid hI
  clear hS hI
  · skip
    go_enter Try.func12, Try.ntmps12
    go_wp2_with (go_at_call_of 20 A0; refine Calls.mono (hZ0.out _ (by repeat (first | assumption | exact Ext.refl _ | apply Ext.drewN | apply Ext.drew | apply Ext.alloc | (refine Ext.trans ?_ (by assumption)) | (refine Ext.set ?_ (by dsimp only; omega) _)))) ?_; rintro e wz0 ⟨rfl, hxz⟩; have zs := hxz.size; (try simp only [al_size, size_drewN, size_drew] at zs); )
    go_wp2_with ((go_at_call_of 22 A0; refine Calls.mono (c_toFrameS (RdM.below h0 (by repeat (first | assumption | exact Ext.refl _ | apply Ext.drewN | apply Ext.drew | apply Ext.alloc | (refine Ext.trans ?_ (by assumption)) | (refine Ext.set ?_ (by dsimp only; omega) _)))) (by (try simp only [al_size, size_drewN, size_drew]); omega) hn0 hr0) ?_; rintro e sw0 ⟨rfl, ogs0, hxt, zs⟩; (try simp only [al_size, size_drewN, size_drew] at ogs0); have zs := hxt.size; (try simp only [al_size, size_drewN, size_drew] at zs); ))
    go_wp2_with ((go_at_call 55; refine Calls.mono (HS.out _ _ _ _ (OwM.rd (OwM.ext ogs0 (by (try simp only [al_size, size_drewN, size_drew]); omega) (by repeat (first | assumption | exact Ext.refl _ | apply Ext.drewN | apply Ext.drew | apply Ext.alloc | (refine Ext.trans ?_ (by assumption)) | (refine Ext.set ?_ (by dsimp only; omega) _))))) (by (try simp only [al_size, size_drewN, size_drew]); omega)) ?_; rintro e aw ⟨rfl, hxc⟩; have zs := hxc.size; (try simp only [al_size, size_drewN, size_drew] at zs); ))
    go_wp2_with ((go_at_call_of 22 A0; refine Calls.mono (c_toFrameS (RdM.below h0 (by repeat (first | assumption | exact Ext.refl _ | apply Ext.drewN | apply Ext.drew | apply Ext.alloc | (refine Ext.trans ?_ (by assumption)) | (refine Ext.set ?_ (by dsimp only; omega) _)))) (by (try simp only [al_size, size_drewN, size_drew]); omega) hn0 hr0) ?_; rintro e xw0 ⟨rfl, ogx0, hxt, zs⟩; (try simp only [al_size, size_drewN, size_drew] at ogx0); have zs := hxt.size; (try simp only [al_size, size_drewN, size_drew] at zs); ))
    go_wp2_with ((go_at_call 56; refine Calls.mono (HI.out _ _ _ _ (OwM.rd (OwM.ext ogx0 (by (try simp only [al_size, size_drewN, size_drew]); omega) (by repeat (first | assumption | exact Ext.refl _ | apply Ext.drewN | apply Ext.drew | apply Ext.alloc | (refine Ext.trans ?_ (by assumption)) | (refine Ext.set ?_ (by dsimp only; omega) _))))) (by (try simp only [al_size, size_drewN, size_drew]); omega)) ?_; rintro e bw ⟨rfl, hxc⟩; have zs := hxc.size; (try simp only [al_size, size_drewN, size_drew] at zs); ))
    go_wp2_with ((go_at_call_of 22 A0; refine Calls.mono (c_toFrameS (RdM.below h0 (by repeat (first | assumption | exact Ext.refl _ | apply Ext.drewN | apply Ext.drew | apply Ext.alloc | (refine Ext.trans ?_ (by assumption)) | (refine Ext.set ?_ (by dsimp only; omega) _)))) (by (try simp only [al_size, size_drewN, size_drew]); omega) hn0 hr0) ?_; rintro e yw0 ⟨rfl, ogy0, hxt, zs⟩; (try simp only [al_size, size_drewN, size_drew] at ogy0); have zs := hxt.size; (try simp only [al_size, size_drewN, size_drew] at zs); ))
    go_wp2_with ((go_at_call 24; refine Calls.mono (c_eqFrameS (OwM.rd (OwM.ext ogx0 (by (try simp only [al_size, size_drewN, size_drew]); omega) (by repeat (first | assumption | exact Ext.refl _ | apply Ext.drewN | apply Ext.drew | apply Ext.alloc | (refine Ext.trans ?_ (by assumption)) | (refine Ext.set ?_ (by dsimp only; omega) _))))) (OwM.rd (OwM.ext ogy0 (by (try simp only [al_size, size_drewN, size_drew]); omega) (by repeat (first | assumption | exact Ext.refl _ | apply Ext.drewN | apply Ext.drew | apply Ext.alloc | (refine Ext.trans ?_ (by assumption)) | (refine Ext.set ?_ (by dsimp only; omega) _))))) (by (try simp only [al_size, size_drewN, size_drew]); omega) (by (try simp only [al_size, size_drewN, size_drew]); omega) hn0 hr0) ?_; rintro e we ⟨rfl, hxe⟩; have zs := hxe.size; (try simp only [al_size, size_drewN, size_drew] at zs); ))
    go_wp2_with (fail)
    go_ret
    exact ⟨rfl, (by repeat (first | assumption | exact Ext.refl _ | apply Ext.drewN | apply Ext.drew | apply Ext.alloc | (refine Ext.trans ?_ (by assumption)) | (refine Ext.set ?_ (by dsimp only; omega) _)))⟩
set_option maxRecDepth 20000 in
open Go.ChangeShapes Go.WideShapes Go.ChangeAt Go.ChangeMaps in
theorem FnExactSpanOf_holds : Rows.FnExactSpanOfSaid :=
  OpenClaim.holds_of_wide 12 Try.f12 rfl rfl rfl rfl rfl rfl rfl ⟨rfl, rfl, rfl, rfl, rfl⟩ rfl rfl rfl rfl rfl (by kernel_rfl) Try.func12 (by kernel_rfl)
    (of_decide_eq_true (by kernel_rfl)) (by unfold Func.isWrapper; first | (rw [if_pos (by decide +kernel)]; kernel_rfl) | (rw [if_neg (by decide +kernel)]; exact ⟨rfl, rfl⟩))
    (fun os started H enc _ => law_lifted os started H enc 12 Try.f12 Rows.fnExactSpanOfSpec (by kernel_rfl) Try.func12
      (ChangeSpec.witness6 (enc := enc) (C := Try.checked) false ⟨#[], #[.slice none 0 0, .int .i64 0], []⟩ 8 (by kernel_rfl) (by kernel_rfl) (by kernel_rfl) (by kernel_rfl))
      (by rw [Try.params12]; intro t ht; simp at ht; rcases ht with rfl | rfl <;> exact ⟨by kernel_rfl, of_decide_eq_true (by kernel_rfl)⟩) rfl 4 (by kernel_rfl) Try.underlying4
      (by intro ds hds; rw [Try.params12] at hds; match ds, hds with | [_, _], _ => rfl)
      (by
        intro W base args ds ps hval hA hlt
        rw [Try.params12] at hA hval
        obtain ⟨v0, v1, d0, d1, p0, p1, rfl, rfl, rfl, h0, h1⟩ := trodAll_two hA
        have o0 := open_frs Try.underlying31 Try.underlying24 (by kernel_rfl) ⟨rfl, rfl, rfl⟩ ⟨by kernel_rfl, by kernel_rfl, by kernel_rfl⟩ ⟨Try.underlying2, Try.underlying2, Try.underlying22⟩ Try.underlying83 cells_f32 (hval 0 31 v0 rfl rfl) h0 (fun x hx => hlt x (by simp [hx]))
        obtain ⟨a1, rfl, rfl, rfl, k1⟩ := open_int Try.underlying2 (hval 1 2 v1 rfl rfl) h1
        exact w_FnExactSpanOf (w := W) o0 (wfi64 k1).1 (wfi64 k1).2))

end Go.Proofs.Ytfmhdnhaaohdjaa
