/- The law FnExactStationsOf: every call returns true and leaves the memory as it was, whatever the arguments. No condition. -/
import Derived.Test.YtfmhdnhaaohdjaaQh
import Derived.Test.YtfmhdnhaaohdjaaQp
namespace Go.Proofs.Ytfmhdnhaaohdjaa
open Go.RowKit Ieee
set_option linter.unusedVariables false
set_option linter.unusedSimpArgs false

set_option linter.unusedSimpArgs false in
set_option maxRecDepth 20000 in
set_option maxHeartbeats 40000000 in
theorem w_FnExactStationsOf {w : World} {v0 : Value} (o0 : ∃ A n c R, v0 = .slice A n c ∧ n ≤ maxLen ∧ RdM w w.heap.size A n R ∧ (∀ i, i < n → (R.getD i noT).v.length ≤ maxLen) ∧ ∀ i, i < n → (R.getD i noT).Ok) :
    Calls Try.prog 6 #[v0] w fun e w' => e = .returned (.bool true) ∧ Below w.heap.size w w' := by
  obtain ⟨A0, n0, c0, R0, rfl, hm0, h0, hmr0, hok0⟩ := o0
  have hz0 := fun (W : World) (hx : Ext w W) (l : Nat) (hl : l ≤ 1048576) => c_szFrameS (w := W) (c := c0) (h0.below hx) hx.size hm0 hmr0 (l := l) hl
  have hz0 := fun (W : World) (hx : Ext w W) => hz0 W hx 1048576 (Nat.le_refl _)
  by_cases hs0 : n0 + totM R0 ≤ 1048576
  case neg =>
    rw [if_neg hs0] at hz0
    have hZ0 := Lib.hid hz0
    clear hz0
    go_enter Try.func6, Try.ntmps6
    go_wp2_with (go_at_call_of 20 A0; refine Calls.mono (hZ0.out _ (by repeat (first | assumption | exact Ext.refl _ | apply Ext.drewN | apply Ext.drew | apply Ext.alloc | (refine Ext.trans ?_ (by assumption)) | (refine Ext.set ?_ (by dsimp only; omega) _)))) ?_; rintro e wz0 ⟨rfl, hxz⟩; have zs := hxz.size; (try simp only [al_size, size_drewN, size_drew] at zs); )
    go_ret
    exact ⟨rfl, (by repeat (first | assumption | exact Ext.refl _ | apply Ext.drewN | apply Ext.drew | apply Ext.alloc | (refine Ext.trans ?_ (by assumption)) | (refine Ext.set ?_ (by dsimp only; omega) _)))⟩
  rw [if_pos hs0] at hz0
  obtain ⟨l0, hl0⟩ : ∃ l, 1048576 - (n0 + totM R0) = l := ⟨_, rfl⟩
  rw [hl0] at hz0
  have hlz0 : ¬ ((l0 : Int) < 0) := by omega
  have hZ0 := Lib.hid hz0
  have hls0 : l0 ≤ 1048576 := by omega
  clear hz0 hl0
  have hn0 : n0 ≤ 1048576 := by omega
  have ht0 : totM R0 ≤ 1048576 := by omega
  have hr0 : ∀ i, i < n0 → (R0.getD i noT).v.length ≤ 1048576 := fun i hi => Nat.le_trans (totM_at (by rw [h0.len]; exact hi)) ht0
  obtain ⟨ok, Q, q, hq, hS, hI⟩ := both_StationsOf h0.len hn0 hr0 ht0 hok0
  have HS := Lib.hid hS
  have HI := Lib.hid hI
  clear hS hI
  have hneg : ¬ (((1 + (2 * n0 + totM R0) : Nat) : Int) < 0) := by omega
  have hneg2 : ¬ (((1 + q : Nat) : Int) < 0) := by omega
  · skip
    go_enter Try.func6, Try.ntmps6
    go_wp2_with (go_at_call_of 20 A0; refine Calls.mono (hZ0.out _ (by repeat (first | assumption | exact Ext.refl _ | apply Ext.drewN | apply Ext.drew | apply Ext.alloc | (refine Ext.trans ?_ (by assumption)) | (refine Ext.set ?_ (by dsimp only; omega) _)))) ?_; rintro e wz0 ⟨rfl, hxz⟩; have zs := hxz.size; (try simp only [al_size, size_drewN, size_drew] at zs); )
    go_wp2_with ((go_at_call_of 22 A0; refine Calls.mono (c_toFrameS (RdM.below h0 (by repeat (first | assumption | exact Ext.refl _ | apply Ext.drewN | apply Ext.drew | apply Ext.alloc | (refine Ext.trans ?_ (by assumption)) | (refine Ext.set ?_ (by dsimp only; omega) _)))) (by (try simp only [al_size, size_drewN, size_drew]); omega) hn0 hr0) ?_; rintro e sw0 ⟨rfl, ogs0, hxt, zs⟩; (try simp only [al_size, size_drewN, size_drew] at ogs0); have zs := hxt.size; (try simp only [al_size, size_drewN, size_drew] at zs); ))
    go_wp2_with ((go_at_call 31; refine Calls.mono (HS.out _ _ _ _ (OwM.rd (OwM.ext ogs0 (by (try simp only [al_size, size_drewN, size_drew]); omega) (by repeat (first | assumption | exact Ext.refl _ | apply Ext.drewN | apply Ext.drew | apply Ext.alloc | (refine Ext.trans ?_ (by assumption)) | (refine Ext.set ?_ (by dsimp only; omega) _))))) (by (try simp only [al_size, size_drewN, size_drew]); omega)) ?_; rintro e aw ⟨Aa, ca, rfl, ha0, hxc⟩; have zs := hxc.size; (try simp only [al_size, size_drewN, size_drew] at zs); ))
    go_wp2_with ((go_at_call_of 22 A0; refine Calls.mono (c_toFrameS (RdM.below h0 (by repeat (first | assumption | exact Ext.refl _ | apply Ext.drewN | apply Ext.drew | apply Ext.alloc | (refine Ext.trans ?_ (by assumption)) | (refine Ext.set ?_ (by dsimp only; omega) _)))) (by (try simp only [al_size, size_drewN, size_drew]); omega) hn0 hr0) ?_; rintro e xw0 ⟨rfl, ogx0, hxt, zs⟩; (try simp only [al_size, size_drewN, size_drew] at ogx0); have zs := hxt.size; (try simp only [al_size, size_drewN, size_drew] at zs); ))
    go_wp2_with ((go_at_call 32; refine Calls.mono (HI.out _ _ _ _ (OwM.rd (OwM.ext ogx0 (by (try simp only [al_size, size_drewN, size_drew]); omega) (by repeat (first | assumption | exact Ext.refl _ | apply Ext.drewN | apply Ext.drew | apply Ext.alloc | (refine Ext.trans ?_ (by assumption)) | (refine Ext.set ?_ (by dsimp only; omega) _))))) (by (try simp only [al_size, size_drewN, size_drew]); omega)) ?_; rintro e bw ⟨Ab, cb, rfl, hb0, hxc⟩; have zs := hxc.size; (try simp only [al_size, size_drewN, size_drew] at zs); ))
    go_wp2_with ((go_at_call 27; refine Calls.mono (c_eqInt64S (OwI.ext hb0 (by (try simp only [al_size, size_drewN, size_drew]); omega) (by repeat (first | assumption | exact Ext.refl _ | apply Ext.drewN | apply Ext.drew | apply Ext.alloc | (refine Ext.trans ?_ (by assumption)) | (refine Ext.set ?_ (by dsimp only; omega) _)))) (OwI.ext ha0 (by (try simp only [al_size, size_drewN, size_drew]); omega) (by repeat (first | assumption | exact Ext.refl _ | apply Ext.drewN | apply Ext.drew | apply Ext.alloc | (refine Ext.trans ?_ (by assumption)) | (refine Ext.set ?_ (by dsimp only; omega) _)))) hq) ?_; rintro e we ⟨rfl, m1, rfl⟩))
    go_wp2_with ((go_at_call_of 22 A0; refine Calls.mono (c_toFrameS (RdM.below h0 (by repeat (first | assumption | exact Ext.refl _ | apply Ext.drewN | apply Ext.drew | apply Ext.alloc | (refine Ext.trans ?_ (by assumption)) | (refine Ext.set ?_ (by dsimp only; omega) _)))) (by (try simp only [al_size, size_drewN, size_drew]); omega) hn0 hr0) ?_; rintro e yw0 ⟨rfl, ogy0, hxt, zs⟩; (try simp only [al_size, size_drewN, size_drew] at ogy0); have zs := hxt.size; (try simp only [al_size, size_drewN, size_drew] at zs); ))
    go_wp2_with ((go_at_call 24; refine Calls.mono (c_eqFrameS (OwM.rd (OwM.ext ogx0 (by (try simp only [al_size, size_drewN, size_drew]); omega) (by repeat (first | assumption | exact Ext.refl _ | apply Ext.drewN | apply Ext.drew | apply Ext.alloc | (refine Ext.trans ?_ (by assumption)) | (refine Ext.set ?_ (by dsimp only; omega) _))))) (OwM.rd (OwM.ext ogy0 (by (try simp only [al_size, size_drewN, size_drew]); omega) (by repeat (first | assumption | exact Ext.refl _ | apply Ext.drewN | apply Ext.drew | apply Ext.alloc | (refine Ext.trans ?_ (by assumption)) | (refine Ext.set ?_ (by dsimp only; omega) _))))) (by (try simp only [al_size, size_drewN, size_drew]); omega) (by (try simp only [al_size, size_drewN, size_drew]); omega) hn0 hr0) ?_; rintro e we ⟨rfl, hxe⟩; have zs := hxe.size; (try simp only [al_size, size_drewN, size_drew] at zs); ))
    go_wp2_with ((go_at_call 28; refine Calls.mono (c_markFrameS (OwM.ext ogx0 (by (try simp only [al_size, size_drewN, size_drew]); omega) (by repeat (first | assumption | exact Ext.refl _ | apply Ext.drewN | apply Ext.drew | apply Ext.alloc | (refine Ext.trans ?_ (by assumption)) | (refine Ext.set ?_ (by dsimp only; omega) _)))) hn0 ht0 (by decide)) ?_; rintro e wm0 ⟨rfl, _, hk⟩; have hXm : Ext w wm0 := Kb.ext hk (by repeat (first | assumption | exact Ext.refl _ | apply Ext.drewN | apply Ext.drew | apply Ext.alloc | (refine Ext.trans ?_ (by assumption)) | (refine Ext.set ?_ (by dsimp only; omega) _))) (by (try simp only [al_size, size_drewN, size_drew]); omega); have hXb : Ext w wm0 := Kb.ext hk (by repeat (first | assumption | exact Ext.refl _ | apply Ext.drewN | apply Ext.drew | apply Ext.alloc | (refine Ext.trans ?_ (by assumption)) | (refine Ext.set ?_ (by dsimp only; omega) _))) (by (try simp only [al_size, size_drewN, size_drew]); omega); have ha0 := (OwI.ext ha0 (by (try simp only [al_size, size_drewN, size_drew]); omega) (by repeat (first | assumption | exact Ext.refl _ | apply Ext.drewN | apply Ext.drew | apply Ext.alloc | (refine Ext.trans ?_ (by assumption)) | (refine Ext.set ?_ (by dsimp only; omega) _)))).same (hk.sameL (by (try simp only [al_size, size_drewN, size_drew]); omega)); have hb0 := (OwI.ext hb0 (by (try simp only [al_size, size_drewN, size_drew]); omega) (by repeat (first | assumption | exact Ext.refl _ | apply Ext.drewN | apply Ext.drew | apply Ext.alloc | (refine Ext.trans ?_ (by assumption)) | (refine Ext.set ?_ (by dsimp only; omega) _)))).same (hk.sameR (by (try simp only [al_size, size_drewN, size_drew]); omega) (by (try simp only [al_size, size_drewN, size_drew]); omega)); have zs := hk.below.size; (try simp only [al_size, size_drewN, size_drew] at zs); clear hk))
    go_wp2_with ((go_at_call 27; refine Calls.mono (c_eqInt64S (OwI.ext hb0 (by (try simp only [al_size, size_drewN, size_drew]); omega) (by repeat (first | assumption | exact Ext.refl _ | apply Ext.drewN | apply Ext.drew | apply Ext.alloc | (refine Ext.trans ?_ (by assumption)) | (refine Ext.set ?_ (by dsimp only; omega) _)))) (OwI.ext ha0 (by (try simp only [al_size, size_drewN, size_drew]); omega) (by repeat (first | assumption | exact Ext.refl _ | apply Ext.drewN | apply Ext.drew | apply Ext.alloc | (refine Ext.trans ?_ (by assumption)) | (refine Ext.set ?_ (by dsimp only; omega) _)))) hq) ?_; rintro e we ⟨rfl, m1, rfl⟩))
    go_wp2_with (go_at_call 29; refine Calls.mono (c_markInt64S (OwI.ext hb0 (by (try simp only [al_size, size_drewN, size_drew]); omega) (by repeat (first | assumption | exact Ext.refl _ | apply Ext.drewN | apply Ext.drew | apply Ext.alloc | (refine Ext.trans ?_ (by assumption)) | (refine Ext.set ?_ (by dsimp only; omega) _)))) hq (by decide)) ?_; rintro e wn ⟨rfl, hb0, hk⟩; have hXm : Ext w wn := Kb.ext hk (by repeat (first | assumption | exact Ext.refl _ | apply Ext.drewN | apply Ext.drew | apply Ext.alloc | (refine Ext.trans ?_ (by assumption)) | (refine Ext.set ?_ (by dsimp only; omega) _))) (by (try simp only [al_size, size_drewN, size_drew]); omega); have hXb : Ext w wn := Kb.ext hk (by repeat (first | assumption | exact Ext.refl _ | apply Ext.drewN | apply Ext.drew | apply Ext.alloc | (refine Ext.trans ?_ (by assumption)) | (refine Ext.set ?_ (by dsimp only; omega) _))) (by (try simp only [al_size, size_drewN, size_drew]); omega); have ha0 := (OwI.ext ha0 (by (try simp only [al_size, size_drewN, size_drew]); omega) (by repeat (first | assumption | exact Ext.refl _ | apply Ext.drewN | apply Ext.drew | apply Ext.alloc | (refine Ext.trans ?_ (by assumption)) | (refine Ext.set ?_ (by dsimp only; omega) _)))).same (hk.sameL (by (try simp only [al_size, size_drewN, size_drew]); omega)); have zs := hk.below.size; (try simp only [al_size, size_drewN, size_drew] at zs); clear hk)
    go_wp2_with (go_at_call 30; refine Calls.mono (c_heldInt64S (OwI.ext hb0 (by (try simp only [al_size, size_drewN, size_drew]); omega) (by repeat (first | assumption | exact Ext.refl _ | apply Ext.drewN | apply Ext.drew | apply Ext.alloc | (refine Ext.trans ?_ (by assumption)) | (refine Ext.set ?_ (by dsimp only; omega) _)))) hq (by decide)) ?_; rintro e wo ⟨rfl, rfl⟩)
    go_wp2_with ((go_at_call_of 22 A0; refine Calls.mono (c_toFrameS (RdM.below h0 (by repeat (first | assumption | exact Ext.refl _ | apply Ext.drewN | apply Ext.drew | apply Ext.alloc | (refine Ext.trans ?_ (by assumption)) | (refine Ext.set ?_ (by dsimp only; omega) _)))) (by (try simp only [al_size, size_drewN, size_drew]); omega) hn0 hr0) ?_; rintro e zw0 ⟨rfl, ogz0, hxt, zs⟩; (try simp only [al_size, size_drewN, size_drew] at ogz0); have zs := hxt.size; (try simp only [al_size, size_drewN, size_drew] at zs); ))
    go_wp2_with ((go_at_call 32; refine Calls.mono (HI.out _ _ _ _ (OwM.rd (OwM.ext ogz0 (by (try simp only [al_size, size_drewN, size_drew]); omega) (by repeat (first | assumption | exact Ext.refl _ | apply Ext.drewN | apply Ext.drew | apply Ext.alloc | (refine Ext.trans ?_ (by assumption)) | (refine Ext.set ?_ (by dsimp only; omega) _))))) (by (try simp only [al_size, size_drewN, size_drew]); omega)) ?_; rintro e hw ⟨Ah, ch, rfl, hh0, hxc⟩; have zs := hxc.size; (try simp only [al_size, size_drewN, size_drew] at zs); ))
    go_wp2_with ((go_at_call 27; refine Calls.mono (c_eqInt64S (OwI.ext hh0 (by (try simp only [al_size, size_drewN, size_drew]); omega) (by repeat (first | assumption | exact Ext.refl _ | apply Ext.drewN | apply Ext.drew | apply Ext.alloc | (refine Ext.trans ?_ (by assumption)) | (refine Ext.set ?_ (by dsimp only; omega) _)))) (OwI.ext ha0 (by (try simp only [al_size, size_drewN, size_drew]); omega) (by repeat (first | assumption | exact Ext.refl _ | apply Ext.drewN | apply Ext.drew | apply Ext.alloc | (refine Ext.trans ?_ (by assumption)) | (refine Ext.set ?_ (by dsimp only; omega) _)))) hq) ?_; rintro e we ⟨rfl, m1, rfl⟩))
    go_wp2_with (go_at_call 30; refine Calls.mono (c_heldInt64S (OwI.ext hb0 (by (try simp only [al_size, size_drewN, size_drew]); omega) (by repeat (first | assumption | exact Ext.refl _ | apply Ext.drewN | apply Ext.drew | apply Ext.alloc | (refine Ext.trans ?_ (by assumption)) | (refine Ext.set ?_ (by dsimp only; omega) _)))) hq (by decide)) ?_; rintro e wo ⟨rfl, rfl⟩)
    go_ret
    exact ⟨rfl, (by repeat (first | assumption | exact Ext.refl _ | apply Ext.drewN | apply Ext.drew | apply Ext.alloc | (refine Ext.trans ?_ (by assumption)) | (refine Ext.set ?_ (by dsimp only; omega) _)))⟩
set_option maxRecDepth 20000 in
open Go.ChangeShapes Go.WideShapes Go.ChangeAt Go.ChangeMaps in
theorem FnExactStationsOf_holds : Rows.FnExactStationsOfSaid :=
  OpenClaim.holds_of_wide 6 Try.f6 rfl rfl rfl rfl rfl rfl rfl ⟨rfl, rfl, rfl, rfl, rfl⟩ rfl rfl rfl rfl rfl (by kernel_rfl) Try.func6 (by kernel_rfl)
    (of_decide_eq_true (by kernel_rfl)) (by unfold Func.isWrapper; first | (rw [if_pos (by decide +kernel)]; kernel_rfl) | (rw [if_neg (by decide +kernel)]; exact ⟨rfl, rfl⟩))
    (fun os started H enc _ => law_lifted os started H enc 6 Try.f6 Rows.fnExactStationsOfSpec (by kernel_rfl) Try.func6
      (ChangeSpec.witness6 (enc := enc) (C := Try.checked) false ⟨#[], #[.slice none 0 0], []⟩ 8 (by kernel_rfl) (by kernel_rfl) (by kernel_rfl) (by kernel_rfl))
      (by rw [Try.params6]; intro t ht; simp at ht; subst ht <;> exact ⟨by kernel_rfl, of_decide_eq_true (by kernel_rfl)⟩) rfl 4 (by kernel_rfl) Try.underlying4
      (by intro ds hds; rw [Try.params6] at hds; match ds, hds with | [_], _ => rfl)
      (by
        intro W base args ds ps hval hA hlt
        rw [Try.params6] at hA hval
        obtain ⟨v0, d0, rfl, rfl, h0⟩ := trodAll_one hA
        have o0 := open_frs Try.underlying31 Try.underlying24 (by kernel_rfl) ⟨rfl, rfl, rfl⟩ ⟨by kernel_rfl, by kernel_rfl, by kernel_rfl⟩ ⟨Try.underlying2, Try.underlying2, Try.underlying22⟩ Try.underlying83 cells_f32 (hval 0 31 v0 rfl rfl) h0 (fun x hx => hlt x (by simp [hx]))
        exact w_FnExactStationsOf (w := W) o0))

end Go.Proofs.Ytfmhdnhaaohdjaa
