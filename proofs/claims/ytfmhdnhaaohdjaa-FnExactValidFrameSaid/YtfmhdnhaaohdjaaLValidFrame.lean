/- The law FnExactValidFrame: every call returns true and leaves the memory as it was, whatever the arguments. No condition. -/
import Derived.Test.YtfmhdnhaaohdjaaQx
import Derived.Test.YtfmhdnhaaohdjaaQb
namespace Go.Proofs.Ytfmhdnhaaohdjaa
open Go.RowKit Ieee
set_option linter.unusedVariables false
set_option linter.unusedSimpArgs false

set_option linter.unusedSimpArgs false in
set_option maxRecDepth 20000 in
set_option maxHeartbeats 40000000 in
theorem w_FnExactValidFrame {w : World} {v0 : Value} (o0 : ∃ S : Sct, RdT w w.heap.size v0 S ∧ S.Ok ∧ S.v.length ≤ maxLen) :
    Calls Try.prog 3 #[v0] w fun e w' => e = .returned (.bool true) ∧ Below w.heap.size w w' := by
  obtain ⟨S0, h0, hok0, ma0⟩ := o0
  have hz0 := fun (W : World) (hx : Ext w W) (l : Nat) (hl : l ≤ 1048576) => c_szFrame (w := W) (h0.below hx) ma0 (l := l) hl
  obtain ⟨Ap0, cp0, hv0, _⟩ := h0.ex
  subst hv0
  have hbox0 : SbAt (w.alloc (.cells #[.int .i64 S0.x, .int .i64 S0.z, .slice Ap0 S0.v.length cp0] 24)) (w.heap.size) S0.x S0.z Ap0 S0.v.length cp0 := SbAt.blk (T := 24) (by repeat (first | (refine al_at ?_ ?_ <;> first | rfl | (simp only [al_size] <;> omega)) | apply al_old))
  have hz0 := fun (W : World) (hx : Ext w W) => hz0 W hx 1048576 (Nat.le_refl _)
  by_cases hs0 : S0.v.length ≤ 1048576
  case neg =>
    rw [if_neg hs0] at hz0
    have hZ0 := Lib.hid hz0
    clear hz0
    go_enter Try.func3, Try.ntmps3
    go_wp2_with (go_at_call_of 15 Ap0; refine Calls.mono (hZ0.out _ (by repeat (first | assumption | exact Ext.refl _ | apply Ext.drewN | apply Ext.drew | apply Ext.alloc | (refine Ext.trans ?_ (by assumption)) | (refine Ext.set ?_ (by dsimp only; omega) _)))) ?_; rintro e wz0 ⟨rfl, hxz⟩; have zs := hxz.size; (try simp only [al_size, size_drewN, size_drew] at zs); obtain ⟨p00, p01, p02, _⟩ := hbox0.ext (w' := wz0) (by repeat (first | assumption | exact Ext.refl _ | apply Ext.drewN | apply Ext.drew | apply Ext.alloc | (refine Ext.trans ?_ (by assumption)) | (refine Ext.set ?_ (by dsimp only; omega) _))); )
    go_ret
    exact ⟨rfl, (by repeat (first | assumption | exact Ext.refl _ | apply Ext.drewN | apply Ext.drew | apply Ext.alloc | (refine Ext.trans ?_ (by assumption)) | (refine Ext.set ?_ (by dsimp only; omega) _)))⟩
  rw [if_pos hs0] at hz0
  obtain ⟨l0, hl0⟩ : ∃ l, 1048576 - S0.v.length = l := ⟨_, rfl⟩
  rw [hl0] at hz0
  have hlz0 : ¬ ((l0 : Int) < 0) := by omega
  have hZ0 := Lib.hid hz0
  have hls0 : l0 ≤ 1048576 := by omega
  clear hz0 hl0
  have za0 : S0.v.length ≤ 1048576 := by omega
  obtain ⟨X, hS, hI⟩ := both_ValidFrame za0 hok0
  have HS := Lib.hid hS
  have HI := Lib.hid hI
  clear hS hI
  · skip
    go_enter Try.func3, Try.ntmps3
    go_wp2_with (go_at_call_of 15 Ap0; refine Calls.mono (hZ0.out _ (by repeat (first | assumption | exact Ext.refl _ | apply Ext.drewN | apply Ext.drew | apply Ext.alloc | (refine Ext.trans ?_ (by assumption)) | (refine Ext.set ?_ (by dsimp only; omega) _)))) ?_; rintro e wz0 ⟨rfl, hxz⟩; have zs := hxz.size; (try simp only [al_size, size_drewN, size_drew] at zs); obtain ⟨p00, p01, p02, _⟩ := hbox0.ext (w' := wz0) (by repeat (first | assumption | exact Ext.refl _ | apply Ext.drewN | apply Ext.drew | apply Ext.alloc | (refine Ext.trans ?_ (by assumption)) | (refine Ext.set ?_ (by dsimp only; omega) _))); )
    go_wp2_with ((go_at_call_of 17 Ap0; refine Calls.mono (c_toFrame (RdT.below h0 (by repeat (first | assumption | exact Ext.refl _ | apply Ext.drewN | apply Ext.drew | apply Ext.alloc | (refine Ext.trans ?_ (by assumption)) | (refine Ext.set ?_ (by dsimp only; omega) _)))) (by (try simp only [al_size, size_drewN, size_drew]); omega) za0) ?_; rintro e sw0 ⟨sv0, rfl, ogs0, hxt⟩; obtain ⟨sa0, sb0, rfl⟩ := ogs0.val; have zs := hxt.size; (try simp only [al_size, size_drewN, size_drew] at zs); obtain ⟨p00, p01, p02, _⟩ := hbox0.ext (w' := sw0) (by repeat (first | assumption | exact Ext.refl _ | apply Ext.drewN | apply Ext.drew | apply Ext.alloc | (refine Ext.trans ?_ (by assumption)) | (refine Ext.set ?_ (by dsimp only; omega) _))); ))
    go_wp2_with ((go_at_call 16; refine Calls.mono (HS.out _ _ _ (OwT.rd (OwT.ext ogs0 (by (try simp only [al_size, size_drewN, size_drew]); omega) (by repeat (first | assumption | exact Ext.refl _ | apply Ext.drewN | apply Ext.drew | apply Ext.alloc | (refine Ext.trans ?_ (by assumption)) | (refine Ext.set ?_ (by dsimp only; omega) _))))) (by (try simp only [al_size, size_drewN, size_drew]); omega)) ?_; rintro e aw ⟨rfl, hxc⟩; have zs := hxc.size; (try simp only [al_size, size_drewN, size_drew] at zs); obtain ⟨p00, p01, p02, _⟩ := hbox0.ext (w' := aw) (by repeat (first | assumption | exact Ext.refl _ | apply Ext.drewN | apply Ext.drew | apply Ext.alloc | (refine Ext.trans ?_ (by assumption)) | (refine Ext.set ?_ (by dsimp only; omega) _))); ))
    go_wp2_with ((go_at_call_of 17 Ap0; refine Calls.mono (c_toFrame (RdT.below h0 (by repeat (first | assumption | exact Ext.refl _ | apply Ext.drewN | apply Ext.drew | apply Ext.alloc | (refine Ext.trans ?_ (by assumption)) | (refine Ext.set ?_ (by dsimp only; omega) _)))) (by (try simp only [al_size, size_drewN, size_drew]); omega) za0) ?_; rintro e xw0 ⟨xv0, rfl, ogx0, hxt⟩; obtain ⟨xa0, xb0, rfl⟩ := ogx0.val; have zs := hxt.size; (try simp only [al_size, size_drewN, size_drew] at zs); obtain ⟨p00, p01, p02, _⟩ := hbox0.ext (w' := xw0) (by repeat (first | assumption | exact Ext.refl _ | apply Ext.drewN | apply Ext.drew | apply Ext.alloc | (refine Ext.trans ?_ (by assumption)) | (refine Ext.set ?_ (by dsimp only; omega) _))); ))
    go_wp2_with ((go_at_call 18; refine Calls.mono (HI.out _ _ _ (OwT.rd (OwT.ext ogx0 (by (try simp only [al_size, size_drewN, size_drew]); omega) (by repeat (first | assumption | exact Ext.refl _ | apply Ext.drewN | apply Ext.drew | apply Ext.alloc | (refine Ext.trans ?_ (by assumption)) | (refine Ext.set ?_ (by dsimp only; omega) _))))) (by (try simp only [al_size, size_drewN, size_drew]); omega)) ?_; rintro e bw ⟨rfl, hxc⟩; have zs := hxc.size; (try simp only [al_size, size_drewN, size_drew] at zs); have hbx0 := SbAt.ext (SbAt.blk (b := xw0.heap.size) (T := 27) (by repeat (first | (refine al_at ?_ ?_ <;> first | rfl | (simp only [al_size] <;> omega)) | apply al_old))) hxc; obtain ⟨q00, q01, q02, _⟩ := id hbx0; obtain ⟨p00, p01, p02, _⟩ := hbox0.ext (w' := bw) (by repeat (first | assumption | exact Ext.refl _ | apply Ext.drewN | apply Ext.drew | apply Ext.alloc | (refine Ext.trans ?_ (by assumption)) | (refine Ext.set ?_ (by dsimp only; omega) _))); ))
    go_wp2_with (fail)
    go_region_held3 (fun W => W.cell? ⟨w.heap.size, 0, none⟩ = some (.int .i64 S0.x) ∧ W.cell? ⟨w.heap.size, 1, none⟩ = some (.int .i64 S0.z) ∧ W.cell? ⟨w.heap.size, 2, none⟩ = some (.slice Ap0 S0.v.length cp0) ∧ W.cell? ⟨xw0.heap.size, 0, none⟩ = some (.int .i64 S0.x) ∧ W.cell? ⟨xw0.heap.size, 1, none⟩ = some (.int .i64 S0.z) ∧ W.cell? ⟨xw0.heap.size, 2, none⟩ = some (.slice xa0 S0.v.length xb0)) (first | exact ⟨p00, p01, p02, q00, q01, q02⟩) (first | (go_at_call_of 17 Ap0; refine Calls.mono (c_toFrame (RdT.below h0 (by repeat (first | assumption | exact Ext.refl _ | apply Ext.drewN | apply Ext.drew | apply Ext.alloc | (refine Ext.trans ?_ (by assumption)) | (refine Ext.set ?_ (by dsimp only; omega) _)))) (by (try simp only [al_size, size_drewN, size_drew]); omega) za0) ?_; rintro e yw0 ⟨yv0, rfl, ogy0, hxt⟩; obtain ⟨ya0, yb0, rfl⟩ := ogy0.val; have zs := hxt.size; (try simp only [al_size, size_drewN, size_drew] at zs); obtain ⟨p00, p01, p02, _⟩ := hbox0.ext (w' := yw0) (by repeat (first | assumption | exact Ext.refl _ | apply Ext.drewN | apply Ext.drew | apply Ext.alloc | (refine Ext.trans ?_ (by assumption)) | (refine Ext.set ?_ (by dsimp only; omega) _))); obtain ⟨q00, q01, q02, _⟩ := hbx0.ext (w' := yw0) (by repeat (first | assumption | exact Ext.refl _ | apply Ext.drewN | apply Ext.drew | apply Ext.alloc | (refine Ext.trans ?_ (by assumption)) | (refine Ext.set ?_ (by dsimp only; omega) _))); ) | (go_at_call_of 19 xa0; refine Calls.mono (c_eqFrame (OwT.rd (OwT.ext ogx0 (by (try simp only [al_size, size_drewN, size_drew]); omega) (by repeat (first | assumption | exact Ext.refl _ | apply Ext.drewN | apply Ext.drew | apply Ext.alloc | (refine Ext.trans ?_ (by assumption)) | (refine Ext.set ?_ (by dsimp only; omega) _))))) (OwT.rd (OwT.ext ogy0 (by (try simp only [al_size, size_drewN, size_drew]); omega) (by repeat (first | assumption | exact Ext.refl _ | apply Ext.drewN | apply Ext.drew | apply Ext.alloc | (refine Ext.trans ?_ (by assumption)) | (refine Ext.set ?_ (by dsimp only; omega) _))))) (by (try simp only [al_size, size_drewN, size_drew]); omega) (by (try simp only [al_size, size_drewN, size_drew]); omega) za0) ?_; rintro e we ⟨rfl, hxe⟩; have zs := hxe.size; (try simp only [al_size, size_drewN, size_drew] at zs); obtain ⟨p00, p01, p02, _⟩ := hbox0.ext (w' := we) (by repeat (first | assumption | exact Ext.refl _ | apply Ext.drewN | apply Ext.drew | apply Ext.alloc | (refine Ext.trans ?_ (by assumption)) | (refine Ext.set ?_ (by dsimp only; omega) _))); obtain ⟨q00, q01, q02, _⟩ := hbx0.ext (w' := we) (by repeat (first | assumption | exact Ext.refl _ | apply Ext.drewN | apply Ext.drew | apply Ext.alloc | (refine Ext.trans ?_ (by assumption)) | (refine Ext.set ?_ (by dsimp only; omega) _))); ))
    go_wp2_with (fail)
    go_ret
    exact ⟨rfl, (by repeat (first | assumption | exact Ext.refl _ | apply Ext.drewN | apply Ext.drew | apply Ext.alloc | (refine Ext.trans ?_ (by assumption)) | (refine Ext.set ?_ (by dsimp only; omega) _)))⟩
set_option maxRecDepth 20000 in
open Go.ChangeShapes Go.WideShapes Go.ChangeAt Go.ChangeMaps in
theorem FnExactValidFrame_holds : Rows.FnExactValidFrameSaid :=
  OpenClaim.holds_of_wide 3 Try.f3 rfl rfl rfl rfl rfl rfl rfl ⟨rfl, rfl, rfl, rfl, rfl⟩ rfl rfl rfl rfl rfl (by kernel_rfl) Try.func3 (by kernel_rfl)
    (of_decide_eq_true (by kernel_rfl)) (by unfold Func.isWrapper; first | (rw [if_pos (by decide +kernel)]; kernel_rfl) | (rw [if_neg (by decide +kernel)]; exact ⟨rfl, rfl⟩))
    (fun os started H enc _ => law_lifted os started H enc 3 Try.f3 Rows.fnExactValidFrameSpec (by kernel_rfl) Try.func3
      (ChangeSpec.witness6 (enc := enc) (C := Try.checked) false ⟨#[], #[.agg #[.int .i64 0, .int .i64 0, .slice none 0 0]], []⟩ 8 (by kernel_rfl) (by kernel_rfl) (by kernel_rfl) (by kernel_rfl))
      (by rw [Try.params3]; intro t ht; simp at ht; subst ht <;> exact ⟨by kernel_rfl, of_decide_eq_true (by kernel_rfl)⟩) rfl 4 (by kernel_rfl) Try.underlying4
      (by intro ds hds; rw [Try.params3] at hds; match ds, hds with | [_], _ => rfl)
      (by
        intro W base args ds ps hval hA hlt
        rw [Try.params3] at hA hval
        obtain ⟨v0, d0, rfl, rfl, h0⟩ := trodAll_one hA
        have o0 := open_frame (hval 0 24 v0 rfl rfl) h0 (fun x hx => hlt x (by simp [hx]))
        exact w_FnExactValidFrame (w := W) o0))

end Go.Proofs.Ytfmhdnhaaohdjaa
