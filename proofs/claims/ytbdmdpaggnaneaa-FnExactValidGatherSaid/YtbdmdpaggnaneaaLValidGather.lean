/- The law FnExactValidGather: every call returns true and leaves the memory as it was, whatever the arguments. No condition. -/
import Derived.Test.YtbdmdpaggnaneaaYe
import Derived.Test.YtbdmdpaggnaneaaYc
namespace Go.Proofs.Ytbdmdpaggnaneaa
open Go.RowKit Ieee

theorem both_ValidGather {G0 : Gat} (hs0 : gsz G0 ≤ 1048576) :
    ∃ X, (∀ (W : World) (B0 : Nat) (v0 : Value), RdG W B0 v0 G0 → B0 ≤ W.heap.size → Calls Try.prog 31 #[v0] W fun e w' => e = .returned (.bool X) ∧ Ext W w') ∧
      (∀ (W : World) (B0 : Nat) (v0 : Value), RdG W B0 v0 G0 → B0 ≤ W.heap.size → Calls Try.prog 33 #[v0] W fun e w' => e = .returned (.bool X) ∧ Ext W w') := by
  obtain ⟨s1, s2, s3⟩ : G0.p.length ≤ 1048576 ∧ G0.r.length ≤ 1048576 ∧ tot G0.r ≤ 1048576 := by unfold gsz at hs0; omega
  have s4 : ∀ j, j < G0.r.length → (G0.r.getD j []).length ≤ 1048576 := fun j hj => Nat.le_trans (tot_at hj) s3
  exact ⟨fvG G0, fun W _ _ h hB => c_spec_ValidGather (w := W) h hB s1 s2 s4, fun W _ _ h hB => c_impl_ValidGather (w := W) h hB s1 s2 s4⟩
set_option linter.unusedSimpArgs false in
set_option maxRecDepth 20000 in
set_option maxHeartbeats 40000000 in
theorem w_FnExactValidGather {w : World} {v0 : Value} (o0 : ∃ G : Gat, RdG w w.heap.size v0 G ∧ -9223372036854775808 ≤ G.t ∧ G.t ≤ 9223372036854775807 ∧ G.p.length ≤ maxLen ∧ G.r.length ≤ maxLen ∧ ∀ j, j < G.r.length → (G.r.getD j []).length ≤ maxLen) :
    Calls Try.prog 8 #[v0] w fun e w' => e = .returned (.bool true) ∧ Below w.heap.size w w' := by
  obtain ⟨G0, h0, ht0, hu0, ma0, mb0, mc0⟩ := o0
  have hz0 := fun (W : World) (hx : Ext w W) (l : Nat) (hl : l ≤ 1048576) => c_szGather (w := W) (h0.below hx) hx.size ma0 mb0 mc0 (l := l) hl
  obtain ⟨Ap0, cp0, At0, ct0, hv0, _⟩ := h0.ex
  subst hv0
  have hbox0 : GbAt (w.alloc (.cells #[.int .i64 G0.t, .slice Ap0 G0.p.length cp0, .slice At0 G0.r.length ct0] 40)) (w.heap.size) G0.t Ap0 G0.p.length cp0 At0 G0.r.length ct0 := GbAt.blk (T := 40) (by repeat (first | (refine al_at ?_ ?_ <;> first | rfl | (simp only [al_size] <;> omega)) | apply al_old))
  have hz0 := fun (W : World) (hx : Ext w W) => hz0 W hx 1048576 (Nat.le_refl _)
  by_cases hs0 : gsz G0 ≤ 1048576
  case neg =>
    rw [if_neg hs0] at hz0
    have hZ0 := Lib.hid hz0
    clear hz0
    go_enter Try.func8, Try.ntmps8
    go_wp2_with (go_at_call 30; refine Calls.mono (hZ0.out _ (by repeat (first | assumption | exact Ext.refl _ | apply Ext.drewN | apply Ext.drew | apply Ext.alloc | (refine Ext.trans ?_ (by assumption)) | (refine Ext.set ?_ (by dsimp only; omega) _)))) ?_; rintro e wz0 ⟨rfl, hxz⟩; have zs := hxz.size; (try simp only [al_size, size_drewN, size_drew] at zs); obtain ⟨p00, p01, p02, _⟩ := hbox0.ext (w' := wz0) (by repeat (first | assumption | exact Ext.refl _ | apply Ext.drewN | apply Ext.drew | apply Ext.alloc | (refine Ext.trans ?_ (by assumption)) | (refine Ext.set ?_ (by dsimp only; omega) _))); )
    go_ret
    exact ⟨rfl, (by repeat (first | assumption | exact Ext.refl _ | apply Ext.drewN | apply Ext.drew | apply Ext.alloc | (refine Ext.trans ?_ (by assumption)) | (refine Ext.set ?_ (by dsimp only; omega) _)))⟩
  rw [if_pos hs0] at hz0
  obtain ⟨l0, hl0⟩ : ∃ l, 1048576 - gsz G0 = l := ⟨_, rfl⟩
  rw [hl0] at hz0
  have hlz0 : ¬ ((l0 : Int) < 0) := by omega
  have hZ0 := Lib.hid hz0
  have hls0 : l0 ≤ 1048576 := by omega
  clear hz0 hl0
  obtain ⟨za0, zb0, zd0⟩ : G0.p.length ≤ 1048576 ∧ G0.r.length ≤ 1048576 ∧ tot G0.r ≤ 1048576 := by unfold gsz at hs0; omega
  have hs0 : gsz G0 ≤ 1048576 := by omega
  have zc0 : ∀ j, j < G0.r.length → (G0.r.getD j []).length ≤ 1048576 := fun j hj => Nat.le_trans (tot_at hj) zd0
  obtain ⟨X, hS, hI⟩ := both_ValidGather hs0
  have HS := Lib.hid hS
  have HI := Lib.hid hI
  clear hS hI
  · skip
    go_enter Try.func8, Try.ntmps8
    go_wp2_with (go_at_call 30; refine Calls.mono (hZ0.out _ (by repeat (first | assumption | exact Ext.refl _ | apply Ext.drewN | apply Ext.drew | apply Ext.alloc | (refine Ext.trans ?_ (by assumption)) | (refine Ext.set ?_ (by dsimp only; omega) _)))) ?_; rintro e wz0 ⟨rfl, hxz⟩; have zs := hxz.size; (try simp only [al_size, size_drewN, size_drew] at zs); obtain ⟨p00, p01, p02, _⟩ := hbox0.ext (w' := wz0) (by repeat (first | assumption | exact Ext.refl _ | apply Ext.drewN | apply Ext.drew | apply Ext.alloc | (refine Ext.trans ?_ (by assumption)) | (refine Ext.set ?_ (by dsimp only; omega) _))); )
    go_wp2_with ((go_at_call 32; refine Calls.mono (c_toGather (RdG.below h0 (by repeat (first | assumption | exact Ext.refl _ | apply Ext.drewN | apply Ext.drew | apply Ext.alloc | (refine Ext.trans ?_ (by assumption)) | (refine Ext.set ?_ (by dsimp only; omega) _)))) (by (try simp only [al_size, size_drewN, size_drew]); omega) za0 zb0 zc0) ?_; rintro e sw0 ⟨sv0, rfl, ogs0, hxt⟩; obtain ⟨sa0, sb0, sc0, sd0, rfl⟩ := ogs0.val; have zs := hxt.size; (try simp only [al_size, size_drewN, size_drew] at zs); obtain ⟨p00, p01, p02, _⟩ := hbox0.ext (w' := sw0) (by repeat (first | assumption | exact Ext.refl _ | apply Ext.drewN | apply Ext.drew | apply Ext.alloc | (refine Ext.trans ?_ (by assumption)) | (refine Ext.set ?_ (by dsimp only; omega) _))); ))
    go_wp2_with ((go_at_call 31; refine Calls.mono (HS.out _ _ _ (OwG.rd (OwG.ext ogs0 (by (try simp only [al_size, size_drewN, size_drew]); omega) (by repeat (first | assumption | exact Ext.refl _ | apply Ext.drewN | apply Ext.drew | apply Ext.alloc | (refine Ext.trans ?_ (by assumption)) | (refine Ext.set ?_ (by dsimp only; omega) _))))) (by (try simp only [al_size, size_drewN, size_drew]); omega)) ?_; rintro e aw ⟨rfl, hxc⟩; have zs := hxc.size; (try simp only [al_size, size_drewN, size_drew] at zs); obtain ⟨p00, p01, p02, _⟩ := hbox0.ext (w' := aw) (by repeat (first | assumption | exact Ext.refl _ | apply Ext.drewN | apply Ext.drew | apply Ext.alloc | (refine Ext.trans ?_ (by assumption)) | (refine Ext.set ?_ (by dsimp only; omega) _))); ))
    go_wp2_with ((go_at_call 32; refine Calls.mono (c_toGather (RdG.below h0 (by repeat (first | assumption | exact Ext.refl _ | apply Ext.drewN | apply Ext.drew | apply Ext.alloc | (refine Ext.trans ?_ (by assumption)) | (refine Ext.set ?_ (by dsimp only; omega) _)))) (by (try simp only [al_size, size_drewN, size_drew]); omega) za0 zb0 zc0) ?_; rintro e xw0 ⟨xv0, rfl, ogx0, hxt⟩; obtain ⟨xa0, xb0, xc0, xd0, rfl⟩ := ogx0.val; have zs := hxt.size; (try simp only [al_size, size_drewN, size_drew] at zs); obtain ⟨p00, p01, p02, _⟩ := hbox0.ext (w' := xw0) (by repeat (first | assumption | exact Ext.refl _ | apply Ext.drewN | apply Ext.drew | apply Ext.alloc | (refine Ext.trans ?_ (by assumption)) | (refine Ext.set ?_ (by dsimp only; omega) _))); ))
    go_wp2_with ((go_at_call 33; refine Calls.mono (HI.out _ _ _ (OwG.rd (OwG.ext ogx0 (by (try simp only [al_size, size_drewN, size_drew]); omega) (by repeat (first | assumption | exact Ext.refl _ | apply Ext.drewN | apply Ext.drew | apply Ext.alloc | (refine Ext.trans ?_ (by assumption)) | (refine Ext.set ?_ (by dsimp only; omega) _))))) (by (try simp only [al_size, size_drewN, size_drew]); omega)) ?_; rintro e bw ⟨rfl, hxc⟩; have zs := hxc.size; (try simp only [al_size, size_drewN, size_drew] at zs); have hbx0 := GbAt.ext (GbAt.blk (b := xw0.heap.size) (T := 43) (by repeat (first | (refine al_at ?_ ?_ <;> first | rfl | (simp only [al_size] <;> omega)) | apply al_old))) hxc; obtain ⟨q00, q01, q02, _⟩ := id hbx0; obtain ⟨p00, p01, p02, _⟩ := hbox0.ext (w' := bw) (by repeat (first | assumption | exact Ext.refl _ | apply Ext.drewN | apply Ext.drew | apply Ext.alloc | (refine Ext.trans ?_ (by assumption)) | (refine Ext.set ?_ (by dsimp only; omega) _))); ))
    go_region_with (first | (go_at_call 32; refine Calls.mono (c_toGather (RdG.below h0 (by repeat (first | assumption | exact Ext.refl _ | apply Ext.drewN | apply Ext.drew | apply Ext.alloc | (refine Ext.trans ?_ (by assumption)) | (refine Ext.set ?_ (by dsimp only; omega) _)))) (by (try simp only [al_size, size_drewN, size_drew]); omega) za0 zb0 zc0) ?_; rintro e yw0 ⟨yv0, rfl, ogy0, hxt⟩; obtain ⟨ya0, yb0, yc0, yd0, rfl⟩ := ogy0.val; have zs := hxt.size; (try simp only [al_size, size_drewN, size_drew] at zs); obtain ⟨p00, p01, p02, _⟩ := hbox0.ext (w' := yw0) (by repeat (first | assumption | exact Ext.refl _ | apply Ext.drewN | apply Ext.drew | apply Ext.alloc | (refine Ext.trans ?_ (by assumption)) | (refine Ext.set ?_ (by dsimp only; omega) _))); obtain ⟨q00, q01, q02, _⟩ := hbx0.ext (w' := yw0) (by repeat (first | assumption | exact Ext.refl _ | apply Ext.drewN | apply Ext.drew | apply Ext.alloc | (refine Ext.trans ?_ (by assumption)) | (refine Ext.set ?_ (by dsimp only; omega) _))); ) | (go_at_call 34; refine Calls.mono (c_eqGather (OwG.rd (OwG.ext ogx0 (by (try simp only [al_size, size_drewN, size_drew]); omega) (by repeat (first | assumption | exact Ext.refl _ | apply Ext.drewN | apply Ext.drew | apply Ext.alloc | (refine Ext.trans ?_ (by assumption)) | (refine Ext.set ?_ (by dsimp only; omega) _))))) (OwG.rd (OwG.ext ogy0 (by (try simp only [al_size, size_drewN, size_drew]); omega) (by repeat (first | assumption | exact Ext.refl _ | apply Ext.drewN | apply Ext.drew | apply Ext.alloc | (refine Ext.trans ?_ (by assumption)) | (refine Ext.set ?_ (by dsimp only; omega) _))))) (by (try simp only [al_size, size_drewN, size_drew]); omega) (by (try simp only [al_size, size_drewN, size_drew]); omega) za0 zb0 zc0) ?_; rintro e we ⟨rfl, hxe⟩; have zs := hxe.size; (try simp only [al_size, size_drewN, size_drew] at zs); obtain ⟨p00, p01, p02, _⟩ := hbox0.ext (w' := we) (by repeat (first | assumption | exact Ext.refl _ | apply Ext.drewN | apply Ext.drew | apply Ext.alloc | (refine Ext.trans ?_ (by assumption)) | (refine Ext.set ?_ (by dsimp only; omega) _))); obtain ⟨q00, q01, q02, _⟩ := hbx0.ext (w' := we) (by repeat (first | assumption | exact Ext.refl _ | apply Ext.drewN | apply Ext.drew | apply Ext.alloc | (refine Ext.trans ?_ (by assumption)) | (refine Ext.set ?_ (by dsimp only; omega) _))); ))
    all_goals
      go_wp2_with (fail)
      go_ret
      exact ⟨rfl, (by repeat (first | assumption | exact Ext.refl _ | apply Ext.drewN | apply Ext.drew | apply Ext.alloc | (refine Ext.trans ?_ (by assumption)) | (refine Ext.set ?_ (by dsimp only; omega) _)))⟩
set_option maxRecDepth 20000 in
open Go.ChangeShapes Go.WideShapes Go.ChangeAt Go.ChangeMaps in
theorem FnExactValidGather_holds : Rows.FnExactValidGatherSaid :=
  OpenClaim.holds_of_wide 8 Try.f8 rfl rfl rfl rfl rfl rfl rfl ⟨rfl, rfl, rfl, rfl, rfl⟩ rfl rfl rfl rfl rfl (by kernel_rfl) Try.func8 (by kernel_rfl)
    (of_decide_eq_true (by kernel_rfl)) (by unfold Func.isWrapper; first | (rw [if_pos (by decide +kernel)]; kernel_rfl) | (rw [if_neg (by decide +kernel)]; exact ⟨rfl, rfl⟩))
    (fun os started H enc _ => law_lifted os started H enc 8 Try.f8 Rows.fnExactValidGatherSpec (by kernel_rfl) Try.func8
      (ChangeSpec.witness6 (enc := enc) (C := Try.checked) false ⟨#[], #[.agg #[.int .i64 0, .slice none 0 0, .slice none 0 0]], []⟩ 8 (by kernel_rfl) (by kernel_rfl) (by kernel_rfl) (by kernel_rfl))
      (by rw [Try.params8]; intro t ht; simp at ht; subst ht <;> exact ⟨by kernel_rfl, of_decide_eq_true (by kernel_rfl)⟩) rfl 4 (by kernel_rfl) Try.underlying4
      (by intro ds hds; rw [Try.params8] at hds; match ds, hds with | [_], _ => rfl)
      (by
        intro W base args ds ps hval hA hlt
        rw [Try.params8] at hA hval
        obtain ⟨v0, d0, rfl, rfl, h0⟩ := trodAll_one hA
        have o0 := open_gather (hval 0 40 v0 rfl rfl) h0 (fun x hx => hlt x (by simp [hx]))
        exact w_FnExactValidGather (w := W) o0))

end Go.Proofs.Ytbdmdpaggnaneaa
