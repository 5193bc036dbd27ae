/- The law FnExactBestSpeed: every call returns true and leaves the memory as it was, whatever the arguments. No condition. -/
import Derived.Test.YtceldjkgddbfaaaZh
import Derived.Test.YtceldjkgddbfaaaYc
namespace Go.Proofs.Ytceldjkgddbfaaa
open Go.RowKit Ieee

set_option linter.unusedSimpArgs false in
set_option maxRecDepth 20000 in
set_option maxHeartbeats 40000000 in
theorem w_FnExactBestSpeed {w : World} {v0 : Value} (o0 : ∃ G : Gat, RdG w w.heap.size v0 G ∧ -9223372036854775808 ≤ G.t ∧ G.t ≤ 9223372036854775807 ∧ G.p.length ≤ maxLen ∧ G.r.length ≤ maxLen ∧ ∀ j, j < G.r.length → (G.r.getD j []).length ≤ maxLen) {v1 : Value} (o1 : ∃ A n c L, v1 = .slice A n c ∧ n ≤ maxLen ∧ RdF w w.heap.size A n L) {i2 : Int} (hi2 : -9223372036854775808 ≤ i2) (hj2 : i2 ≤ 9223372036854775807) {i3 : Int} (hi3 : -9223372036854775808 ≤ i3) (hj3 : i3 ≤ 9223372036854775807) :
    Calls Try.prog 12 #[v0, v1, .int .i64 i2, .int .i64 i3] w fun e w' => e = .returned (.bool true) ∧ Below w.heap.size w w' := by
  obtain ⟨G0, h0, ht0, hu0, ma0, mb0, mc0⟩ := o0
  have hz0 := fun (W : World) (hx : Ext w W) (l : Nat) (hl : l ≤ 1048576) => c_szGather (w := W) (h0.below hx) hx.size ma0 mb0 mc0 (l := l) hl
  obtain ⟨Ap0, cp0, At0, ct0, hv0, _⟩ := h0.ex
  subst hv0
  obtain ⟨A1, n1, c1, L1, rfl, hm1, h1⟩ := o1
  unfold maxLen at hm1
  have hbox0 : GbAt (w.alloc (.cells #[.int .i64 G0.t, .slice Ap0 G0.p.length cp0, .slice At0 G0.r.length ct0] 34)) (w.heap.size) G0.t Ap0 G0.p.length cp0 At0 G0.r.length ct0 := GbAt.blk (T := 34) (by repeat (first | (refine al_at ?_ ?_ <;> first | rfl | (simp only [al_size] <;> omega)) | apply al_old))
  by_cases hn1 : n1 ≤ 1048576
  case neg =>
    have hb1 : (1048576 : Int) < (n1 : Int) := by omega
    go_enter Try.func12, Try.ntmps12
    go_wp2_with (fail)
    go_ret
    exact ⟨rfl, (by repeat (first | assumption | exact Ext.refl _ | apply Ext.drewN | apply Ext.drew | apply Ext.alloc | (refine Ext.trans ?_ (by assumption)) | (refine Ext.set ?_ (by dsimp only; omega) _)))⟩
  have hz0 := fun (W : World) (hx : Ext w W) => hz0 W hx 1048576 (Nat.le_refl _)
  by_cases hs0 : gsz G0 ≤ 1048576
  case neg =>
    rw [if_neg hs0] at hz0
    have hZ0 := Lib.hid hz0
    clear hz0
    have hd1 : ¬ ((1048576 : Int) < (n1 : Int)) := by omega
    go_enter Try.func12, Try.ntmps12
    go_wp2_with (go_at_call_of 23 Ap0; refine Calls.mono (hZ0.out _ (by repeat (first | assumption | exact Ext.refl _ | apply Ext.drewN | apply Ext.drew | apply Ext.alloc | (refine Ext.trans ?_ (by assumption)) | (refine Ext.set ?_ (by dsimp only; omega) _)))) ?_; rintro e wz0 ⟨rfl, hxz⟩; have zs := hxz.size; (try simp only [al_size, size_drewN, size_drew] at zs); obtain ⟨p00, p01, p02, _⟩ := hbox0.ext (w' := wz0) (by repeat (first | assumption | exact Ext.refl _ | apply Ext.drewN | apply Ext.drew | apply Ext.alloc | (refine Ext.trans ?_ (by assumption)) | (refine Ext.set ?_ (by dsimp only; omega) _))); )
    go_ret
    exact ⟨rfl, (by repeat (first | assumption | exact Ext.refl _ | apply Ext.drewN | apply Ext.drew | apply Ext.alloc | (refine Ext.trans ?_ (by assumption)) | (refine Ext.set ?_ (by dsimp only; omega) _)))⟩
  rw [if_pos hs0] at hz0
  obtain ⟨l0, hl0⟩ : ∃ l, 1048576 - gsz G0 = l := ⟨_, rfl⟩
  rw [hl0] at hz0
  have hlz0 : ¬ ((l0 : Int) < 0) := by omega
  have hZ0 := Lib.hid hz0
  have hls0 : l0 ≤ 1048576 := by omega
  clear hz0 hl0
  obtain ⟨za0, zb0, zd0⟩ : G0.p.length ≤ 1048576 ∧ G0.r.length ≤ 1048576 ∧ tot G0.r ≤ 1048576 := by unfold gsz at hs0; omega
  have hs0 : gsz G0 ≤ 1048576 := by omega
  have zc0 : ∀ j, j < G0.r.length → (G0.r.getD j []).length ≤ 1048576 := fun j hj => Nat.le_trans (tot_at hj) zd0
  obtain ⟨ok, iz, X, hS, hI⟩ := both_BestSpeed hs0 h1.len hn1 (i2 := i2) hi2 hj2 (i3 := i3) hi3 hj3
  have HS := Lib.hid hS
  have HI := Lib.hid hI
  have hd1 : ¬ ((1048576 : Int) < (n1 : Int)) := by omega
  clear hS hI
  · skip
    go_enter Try.func12, Try.ntmps12
    go_wp2_with (go_at_call_of 23 Ap0; refine Calls.mono (hZ0.out _ (by repeat (first | assumption | exact Ext.refl _ | apply Ext.drewN | apply Ext.drew | apply Ext.alloc | (refine Ext.trans ?_ (by assumption)) | (refine Ext.set ?_ (by dsimp only; omega) _)))) ?_; rintro e wz0 ⟨rfl, hxz⟩; have zs := hxz.size; (try simp only [al_size, size_drewN, size_drew] at zs); obtain ⟨p00, p01, p02, _⟩ := hbox0.ext (w' := wz0) (by repeat (first | assumption | exact Ext.refl _ | apply Ext.drewN | apply Ext.drew | apply Ext.alloc | (refine Ext.trans ?_ (by assumption)) | (refine Ext.set ?_ (by dsimp only; omega) _))); )
    go_wp2_with ((go_at_call_of 25 Ap0; refine Calls.mono (c_toGather (RdG.below h0 (by repeat (first | assumption | exact Ext.refl _ | apply Ext.drewN | apply Ext.drew | apply Ext.alloc | (refine Ext.trans ?_ (by assumption)) | (refine Ext.set ?_ (by dsimp only; omega) _)))) (by (try simp only [al_size, size_drewN, size_drew]); omega) za0 zb0 zc0) ?_; rintro e sw0 ⟨sv0, rfl, ogs0, hxt⟩; obtain ⟨sa0, sb0, sc0, sd0, rfl⟩ := ogs0.val; have zs := hxt.size; (try simp only [al_size, size_drewN, size_drew] at zs); obtain ⟨p00, p01, p02, _⟩ := hbox0.ext (w' := sw0) (by repeat (first | assumption | exact Ext.refl _ | apply Ext.drewN | apply Ext.drew | apply Ext.alloc | (refine Ext.trans ?_ (by assumption)) | (refine Ext.set ?_ (by dsimp only; omega) _))); ))
    go_wp2_with ((go_at_call_of 16 A1; refine Calls.mono (c_toFl (RdF.below h1 (by repeat (first | assumption | exact Ext.refl _ | apply Ext.drewN | apply Ext.drew | apply Ext.alloc | (refine Ext.trans ?_ (by assumption)) | (refine Ext.set ?_ (by dsimp only; omega) _)))) (by (try simp only [al_size, size_drewN, size_drew]); omega) hn1) ?_; rintro e sw1 ⟨rfl, ogs1, hxt, zs⟩; (try simp only [al_size, size_drewN, size_drew] at zs); (try simp only [al_size, size_drewN, size_drew] at ogs1); obtain ⟨p00, p01, p02, _⟩ := hbox0.ext (w' := sw1) (by repeat (first | assumption | exact Ext.refl _ | apply Ext.drewN | apply Ext.drew | apply Ext.alloc | (refine Ext.trans ?_ (by assumption)) | (refine Ext.set ?_ (by dsimp only; omega) _))); ))
    go_wp2_with ((go_at_call 45; refine Calls.mono (HS.out _ _ _ (OwG.rd (OwG.ext ogs0 (by (try simp only [al_size, size_drewN, size_drew]); omega) (by repeat (first | assumption | exact Ext.refl _ | apply Ext.drewN | apply Ext.drew | apply Ext.alloc | (refine Ext.trans ?_ (by assumption)) | (refine Ext.set ?_ (by dsimp only; omega) _))))) (by (try simp only [al_size, size_drewN, size_drew]); omega) _ _ _ (OwL.rd (OwL.ext ogs1 (by (try simp only [al_size, size_drewN, size_drew]); omega) (by repeat (first | assumption | exact Ext.refl _ | apply Ext.drewN | apply Ext.drew | apply Ext.alloc | (refine Ext.trans ?_ (by assumption)) | (refine Ext.set ?_ (by dsimp only; omega) _))))) (by (try simp only [al_size, size_drewN, size_drew]); omega)) ?_; rintro e aw ⟨ra, rfl, hra, hxc⟩; have zs := hxc.size; (try simp only [al_size, size_drewN, size_drew] at zs); obtain ⟨p00, p01, p02, _⟩ := hbox0.ext (w' := aw) (by repeat (first | assumption | exact Ext.refl _ | apply Ext.drewN | apply Ext.drew | apply Ext.alloc | (refine Ext.trans ?_ (by assumption)) | (refine Ext.set ?_ (by dsimp only; omega) _))); ))
    go_wp2_with ((go_at_call_of 25 Ap0; refine Calls.mono (c_toGather (RdG.below h0 (by repeat (first | assumption | exact Ext.refl _ | apply Ext.drewN | apply Ext.drew | apply Ext.alloc | (refine Ext.trans ?_ (by assumption)) | (refine Ext.set ?_ (by dsimp only; omega) _)))) (by (try simp only [al_size, size_drewN, size_drew]); omega) za0 zb0 zc0) ?_; rintro e xw0 ⟨xv0, rfl, ogx0, hxt⟩; obtain ⟨xa0, xb0, xc0, xd0, rfl⟩ := ogx0.val; have zs := hxt.size; (try simp only [al_size, size_drewN, size_drew] at zs); obtain ⟨p00, p01, p02, _⟩ := hbox0.ext (w' := xw0) (by repeat (first | assumption | exact Ext.refl _ | apply Ext.drewN | apply Ext.drew | apply Ext.alloc | (refine Ext.trans ?_ (by assumption)) | (refine Ext.set ?_ (by dsimp only; omega) _))); ))
    go_wp2_with ((go_at_call_of 16 A1; refine Calls.mono (c_toFl (RdF.below h1 (by repeat (first | assumption | exact Ext.refl _ | apply Ext.drewN | apply Ext.drew | apply Ext.alloc | (refine Ext.trans ?_ (by assumption)) | (refine Ext.set ?_ (by dsimp only; omega) _)))) (by (try simp only [al_size, size_drewN, size_drew]); omega) hn1) ?_; rintro e xw1 ⟨rfl, ogx1, hxt, zs⟩; (try simp only [al_size, size_drewN, size_drew] at zs); (try simp only [al_size, size_drewN, size_drew] at ogx1); obtain ⟨p00, p01, p02, _⟩ := hbox0.ext (w' := xw1) (by repeat (first | assumption | exact Ext.refl _ | apply Ext.drewN | apply Ext.drew | apply Ext.alloc | (refine Ext.trans ?_ (by assumption)) | (refine Ext.set ?_ (by dsimp only; omega) _))); have hbx0 := GbAt.ext (GbAt.blk (b := xw0.heap.size) (T := 25) (by repeat (first | (refine al_at ?_ ?_ <;> first | rfl | (simp only [al_size] <;> omega)) | apply al_old))) hxt; obtain ⟨q00, q01, q02, _⟩ := id hbx0; ))
    go_wp2_with (first | (go_at_call 46; refine Calls.mono (HI.out _ _ _ (OwG.rd (OwG.ext ogx0 (by (try simp only [al_size, size_drewN, size_drew]); omega) (by repeat (first | assumption | exact Ext.refl _ | apply Ext.drewN | apply Ext.drew | apply Ext.alloc | (refine Ext.trans ?_ (by assumption)) | (refine Ext.set ?_ (by dsimp only; omega) _))))) (by (try simp only [al_size, size_drewN, size_drew]); omega) _ _ _ (OwL.rd (OwL.ext ogx1 (by (try simp only [al_size, size_drewN, size_drew]); omega) (by repeat (first | assumption | exact Ext.refl _ | apply Ext.drewN | apply Ext.drew | apply Ext.alloc | (refine Ext.trans ?_ (by assumption)) | (refine Ext.set ?_ (by dsimp only; omega) _))))) (by (try simp only [al_size, size_drewN, size_drew]); omega)) ?_; rintro e bw ⟨rb, rfl, hrb, hxc⟩; have zs := hxc.size; (try simp only [al_size, size_drewN, size_drew] at zs); obtain ⟨p00, p01, p02, _⟩ := hbox0.ext (w' := bw) (by repeat (first | assumption | exact Ext.refl _ | apply Ext.drewN | apply Ext.drew | apply Ext.alloc | (refine Ext.trans ?_ (by assumption)) | (refine Ext.set ?_ (by dsimp only; omega) _))); obtain ⟨q00, q01, q02, _⟩ := hbx0.ext (w' := bw) (by repeat (first | assumption | exact Ext.refl _ | apply Ext.drewN | apply Ext.drew | apply Ext.alloc | (refine Ext.trans ?_ (by assumption)) | (refine Ext.set ?_ (by dsimp only; omega) _))); ) | (apply upon_wide s_f32 Try.underlying58; (first | assumption | exact Fl.const (of_decide_eq_true (by kernel_rfl))); intro r n hr) | (go_at_call 47; refine Calls.mono (c_sameFloat (by assumption) (by assumption) _) ?_; rintro e w7 ⟨rfl, n3, rfl⟩))
    go_wp2_with (fail)
    go_region_held3 (fun W => W.cell? ⟨w.heap.size, 0, none⟩ = some (.int .i64 G0.t) ∧ W.cell? ⟨w.heap.size, 1, none⟩ = some (.slice Ap0 G0.p.length cp0) ∧ W.cell? ⟨w.heap.size, 2, none⟩ = some (.slice At0 G0.r.length ct0) ∧ W.cell? ⟨xw0.heap.size, 0, none⟩ = some (.int .i64 G0.t) ∧ W.cell? ⟨xw0.heap.size, 1, none⟩ = some (.slice xa0 G0.p.length xb0) ∧ W.cell? ⟨xw0.heap.size, 2, none⟩ = some (.slice xc0 G0.r.length xd0)) (first | exact ⟨p00, p01, p02, q00, q01, q02⟩) (first | (go_at_call_of 25 Ap0; refine Calls.mono (c_toGather (RdG.below h0 (by repeat (first | assumption | exact Ext.refl _ | apply Ext.drewN | apply Ext.drew | apply Ext.alloc | (refine Ext.trans ?_ (by assumption)) | (refine Ext.set ?_ (by dsimp only; omega) _)))) (by (try simp only [al_size, size_drewN, size_drew]); omega) za0 zb0 zc0) ?_; rintro e yw0 ⟨yv0, rfl, ogy0, hxt⟩; obtain ⟨ya0, yb0, yc0, yd0, rfl⟩ := ogy0.val; have zs := hxt.size; (try simp only [al_size, size_drewN, size_drew] at zs); obtain ⟨p00, p01, p02, _⟩ := hbox0.ext (w' := yw0) (by repeat (first | assumption | exact Ext.refl _ | apply Ext.drewN | apply Ext.drew | apply Ext.alloc | (refine Ext.trans ?_ (by assumption)) | (refine Ext.set ?_ (by dsimp only; omega) _))); obtain ⟨q00, q01, q02, _⟩ := hbx0.ext (w' := yw0) (by repeat (first | assumption | exact Ext.refl _ | apply Ext.drewN | apply Ext.drew | apply Ext.alloc | (refine Ext.trans ?_ (by assumption)) | (refine Ext.set ?_ (by dsimp only; omega) _))); ) | (go_at_call_of 18 xa0; refine Calls.mono (c_eqGather (OwG.rd (OwG.ext ogx0 (by (try simp only [al_size, size_drewN, size_drew]); omega) (by repeat (first | assumption | exact Ext.refl _ | apply Ext.drewN | apply Ext.drew | apply Ext.alloc | (refine Ext.trans ?_ (by assumption)) | (refine Ext.set ?_ (by dsimp only; omega) _))))) (OwG.rd (OwG.ext ogy0 (by (try simp only [al_size, size_drewN, size_drew]); omega) (by repeat (first | assumption | exact Ext.refl _ | apply Ext.drewN | apply Ext.drew | apply Ext.alloc | (refine Ext.trans ?_ (by assumption)) | (refine Ext.set ?_ (by dsimp only; omega) _))))) (by (try simp only [al_size, size_drewN, size_drew]); omega) (by (try simp only [al_size, size_drewN, size_drew]); omega) za0 zb0 zc0) ?_; rintro e we ⟨rfl, hxe⟩; have zs := hxe.size; (try simp only [al_size, size_drewN, size_drew] at zs); obtain ⟨p00, p01, p02, _⟩ := hbox0.ext (w' := we) (by repeat (first | assumption | exact Ext.refl _ | apply Ext.drewN | apply Ext.drew | apply Ext.alloc | (refine Ext.trans ?_ (by assumption)) | (refine Ext.set ?_ (by dsimp only; omega) _))); obtain ⟨q00, q01, q02, _⟩ := hbx0.ext (w' := we) (by repeat (first | assumption | exact Ext.refl _ | apply Ext.drewN | apply Ext.drew | apply Ext.alloc | (refine Ext.trans ?_ (by assumption)) | (refine Ext.set ?_ (by dsimp only; omega) _))); ))
    go_wp2_with ((go_at_call_of 16 A1; refine Calls.mono (c_toFl (RdF.below h1 (by repeat (first | assumption | exact Ext.refl _ | apply Ext.drewN | apply Ext.drew | apply Ext.alloc | (refine Ext.trans ?_ (by assumption)) | (refine Ext.set ?_ (by dsimp only; omega) _)))) (by (try simp only [al_size, size_drewN, size_drew]); omega) hn1) ?_; rintro e yw1 ⟨rfl, ogy1, hxt, zs⟩; (try simp only [al_size, size_drewN, size_drew] at zs); (try simp only [al_size, size_drewN, size_drew] at ogy1); obtain ⟨p00, p01, p02, _⟩ := hbox0.ext (w' := yw1) (by repeat (first | assumption | exact Ext.refl _ | apply Ext.drewN | apply Ext.drew | apply Ext.alloc | (refine Ext.trans ?_ (by assumption)) | (refine Ext.set ?_ (by dsimp only; omega) _))); obtain ⟨q00, q01, q02, _⟩ := hbx0.ext (w' := yw1) (by repeat (first | assumption | exact Ext.refl _ | apply Ext.drewN | apply Ext.drew | apply Ext.alloc | (refine Ext.trans ?_ (by assumption)) | (refine Ext.set ?_ (by dsimp only; omega) _))); ))
    go_wp2_with ((go_at_call 19; refine Calls.mono (c_eqFloat32S (OwL.rd (OwL.ext ogx1 (by (try simp only [al_size, size_drewN, size_drew]); omega) (by repeat (first | assumption | exact Ext.refl _ | apply Ext.drewN | apply Ext.drew | apply Ext.alloc | (refine Ext.trans ?_ (by assumption)) | (refine Ext.set ?_ (by dsimp only; omega) _))))) (OwL.rd (OwL.ext ogy1 (by (try simp only [al_size, size_drewN, size_drew]); omega) (by repeat (first | assumption | exact Ext.refl _ | apply Ext.drewN | apply Ext.drew | apply Ext.alloc | (refine Ext.trans ?_ (by assumption)) | (refine Ext.set ?_ (by dsimp only; omega) _))))) hn1) ?_; rintro e we ⟨rfl, m1, rfl⟩))
    go_wp2_with (fail)
    go_ret
    exact ⟨rfl, (by repeat (first | assumption | exact Ext.refl _ | apply Ext.drewN | apply Ext.drew | apply Ext.alloc | (refine Ext.trans ?_ (by assumption)) | (refine Ext.set ?_ (by dsimp only; omega) _)))⟩
set_option maxRecDepth 20000 in
open Go.ChangeShapes Go.WideShapes Go.ChangeAt Go.ChangeMaps in
theorem FnExactBestSpeed_holds : Rows.FnExactBestSpeedSaid :=
  OpenClaim.holds_of_wide 12 Try.f12 rfl rfl rfl rfl rfl rfl rfl ⟨rfl, rfl, rfl, rfl, rfl⟩ rfl rfl rfl rfl rfl (by kernel_rfl) Try.func12 (by kernel_rfl)
    (of_decide_eq_true (by kernel_rfl)) (by unfold Func.isWrapper; first | (rw [if_pos (by decide +kernel)]; kernel_rfl) | (rw [if_neg (by decide +kernel)]; exact ⟨rfl, rfl⟩))
    (fun os started H enc _ => law_lifted os started H enc 12 Try.f12 Rows.fnExactBestSpeedSpec (by kernel_rfl) Try.func12
      (ChangeSpec.witness6 (enc := enc) (C := Try.checked) false ⟨#[], #[.agg #[.int .i64 0, .slice none 0 0, .slice none 0 0], .slice none 0 0, .int .i64 0, .int .i64 0], []⟩ 8 (by kernel_rfl) (by kernel_rfl) (by kernel_rfl) (by kernel_rfl))
      (by rw [Try.params12]; intro t ht; simp at ht; rcases ht with rfl | rfl | rfl <;> exact ⟨by kernel_rfl, of_decide_eq_true (by kernel_rfl)⟩) rfl 4 (by kernel_rfl) Try.underlying4
      (by intro ds hds; rw [Try.params12] at hds; match ds, hds with | [_, _, _, _], _ => rfl)
      (by
        intro W base args ds ps hval hA hlt
        rw [Try.params12] at hA hval
        obtain ⟨v0, v1, v2, v3, d0, d1, d2, d3, p0, p1, p2, p3, rfl, rfl, rfl, h0, h1, h2, h3⟩ := trodAll_four hA
        have o0 := open_gather (hval 0 34 v0 rfl rfl) h0 (fun x hx => hlt x (by simp [hx]))
        have o1 := open_floats Try.underlying22 Try.underlying35 cells_f32 (hval 1 22 v1 rfl rfl) h1 (fun x hx => hlt x (by simp [hx]))
        obtain ⟨a2, rfl, rfl, rfl, k2⟩ := open_int Try.underlying2 (hval 2 2 v2 rfl rfl) h2
        obtain ⟨a3, rfl, rfl, rfl, k3⟩ := open_int Try.underlying2 (hval 3 2 v3 rfl rfl) h3
        exact w_FnExactBestSpeed (w := W) o0 o1 (wfi64 k2).1 (wfi64 k2).2 (wfi64 k3).1 (wfi64 k3).2))

end Go.Proofs.Ytceldjkgddbfaaa
