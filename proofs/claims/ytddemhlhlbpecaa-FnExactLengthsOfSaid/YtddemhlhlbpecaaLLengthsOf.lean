/- The law FnExactLengthsOf: every call returns true and leaves the memory as it was, whatever the arguments. No condition. -/
import Derived.Test.YtddemhlhlbpecaaLf
namespace Go.Proofs.Ytddemhlhlbpecaa
open Go.RowKit Ieee

set_option linter.unusedSimpArgs false in
set_option maxRecDepth 20000 in
set_option maxHeartbeats 40000000 in
theorem w_FnExactLengthsOf {w : World} {i0 : Int} (hi0 : -9223372036854775808 ≤ i0) (hj0 : i0 ≤ 9223372036854775807) {i1 : Int} (hi1 : -9223372036854775808 ≤ i1) (hj1 : i1 ≤ 9223372036854775807) {v2 : Value} (o2 : ∃ p : Pth, v2 = p.val ∧ p.Ok) {i3 : Int} (hi3 : -9223372036854775808 ≤ i3) (hj3 : i3 ≤ 9223372036854775807) :
    Calls Try.prog 3 #[.int .i64 i0, .int .i64 i1, v2, .int .i64 i3] w fun e w' => e = .returned (.bool true) ∧ Below w.heap.size w w' := by
  obtain ⟨g2, rfl, hg2⟩ := o2
  unfold Pth.val
  have hbox2 : PbAt (w.alloc (.cells #[.float .f32 g2.a, .float .f32 g2.b, .float .f32 g2.c, .float .f32 g2.d] 24)) (w.heap.size) g2 := PbAt.blk (T := 24) (by repeat (first | (refine al_at ?_ ?_ <;> first | rfl | (simp only [al_size] <;> omega)) | apply al_old))
  obtain ⟨ok, Q, q, hq, hS, hI⟩ := both_LengthsOf hg2 (i0 := i0) hi0 hj0 (i1 := i1) hi1 hj1 (i3 := i3) hi3 hj3
  have HS := Lib.hid hS
  have HI := Lib.hid hI
  clear hS hI
  have hneg2 : ¬ (((1 + q : Nat) : Int) < 0) := by omega
  · skip
    go_enter Try.func3, Try.ntmps3
    go_wp2_with ((go_at_call_of 16 g2.a; refine Calls.mono (c_toPath hg2) ?_; rintro e sw2 ⟨rfl, hxt⟩; have zs := hxt.size; (try simp only [al_size, size_drewN, size_drew] at zs); obtain ⟨p20, p21, p22, p23, _⟩ := hbox2.ext (w' := sw2) (by repeat (first | assumption | exact Ext.refl _ | apply Ext.drewN | apply Ext.drew | apply Ext.alloc | (refine Ext.trans ?_ (by assumption)) | (refine Ext.set ?_ (by dsimp only; omega) _))); ))
    go_wp2_with ((go_at_call 15; refine Calls.mono (HS.out _ ) ?_; rintro e aw ⟨Aa, ca, rfl, ha0, hxc⟩; have zs := hxc.size; (try simp only [al_size, size_drewN, size_drew] at zs); obtain ⟨p20, p21, p22, p23, _⟩ := hbox2.ext (w' := aw) (by repeat (first | assumption | exact Ext.refl _ | apply Ext.drewN | apply Ext.drew | apply Ext.alloc | (refine Ext.trans ?_ (by assumption)) | (refine Ext.set ?_ (by dsimp only; omega) _))); ))
    go_wp2_with ((go_at_call_of 16 g2.a; refine Calls.mono (c_toPath hg2) ?_; rintro e yw2 ⟨rfl, hxt⟩; have zs := hxt.size; (try simp only [al_size, size_drewN, size_drew] at zs); obtain ⟨p20, p21, p22, p23, _⟩ := hbox2.ext (w' := yw2) (by repeat (first | assumption | exact Ext.refl _ | apply Ext.drewN | apply Ext.drew | apply Ext.alloc | (refine Ext.trans ?_ (by assumption)) | (refine Ext.set ?_ (by dsimp only; omega) _))); ))
    go_wp2_with ((go_at_call 17; refine Calls.mono (HI.out _ ) ?_; rintro e bw ⟨Ab, cb, rfl, hb0, hxc⟩; have zs := hxc.size; (try simp only [al_size, size_drewN, size_drew] at zs); obtain ⟨p20, p21, p22, p23, _⟩ := hbox2.ext (w' := bw) (by repeat (first | assumption | exact Ext.refl _ | apply Ext.drewN | apply Ext.drew | apply Ext.alloc | (refine Ext.trans ?_ (by assumption)) | (refine Ext.set ?_ (by dsimp only; omega) _))); ))
    go_wp2_with ((go_at_call 18; refine Calls.mono (c_eqFloat32S (OwL.rd (OwL.ext hb0 (by (try simp only [al_size, size_drewN, size_drew]); omega) (by repeat (first | assumption | exact Ext.refl _ | apply Ext.drewN | apply Ext.drew | apply Ext.alloc | (refine Ext.trans ?_ (by assumption)) | (refine Ext.set ?_ (by dsimp only; omega) _))))) (OwL.rd (OwL.ext ha0 (by (try simp only [al_size, size_drewN, size_drew]); omega) (by repeat (first | assumption | exact Ext.refl _ | apply Ext.drewN | apply Ext.drew | apply Ext.alloc | (refine Ext.trans ?_ (by assumption)) | (refine Ext.set ?_ (by dsimp only; omega) _))))) hq) ?_; rintro e we ⟨rfl, m1, rfl⟩))
    go_wp2_with ((go_at_call 18; refine Calls.mono (c_eqFloat32S (OwL.rd (OwL.ext hb0 (by (try simp only [al_size, size_drewN, size_drew]); omega) (by repeat (first | assumption | exact Ext.refl _ | apply Ext.drewN | apply Ext.drew | apply Ext.alloc | (refine Ext.trans ?_ (by assumption)) | (refine Ext.set ?_ (by dsimp only; omega) _))))) (OwL.rd (OwL.ext ha0 (by (try simp only [al_size, size_drewN, size_drew]); omega) (by repeat (first | assumption | exact Ext.refl _ | apply Ext.drewN | apply Ext.drew | apply Ext.alloc | (refine Ext.trans ?_ (by assumption)) | (refine Ext.set ?_ (by dsimp only; omega) _))))) hq) ?_; rintro e we ⟨rfl, m1, rfl⟩))
    go_wp2_with (go_at_call 19; refine Calls.mono (c_markFloat32S (OwL.ext hb0 (by (try simp only [al_size, size_drewN, size_drew]); omega) (by repeat (first | assumption | exact Ext.refl _ | apply Ext.drewN | apply Ext.drew | apply Ext.alloc | (refine Ext.trans ?_ (by assumption)) | (refine Ext.set ?_ (by dsimp only; omega) _)))) hq (by decide)) ?_; rintro e wn ⟨rfl, hb0, hk⟩; have hXm : Ext w wn := Kb.ext hk (by repeat (first | assumption | exact Ext.refl _ | apply Ext.drewN | apply Ext.drew | apply Ext.alloc | (refine Ext.trans ?_ (by assumption)) | (refine Ext.set ?_ (by dsimp only; omega) _))) (by (try simp only [al_size, size_drewN, size_drew]); omega); have hXb : Ext (w.alloc (.cells #[.float .f32 g2.a, .float .f32 g2.b, .float .f32 g2.c, .float .f32 g2.d] 24)) wn := Kb.ext hk (by repeat (first | assumption | exact Ext.refl _ | apply Ext.drewN | apply Ext.drew | apply Ext.alloc | (refine Ext.trans ?_ (by assumption)) | (refine Ext.set ?_ (by dsimp only; omega) _))) (by (try simp only [al_size, size_drewN, size_drew]); omega); have ha0 := (OwL.ext ha0 (by (try simp only [al_size, size_drewN, size_drew]); omega) (by repeat (first | assumption | exact Ext.refl _ | apply Ext.drewN | apply Ext.drew | apply Ext.alloc | (refine Ext.trans ?_ (by assumption)) | (refine Ext.set ?_ (by dsimp only; omega) _)))).same (hk.sameL (by (try simp only [al_size, size_drewN, size_drew]); omega)); have zs := hk.below.size; (try simp only [al_size, size_drewN, size_drew] at zs); obtain ⟨p20, p21, p22, p23, _⟩ := hbox2.ext (w' := wn) hXb; clear hk)
    go_wp2_with (go_at_call 20; refine Calls.mono (c_heldFloat32S (OwL.rd (OwL.ext hb0 (by (try simp only [al_size, size_drewN, size_drew]); omega) (by repeat (first | assumption | exact Ext.refl _ | apply Ext.drewN | apply Ext.drew | apply Ext.alloc | (refine Ext.trans ?_ (by assumption)) | (refine Ext.set ?_ (by dsimp only; omega) _))))) hq (by decide)) ?_; rintro e wo ⟨rfl, rfl⟩)
    go_wp2_with ((go_at_call_of 16 g2.a; refine Calls.mono (c_toPath hg2) ?_; rintro e zw2 ⟨rfl, hxt⟩; have zs := hxt.size; (try simp only [al_size, size_drewN, size_drew] at zs); obtain ⟨p20, p21, p22, p23, _⟩ := hbox2.ext (w' := zw2) (by repeat (first | assumption | exact Ext.refl _ | apply Ext.drewN | apply Ext.drew | apply Ext.alloc | (refine Ext.trans ?_ (by assumption)) | (refine Ext.set ?_ (by dsimp only; omega) _))); ))
    go_wp2_with ((go_at_call 17; refine Calls.mono (HI.out _ ) ?_; rintro e hw ⟨Ah, ch, rfl, hh0, hxc⟩; have zs := hxc.size; (try simp only [al_size, size_drewN, size_drew] at zs); obtain ⟨p20, p21, p22, p23, _⟩ := hbox2.ext (w' := hw) (by repeat (first | assumption | exact Ext.refl _ | apply Ext.drewN | apply Ext.drew | apply Ext.alloc | (refine Ext.trans ?_ (by assumption)) | (refine Ext.set ?_ (by dsimp only; omega) _))); ))
    go_wp2_with ((go_at_call 18; refine Calls.mono (c_eqFloat32S (OwL.rd (OwL.ext hh0 (by (try simp only [al_size, size_drewN, size_drew]); omega) (by repeat (first | assumption | exact Ext.refl _ | apply Ext.drewN | apply Ext.drew | apply Ext.alloc | (refine Ext.trans ?_ (by assumption)) | (refine Ext.set ?_ (by dsimp only; omega) _))))) (OwL.rd (OwL.ext ha0 (by (try simp only [al_size, size_drewN, size_drew]); omega) (by repeat (first | assumption | exact Ext.refl _ | apply Ext.drewN | apply Ext.drew | apply Ext.alloc | (refine Ext.trans ?_ (by assumption)) | (refine Ext.set ?_ (by dsimp only; omega) _))))) hq) ?_; rintro e we ⟨rfl, m1, rfl⟩))
    go_wp2_with (go_at_call 20; refine Calls.mono (c_heldFloat32S (OwL.rd (OwL.ext hb0 (by (try simp only [al_size, size_drewN, size_drew]); omega) (by repeat (first | assumption | exact Ext.refl _ | apply Ext.drewN | apply Ext.drew | apply Ext.alloc | (refine Ext.trans ?_ (by assumption)) | (refine Ext.set ?_ (by dsimp only; omega) _))))) hq (by decide)) ?_; rintro e wo ⟨rfl, rfl⟩)
    go_ret
    exact ⟨rfl, (by repeat (first | assumption | exact Ext.refl _ | apply Ext.drewN | apply Ext.drew | apply Ext.alloc | (refine Ext.trans ?_ (by assumption)) | (refine Ext.set ?_ (by dsimp only; omega) _)))⟩
set_option maxRecDepth 20000 in
open Go.ChangeShapes Go.WideShapes Go.ChangeAt Go.ChangeMaps in
theorem FnExactLengthsOf_holds : Rows.FnExactLengthsOfSaid :=
  OpenClaim.holds_of_wide 3 Try.f3 rfl rfl rfl rfl rfl rfl rfl ⟨rfl, rfl, rfl, rfl, rfl⟩ rfl rfl rfl rfl rfl (by kernel_rfl) Try.func3 (by kernel_rfl)
    (of_decide_eq_true (by kernel_rfl)) (by unfold Func.isWrapper; first | (rw [if_pos (by decide +kernel)]; kernel_rfl) | (rw [if_neg (by decide +kernel)]; exact ⟨rfl, rfl⟩))
    (fun os started H enc _ => law_lifted os started H enc 3 Try.f3 Rows.fnExactLengthsOfSpec (by kernel_rfl) Try.func3
      (ChangeSpec.witness6 (enc := enc) (C := Try.checked) false ⟨#[], #[.int .i64 0, .int .i64 0, .agg #[.float .f32 0, .float .f32 0, .float .f32 0, .float .f32 0], .int .i64 0], []⟩ 8 (by kernel_rfl) (by kernel_rfl) (by kernel_rfl) (by kernel_rfl))
      (by rw [Try.params3]; intro t ht; simp at ht; rcases ht with rfl | rfl | rfl <;> exact ⟨by kernel_rfl, of_decide_eq_true (by kernel_rfl)⟩) rfl 4 (by kernel_rfl) Try.underlying4
      (by intro ds hds; rw [Try.params3] at hds; match ds, hds with | [_, _, _, _], _ => rfl)
      (by
        intro W base args ds ps hval hA hlt
        rw [Try.params3] at hA hval
        obtain ⟨v0, v1, v2, v3, d0, d1, d2, d3, p0, p1, p2, p3, rfl, rfl, rfl, h0, h1, h2, h3⟩ := trodAll_four hA
        obtain ⟨a0, rfl, rfl, rfl, k0⟩ := open_int Try.underlying2 (hval 0 2 v0 rfl rfl) h0
        obtain ⟨a1, rfl, rfl, rfl, k1⟩ := open_int Try.underlying2 (hval 1 2 v1 rfl rfl) h1
        have o2 := open_path (hval 2 24 v2 rfl rfl) h2
        obtain ⟨a3, rfl, rfl, rfl, k3⟩ := open_int Try.underlying2 (hval 3 2 v3 rfl rfl) h3
        exact w_FnExactLengthsOf (w := W) (wfi64 k0).1 (wfi64 k0).2 (wfi64 k1).1 (wfi64 k1).2 o2 (wfi64 k3).1 (wfi64 k3).2))

end Go.Proofs.Ytddemhlhlbpecaa
