/- The law FnExactFirstTime: every call returns true and leaves the memory as it was, whatever the arguments. No condition. -/
import Derived.Test.YtkoiimjpalhgbabFt2
import Derived.Test.YtkoiimjpalhgbabOg
namespace Go.Proofs.Ytkoiimjpalhgbab
open Go.RowKit Ieee

set_option maxRecDepth 20000 in
set_option maxHeartbeats 4000000 in
theorem w_FnExactFirstTime {v : Value} {w : World} (o : ∃ A n c L s d, v = .agg #[.slice A n c, .float .f32 s, .float .f32 d] ∧ n ≤ maxLen ∧ RdL w A n L ∧ s < 4294967296 ∧ d < 4294967296) {p : Nat} (hp : p < 4294967296) :
    Calls Try.prog 8 #[v, .float .f32 p] w fun e w' => e = .returned (.bool true) ∧ Below w.heap.size w w' := by
  obtain ⟨A, n, c, L, s, d, rfl, hm, hL, hs, hd⟩ := o
  have hlen := hL.len
  have fs := Fl.of32 hs
  have fd := Fl.of32 hd
  generalize fl .f32 s = S at fs
  generalize fl .f32 d = D at fd
  have fp := Fl.of32 hp
  generalize fl .f32 p = P at fp
  unfold maxLen at hm
  have hbox : GpAt (w.alloc (.cells #[.slice A n c, .float .f32 s, .float .f32 d] 25)) w.heap.size A n c s d := GpAt.blk (t := 25) (by repeat (first | (refine al_at ?_ ?_ <;> first | rfl | (simp only [al_size] <;> omega)) | apply al_old))
  by_cases hn : n ≤ 1048576
  · have hi : (n : Int) ≤ 1048576 := by omega
    have hi' : ¬ (1048576 : Int) < (n : Int) := by omega
    have hi2 : ¬ (1048576 - (n : Int) < 0) := by omega
    go_enter Try.func8, Try.ntmps8
    go_wp2_with (first | (go_at_call 15; refine Calls.mono (c_szGround (by omega) (by omega) hm) ?_; rintro e wz ⟨rfl, hxz⟩; obtain ⟨p0, p1, p2, _⟩ := hbox.ext (w' := wz) (by repeat (first | assumption | exact Ext.refl _ | apply Ext.drewN | apply Ext.drew | apply Ext.alloc | (refine Ext.trans ?_ (by assumption)) | (refine Ext.set ?_ (by dsimp only; omega) _))); (try obtain ⟨j0, j1, j2, _⟩ := hx0.ext (w' := wz) (by repeat (first | assumption | exact Ext.refl _ | apply Ext.drewN | apply Ext.drew | apply Ext.alloc | (refine Ext.trans ?_ (by assumption)) | (refine Ext.set ?_ (by dsimp only; omega) _))))) | (go_at_call 17; refine Calls.mono (c_toGround (RdL.ext hL (by repeat (first | assumption | exact Ext.refl _ | apply Ext.drewN | apply Ext.drew | apply Ext.alloc | (refine Ext.trans ?_ (by assumption)) | (refine Ext.set ?_ (by dsimp only; omega) _)))) hn) ?_; rintro e wg ⟨gg, rfl, mg⟩; have hxm := mg.ext; obtain ⟨p0, p1, p2, _⟩ := hbox.ext (w' := wg) (by repeat (first | assumption | exact Ext.refl _ | apply Ext.drewN | apply Ext.drew | apply Ext.alloc | (refine Ext.trans ?_ (by assumption)) | (refine Ext.set ?_ (by dsimp only; omega) _))); (try obtain ⟨j0, j1, j2, _⟩ := hx0.ext (w' := wg) (by repeat (first | assumption | exact Ext.refl _ | apply Ext.drewN | apply Ext.drew | apply Ext.alloc | (refine Ext.trans ?_ (by assumption)) | (refine Ext.set ?_ (by dsimp only; omega) _))))) | (go_at_call 29; refine Calls.mono (c_spec_FirstTime (RdL.ext (MadeG.rd (by assumption) hlen) (by repeat (first | assumption | exact Ext.refl _ | apply Ext.drewN | apply Ext.drew | apply Ext.alloc | (refine Ext.trans ?_ (by assumption)) | (refine Ext.set ?_ (by dsimp only; omega) _)))) hn fs fd fp) ?_; rintro e wi ⟨r1, rfl, hr1, hx1⟩; obtain ⟨p0, p1, p2, _⟩ := hbox.ext (w' := wi) (by repeat (first | assumption | exact Ext.refl _ | apply Ext.drewN | apply Ext.drew | apply Ext.alloc | (refine Ext.trans ?_ (by assumption)) | (refine Ext.set ?_ (by dsimp only; omega) _))); (try obtain ⟨j0, j1, j2, _⟩ := hx0.ext (w' := wi) (by repeat (first | assumption | exact Ext.refl _ | apply Ext.drewN | apply Ext.drew | apply Ext.alloc | (refine Ext.trans ?_ (by assumption)) | (refine Ext.set ?_ (by dsimp only; omega) _))))) | (go_at_call 30; refine Calls.mono (c_impl_FirstTime (RdL.ext (MadeG.rd (by assumption) hlen) (by repeat (first | assumption | exact Ext.refl _ | apply Ext.drewN | apply Ext.drew | apply Ext.alloc | (refine Ext.trans ?_ (by assumption)) | (refine Ext.set ?_ (by dsimp only; omega) _)))) hn fs fd fp) ?_; rintro e wi ⟨r2, rfl, hr2, hx1⟩; have hx0 := GpAt.ext (GpAt.blk (b := wg.heap.size) (t := 31) (by repeat (first | (refine al_at ?_ ?_ <;> first | rfl | (simp only [al_size] <;> omega)) | apply al_old))) hx1; obtain ⟨p0, p1, p2, _⟩ := hbox.ext (w' := wi) (by repeat (first | assumption | exact Ext.refl _ | apply Ext.drewN | apply Ext.drew | apply Ext.alloc | (refine Ext.trans ?_ (by assumption)) | (refine Ext.set ?_ (by dsimp only; omega) _))); obtain ⟨j0, j1, j2, _⟩ := hx0.ext (w' := wi) (Ext.refl _)) | (apply upon_wide s_f32 Try.underlying34; (first | assumption | exact Fl.const (of_decide_eq_true (by kernel_rfl))); intro r n hr) | (go_at_call 19; refine Calls.mono (c_sameFloat (by assumption) (by assumption) _) ?_; rintro e w7 ⟨rfl, n3, rfl⟩) | (go_at_call 20; refine Calls.mono (c_eqGround (RdL.ext (MadeG.rd (by assumption) hlen) (by repeat (first | assumption | exact Ext.refl _ | apply Ext.drewN | apply Ext.drew | apply Ext.alloc | (refine Ext.trans ?_ (by assumption)) | (refine Ext.set ?_ (by dsimp only; omega) _)))) (RdL.ext (MadeG.rd (by assumption) hlen) (by repeat (first | assumption | exact Ext.refl _ | apply Ext.drewN | apply Ext.drew | apply Ext.alloc | (refine Ext.trans ?_ (by assumption)) | (refine Ext.set ?_ (by dsimp only; omega) _)))) hn fs fd fs fd) ?_; rintro e we ⟨rfl, hxe⟩))
    go_region_with (first | (go_at_call 17; refine Calls.mono (c_toGround (RdL.ext hL (by repeat (first | assumption | exact Ext.refl _ | apply Ext.drewN | apply Ext.drew | apply Ext.alloc | (refine Ext.trans ?_ (by assumption)) | (refine Ext.set ?_ (by dsimp only; omega) _)))) hn) ?_; rintro e wg ⟨gg, rfl, mg⟩; have hxm := mg.ext; obtain ⟨p0, p1, p2, _⟩ := hbox.ext (w' := wg) (by repeat (first | assumption | exact Ext.refl _ | apply Ext.drewN | apply Ext.drew | apply Ext.alloc | (refine Ext.trans ?_ (by assumption)) | (refine Ext.set ?_ (by dsimp only; omega) _))); (try obtain ⟨j0, j1, j2, _⟩ := hx0.ext (w' := wg) (by repeat (first | assumption | exact Ext.refl _ | apply Ext.drewN | apply Ext.drew | apply Ext.alloc | (refine Ext.trans ?_ (by assumption)) | (refine Ext.set ?_ (by dsimp only; omega) _))))) | (go_at_call 20; refine Calls.mono (c_eqGround (RdL.ext (MadeG.rd (by assumption) hlen) (by repeat (first | assumption | exact Ext.refl _ | apply Ext.drewN | apply Ext.drew | apply Ext.alloc | (refine Ext.trans ?_ (by assumption)) | (refine Ext.set ?_ (by dsimp only; omega) _)))) (RdL.ext (MadeG.rd (by assumption) hlen) (by repeat (first | assumption | exact Ext.refl _ | apply Ext.drewN | apply Ext.drew | apply Ext.alloc | (refine Ext.trans ?_ (by assumption)) | (refine Ext.set ?_ (by dsimp only; omega) _)))) hn fs fd fs fd) ?_; rintro e we ⟨rfl, hxe⟩))
    all_goals
      go_wp2_with (fail)
      go_ret
      exact ⟨rfl, (by repeat (first | assumption | exact Ext.refl _ | apply Ext.drewN | apply Ext.drew | apply Ext.alloc | (refine Ext.trans ?_ (by assumption)) | (refine Ext.set ?_ (by dsimp only; omega) _)))⟩
  · have hi : ¬ (n : Int) ≤ 1048576 := by omega
    go_enter Try.func8, Try.ntmps8
    go_wp2_with ((go_at_call 15; refine Calls.mono (c_szGround (by omega) (by omega) hm) ?_; rintro e wz ⟨rfl, hxz⟩; obtain ⟨p0, p1, p2, _⟩ := hbox.ext (w' := wz) (by repeat (first | assumption | exact Ext.refl _ | apply Ext.drewN | apply Ext.drew | apply Ext.alloc | (refine Ext.trans ?_ (by assumption)) | (refine Ext.set ?_ (by dsimp only; omega) _))); (try obtain ⟨j0, j1, j2, _⟩ := hx0.ext (w' := wz) (by repeat (first | assumption | exact Ext.refl _ | apply Ext.drewN | apply Ext.drew | apply Ext.alloc | (refine Ext.trans ?_ (by assumption)) | (refine Ext.set ?_ (by dsimp only; omega) _))))))
    go_ret
    exact ⟨rfl, (by repeat (first | assumption | exact Ext.refl _ | apply Ext.drewN | apply Ext.drew | apply Ext.alloc | (refine Ext.trans ?_ (by assumption)) | (refine Ext.set ?_ (by dsimp only; omega) _)))⟩
set_option maxRecDepth 20000 in
open Go.ChangeShapes Go.WideShapes Go.ChangeAt Go.ChangeMaps in
theorem FnExactFirstTime_holds : Rows.FnExactFirstTimeSaid :=
  OpenClaim.holds_of_wide 8 Try.f8 rfl rfl rfl rfl rfl rfl rfl ⟨rfl, rfl, rfl, rfl, rfl⟩ rfl rfl rfl rfl rfl (by kernel_rfl) Try.func8 (by kernel_rfl)
    (of_decide_eq_true (by kernel_rfl)) (by unfold Func.isWrapper; first | (rw [if_pos (by decide +kernel)]; kernel_rfl) | (rw [if_neg (by decide +kernel)]; exact ⟨rfl, rfl⟩))
    (fun os started H enc _ => law_lifted os started H enc 8 Try.f8 Rows.fnExactFirstTimeSpec (by kernel_rfl) Try.func8
      (ChangeSpec.witness6 (enc := enc) (C := Try.checked) false ⟨#[], #[.agg #[.slice none 0 0, .float .f32 0, .float .f32 0], .float .f32 0], []⟩ 8 (by kernel_rfl) (by kernel_rfl) (by kernel_rfl) (by kernel_rfl))
      (by rw [Try.params8]; intro t ht; simp at ht; rcases ht with rfl | rfl <;> exact ⟨by kernel_rfl, of_decide_eq_true (by kernel_rfl)⟩) rfl 4 (by kernel_rfl) Try.underlying4
      (by intro ds hds; rw [Try.params8] at hds; match ds, hds with | [_, _], _ => rfl)
      (by
        intro W base args ds ps hval hA hlt
        rw [Try.params8] at hA hval
        obtain ⟨v0, v1, d0, d1, p0, p1, rfl, rfl, rfl, h0, h1⟩ := trodAll_two hA
        have o0 := open_gr (hval 0 25 v0 rfl rfl) h0 (fun x hx => hlt x (by simp [hx]))
        obtain ⟨a1, rfl, rfl, rfl, k1⟩ := open_float Try.underlying23 (hval 1 23 v1 rfl rfl) h1
        exact w_FnExactFirstTime (w := W) o0 (wf32 k1)))

end Go.Proofs.Ytkoiimjpalhgbab
