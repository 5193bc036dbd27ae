/- Contract: whether a gather is valid, the program. Condition: the gather is read. -/
import Derived.Test.YtkbkjkjjoogieaaYd
namespace Go.Proofs.Ytkbkjkjjoogieaa
open Go.RowKit Ieee

set_option maxRecDepth 20000 in
set_option maxHeartbeats 8000000 in
theorem c_valid {w : World} {B n m cp ct : Nat} {Ap At : Option Addr} {G : Gat} (hp0 : RdF w B Ap n G.p) (hr0 : RdS w B At m G.r) (hB : B ≤ w.heap.size) (h1 : n ≤ 1048576) (h2 : m ≤ 1048576) (h3 : ∀ j, j < m → (G.r.getD j []).length ≤ 1048576) :
    Calls Try.prog 96 #[.agg #[.int .i64 G.t, .slice Ap n cp, .slice At m ct]] w fun e w' => e = .returned (.bool (fvG G)) ∧ Ext w w' := by
  have hbox : GbAt (w.alloc (.cells #[.int .i64 G.t, .slice Ap n cp, .slice At m ct] 68)) w.heap.size G.t Ap n cp At m ct := GbAt.blk (T := 68) (by repeat (first | (refine al_at ?_ ?_ <;> first | rfl | (simp only [al_size] <;> omega)) | apply al_old))
  have hp := hp0.below (Below.mono (w := w) (w' := w.alloc (.cells #[.int .i64 G.t, .slice Ap n cp, .slice At m ct] 68)) (by repeat (first | assumption | exact Ext.refl _ | apply Ext.drewN | apply Ext.drew | apply Ext.alloc | (refine Ext.trans ?_ (by assumption)) | (refine Ext.set ?_ (by dsimp only; omega) _))) hB)
  have hr := hr0.below (Below.mono (w := w) (w' := w.alloc (.cells #[.int .i64 G.t, .slice Ap n cp, .slice At m ct] 68)) (by repeat (first | assumption | exact Ext.refl _ | apply Ext.drewN | apply Ext.drew | apply Ext.alloc | (refine Ext.trans ?_ (by assumption)) | (refine Ext.set ?_ (by dsimp only; omega) _))) hB)
  obtain ⟨p0, p1, p2, _⟩ := (show _ from hbox)
  have HN := Lib.hid hp0.len
  have HM := Lib.hid hr0.len
  have H3 := Lib.hid h3
  clear hp0 hr0 h3
  have cT : ∀ W, Calls Try.prog 123 #[.int .i64 G.t] W fun e w' => e = .returned (.bool (inB G.t 1 64)) ∧ w' = W := fun W => Calls.mono (c_isTicks _ W) (fun _ _ h => ⟨h.1, h.2.symm⟩)
  have cP : ∀ W, Calls Try.prog 124 #[.int .i64 (n : Int)] W fun e w' => e = .returned (.bool (plen n)) ∧ w' = W := fun W => Calls.mono (c_isPlaces _ W) (fun _ _ h => ⟨h.1, h.2.symm⟩)
  cases hT : inB G.t 1 64
  · have hend := Lib.hid (fvG_t hT).symm
    rw [hT] at cT
    go_enter Try.func96, Try.ntmps96
    go_wp2_with (go_at_call 123; refine Calls.mono (cT _) ?_; rintro e w1 ⟨rfl, rfl⟩)
    go_ret
    exact ⟨retb hend.out, (by repeat (first | assumption | exact Ext.refl _ | apply Ext.drewN | apply Ext.drew | apply Ext.alloc | (refine Ext.trans ?_ (by assumption)) | (refine Ext.set ?_ (by dsimp only; omega) _)))⟩
  rw [hT] at cT
  cases hP : plen n
  · have hend := Lib.hid (fvG_n (G := G) (by rw [HN.out]; exact hP)).symm
    rw [hP] at cP
    go_enter Try.func96, Try.ntmps96
    go_wp2_with (first | (go_at_call 123; refine Calls.mono (cT _) ?_; rintro e w1 ⟨rfl, rfl⟩) | (go_at_call 124; refine Calls.mono (cP _) ?_; rintro e w1 ⟨rfl, rfl⟩))
    go_ret
    exact ⟨retb hend.out, (by repeat (first | assumption | exact Ext.refl _ | apply Ext.drewN | apply Ext.drew | apply Ext.alloc | (refine Ext.trans ?_ (by assumption)) | (refine Ext.set ?_ (by dsimp only; omega) _)))⟩
  rw [hP] at cP
  cases hQ : same2 m n
  · have hend := Lib.hid (fvG_m (G := G) (by rw [HN.out, HM.out]; exact hQ)).symm
    have hne := same2_not hQ
    have hne' : ¬ ((m : Int) = (n : Int)) := by omega
    have hne2 : decide ((m : Int) = (n : Int)) = false := decide_eq_false hne'
    have hne3 : decide (m = n) = false := decide_eq_false hne
    clear hQ
    go_enter Try.func96, Try.ntmps96
    go_wp2_with (first | (go_at_call 123; refine Calls.mono (cT _) ?_; rintro e w1 ⟨rfl, rfl⟩) | (go_at_call 124; refine Calls.mono (cP _) ?_; rintro e w1 ⟨rfl, rfl⟩))
    go_ret
    exact ⟨retb hend.out, (by repeat (first | assumption | exact Ext.refl _ | apply Ext.drewN | apply Ext.drew | apply Ext.alloc | (refine Ext.trans ?_ (by assumption)) | (refine Ext.set ?_ (by dsimp only; omega) _)))⟩
  have hmm := same2_of hQ
  subst hmm
  clear hQ
  go_enter Try.func96, Try.ntmps96
  go_wp2_with (first | (go_at_call 123; refine Calls.mono (cT _) ?_; rintro e w1 ⟨rfl, rfl⟩) | (go_at_call 124; refine Calls.mono (cP _) ?_; rintro e w1 ⟨rfl, rfl⟩))
  go_loopw [28] (fun i wr => ∃ k : Nat, k ≤ m ∧ i = .int .i64 k ∧ allL (ffin .f32) (G.p.take k) = true ∧ rowsOk G.t (G.r.take k) = true ∧ Dr (w.alloc (.cells #[.int .i64 G.t, .slice Ap m cp, .slice At m ct] 68)) wr) (fun i _ => m - (intOf i).toNat)
  case atStart => exact ⟨0, Nat.zero_le _, rfl, rfl, rfl, 0, rfl⟩
  case round =>
    obtain ⟨k, hk, rfl, ha, hb, hD⟩ := hrel
    have hxr : Ext (w.alloc (.cells #[.int .i64 G.t, .slice Ap m cp, .slice At m ct] 68)) wr := hD.below
    have hxw : Ext w wr := Ext.trans (Ext.alloc (Ext.refl w) _) hxr
    clear p0 p1 p2
    obtain ⟨p0, p1, p2, _⟩ := hbox.ext hxr
    have HA := Lib.hid ha
    have HB := Lib.hid hb
    clear ha hb
    by_cases hlt : k < m
    · have hlt' : (k : Int) < (m : Int) := by omega
      obtain ⟨b0, o0, t0, rfl, hb0, hc0, ht0⟩ := (hp.below (hxr.mono (Nat.le_trans hB (by simp)))).cell hlt
      obtain ⟨b1, o1, A1, c1, rfl, hb1, hc1, hr1, hl1⟩ := (hr.below (hxr.mono (Nat.le_trans hB (by simp)))).cell hlt
      have hkp : k < G.p.length := by rw [HN.out]; exact hlt
      have hkl : k < G.r.length := by rw [HM.out]; exact hlt
      have hlk := H3.out k hlt
      have cF : ∀ W, Calls Try.prog 125 #[.float .f32 t0] W fun e w' => e = .returned (.bool (ffin .f32 (G.p.getD k none))) ∧ ∃ q2, w' = W.drewN q2 := fun W => c_impl_IsFinite ht0 W
      cases hF : ffin .f32 (G.p.getD k none)
      · have hend := Lib.hid (fvG_p (G := G) (allL_no hkp hF)).symm
        clear hr1 hl1
        rw [hF] at cF
        go_wp2_with (fail)
        go_quiet (first | (go_at_call 125; exact Calls.quiet_of (cF _)))
        go_wp2_with (fail)
        go_ret
        exact ⟨retb hend.out, (by repeat (first | assumption | exact Ext.refl _ | apply Ext.drewN | apply Ext.drew | apply Ext.alloc | (refine Ext.trans ?_ (by assumption)) | (refine Ext.set ?_ (by dsimp only; omega) _)))⟩
      have hst := Lib.hid (allL_step hkp HA.out hF)
      rw [hF] at cF
      cases hG : rowOk G.t (G.r.getD k [])
      · have hend := Lib.hid (fvG_r (rowsOk_no hkl hG)).symm
        have hne := rowOk_not hG
        obtain ⟨Lk, hLk⟩ : ∃ x, (G.r.getD k []).length = x := ⟨_, rfl⟩
        rw [hLk] at hc1 hne hlk
        have hne2 := decide_eq_false hne
        clear hG hr1 hl1 hLk
        go_wp2_with (fail)
        go_quiet (first | (go_at_call 125; exact Calls.quiet_of (cF _)))
        go_wp2_with (fail)
        go_ret
        exact ⟨retb hend.out, (by repeat (first | assumption | exact Ext.refl _ | apply Ext.drewN | apply Ext.drew | apply Ext.alloc | (refine Ext.trans ?_ (by assumption)) | (refine Ext.set ?_ (by dsimp only; omega) _)))⟩
      · have hst2 := Lib.hid (rowsOk_step hkl HB.out hG)
        have hne := rowOk_of hG
        obtain ⟨Lk, hLk⟩ : ∃ x, (G.r.getD k []).length = x := ⟨_, rfl⟩
        rw [hLk] at hc1 hne hlk
        clear hG hr1 hl1 hLk
        go_wp2_with (fail)
        go_quiet (first | (go_at_call 125; exact Calls.quiet_of (cF _)))
        go_wp2_with (fail)
        any_goals exact ⟨⟨k + 1, by omega, by go_num, hst.out, hst2.out, hD.drewN _⟩, by simp [intOf]; omega⟩
    · obtain rfl : k = m := by omega
      have hend := Lib.hid (fvG_yes hT (by rw [HN.out]; exact hP) (allL_end HN.out HA.out) (by rw [HN.out, HM.out]; exact same2_yes rfl) (rowsOk_end HM.out HB.out)).symm
      clear p0 p1 p2
      go_wp2_with (fail)
      go_ret
      exact ⟨retb hend.out, (by repeat (first | assumption | exact Ext.refl _ | apply Ext.drewN | apply Ext.drew | apply Ext.alloc | (refine Ext.trans ?_ (by assumption)) | (refine Ext.set ?_ (by dsimp only; omega) _)))⟩
set_option maxRecDepth 20000 in
set_option maxHeartbeats 1000000 in
theorem c_impl_ValidGather {w : World} {B : Nat} {v : Value} {G : Gat} (h : RdG w B v G) (hB : B ≤ w.heap.size) (h1 : G.p.length ≤ 1048576) (h2 : G.r.length ≤ 1048576) (h3 : ∀ j, j < G.r.length → (G.r.getD j []).length ≤ 1048576) :
    Calls Try.prog 96 #[v] w fun e w' => e = .returned (.bool (fvG G)) ∧ Ext w w' := by
  obtain ⟨Ap, cp, At, ct, rfl, hp0, hr0, _, _⟩ := h.ex
  exact c_valid hp0 hr0 hB h1 h2 h3
end Go.Proofs.Ytkbkjkjjoogieaa
