/- Contracts: speeds that are scanned, on both sides, with their success. Condition: the gather is read. -/
import Derived.Test.YtceldjkgddbfaaaZf
namespace Go.Proofs.Ytceldjkgddbfaaa
open Go.RowKit Ieee

theorem fvG_all {q : List (Option Nat) → Option Nat → Option Nat → Nat → Option Nat} {V : Option Nat} {G : Gat} (h : fvG G = true) : fvG (allG q V G) = true := by
  have hh := h
  unfold fvG at hh
  simp only [Bool.and_eq_true] at hh
  obtain ⟨h1, h2, h3, h4, h5⟩ := hh
  have hV := fvG_of h
  refine fvG_yes h1 h2 h3 ?_ ?_
  · show same2 (lstS (allF q V G) G.r.length).length G.p.length = true
    rw [lstS_len]; exact h4
  · unfold rowsOk
    rw [List.all_eq_true]
    intro x hx
    obtain ⟨j, hj, rfl⟩ := List.mem_map.1 hx
    have hj2 := List.mem_range.1 hj
    refine rowOk_yes ?_
    show ((allF q V G j).length : Int) = G.t
    unfold allF
    rw [lst_len]
    exact hV.row j hj2
set_option linter.unusedSimpArgs false in
set_option maxRecDepth 20000 in
set_option maxHeartbeats 8000000 in
theorem c_spec_ScanSpeeds {w : World} {B : Nat} {v : Value} {G : Gat} (h : RdG w B v G) (hB : B ≤ w.heap.size) (h1 : G.p.length ≤ 1048576) (h2 : G.r.length ≤ 1048576) (h3 : ∀ j, j < G.r.length → (G.r.getD j []).length ≤ 1048576) {B' n c : Nat} {A : Option Addr} {L : List (Option Nat)} (h' : RdF w B' A n L) (hB' : B' ≤ w.heap.size) (hn : n ≤ 1048576) {T lo d : Nat} {i r : Int} (hYes : fvG G = true → okW G.t i r = true → G.t = (T : Int) ∧ Win T i r lo d ∧ 0 < d ∧ lo + d ≤ T) :
    Calls Try.prog 42 #[v, .slice A n c, .int .i64 i, .int .i64 r] w fun e w' => RetL w e w' (okSc G n L i r) (lst (scF G L lo d) n) := by
  obtain ⟨Ap, cp, At, ct, rfl, hp, hr, _, _⟩ := h.ex
  obtain ⟨W1, hW1⟩ : ∃ W1, W1 = w.alloc (.cells #[.int .i64 G.t, .slice Ap G.p.length cp, .slice At G.r.length ct] 25) := ⟨_, rfl⟩
  have hbx : GbAt W1 w.heap.size G.t Ap G.p.length cp At G.r.length ct := by rw [hW1]; exact GbAt.blk (T := 25) (by repeat (first | (refine al_at ?_ ?_ <;> first | rfl | (simp only [al_size] <;> omega)) | apply al_old))
  have hx1 : Ext w W1 := by rw [hW1]; exact (by repeat (first | assumption | exact Ext.refl _ | apply Ext.drewN | apply Ext.drew | apply Ext.alloc | (refine Ext.trans ?_ (by assumption)) | (refine Ext.set ?_ (by dsimp only; omega) _)))
  have HIS := Lib.hid (c_l04Is hbx (hp.below (hx1.mono hB)) (hr.below (hx1.mono hB)) h1 h2 h3)
  have HSP := Lib.hid (fun m : Nat => c_l04Speeds (w := W1.drewN m) (c := c) ((h'.below (hx1.mono hB')).drewN m) hn)
  unfold okSc
  cases hV : fvG G
  · rw [hV] at HIS
    go_enter Try.func42, Try.ntmps42
    go_wp2_with (fail)
    rw [← hW1]
    clear hW1
    go_wp2_with ((go_at_call 63; refine Calls.mono HIS.out ?_; rintro e w1 ⟨rfl, n1, rfl⟩))
    go_ret2
    exact retL_no rfl (by repeat (first | assumption | exact Ext.refl _ | apply Ext.drewN | apply Ext.drew | apply Ext.alloc | (refine Ext.trans ?_ (by assumption)) | (refine Ext.set ?_ (by dsimp only; omega) _)))
  rw [hV] at HIS
  have hVG := fvG_of hV
  have HW := Lib.hid (fun (W : World) (hW : Ext W1 W) => c_l04Window (w := W) (i := i) (r := r) (hbx.ext hW) (by have := hVG.t1; omega) (by have := hVG.t2; omega))
  rw [Bool.true_and]
  cases hS : (plen n && allL fabove L)
  · rw [hS] at HSP
    go_enter Try.func42, Try.ntmps42
    go_wp2_with (fail)
    rw [← hW1]
    clear hW1
    go_wp2_with (first | (go_at_call 63; refine Calls.mono HIS.out ?_; rintro e w1 ⟨rfl, n1, rfl⟩) | (go_at_call 85; refine Calls.mono (HSP.out _) ?_; rintro e w1 ⟨rfl, n3, rfl⟩))
    go_ret2
    exact retL_no rfl (by repeat (first | assumption | exact Ext.refl _ | apply Ext.drewN | apply Ext.drew | apply Ext.alloc | (refine Ext.trans ?_ (by assumption)) | (refine Ext.set ?_ (by dsimp only; omega) _)))
  rw [hS] at HSP
  rw [Bool.true_and]
  cases hO : okW G.t i r
  · rw [hO] at HW
    go_enter Try.func42, Try.ntmps42
    go_wp2_with (fail)
    rw [← hW1]
    clear hW1
    go_wp2_with (first | (go_at_call 63; refine Calls.mono HIS.out ?_; rintro e w1 ⟨rfl, n1, rfl⟩) | (go_at_call 85; refine Calls.mono (HSP.out _) ?_; rintro e w1 ⟨rfl, n3, rfl⟩) | (go_at_call 86; refine Calls.mono (HW.out _ (by repeat (first | assumption | exact Ext.refl _ | apply Ext.drewN | apply Ext.drew | apply Ext.alloc | (refine Ext.trans ?_ (by assumption)) | (refine Ext.set ?_ (by dsimp only; omega) _)))) ?_; rintro e w1 ⟨rfl, n4, rfl⟩))
    go_ret2
    exact retL_no rfl (by repeat (first | assumption | exact Ext.refl _ | apply Ext.drewN | apply Ext.drew | apply Ext.alloc | (refine Ext.trans ?_ (by assumption)) | (refine Ext.set ?_ (by dsimp only; omega) _)))
  rw [hO] at HW
  obtain ⟨hTt, hw, hd, hdT⟩ := hYes hV hO
  rw [Bool.and_eq_true] at hS
  have hn16 := (plen_of hS.1).2
  have HSC := Lib.hid (fun (W : World) (hW : Ext W1 W) => c_l04Scan (w := W) (c := c) (hbx.ext hW) (hp.below ((hx1.trans hW).mono hB)) (hr.below ((hx1.trans hW).mono hB)) (Nat.le_trans hB (hx1.trans hW).size) hVG (h'.below ((hx1.trans hW).mono hB')) (Nat.le_trans hB' (hx1.trans hW).size) hn16 hTt hw hd hdT)
  clear hTt
  go_enter Try.func42, Try.ntmps42
  go_wp2_with (fail)
  rw [← hW1]
  clear hW1
  go_wp2_with (first | (go_at_call 63; refine Calls.mono HIS.out ?_; rintro e w1 ⟨rfl, n1, rfl⟩) | (go_at_call 85; refine Calls.mono (HSP.out _) ?_; rintro e w1 ⟨rfl, n3, rfl⟩) | (go_at_call 86; refine Calls.mono (HW.out _ (by repeat (first | assumption | exact Ext.refl _ | apply Ext.drewN | apply Ext.drew | apply Ext.alloc | (refine Ext.trans ?_ (by assumption)) | (refine Ext.set ?_ (by dsimp only; omega) _)))) ?_; rintro e w1 ⟨rfl, n4, rfl⟩) | (go_at_call 87; refine Calls.mono (HSC.out _ (by repeat (first | assumption | exact Ext.refl _ | apply Ext.drewN | apply Ext.drew | apply Ext.alloc | (refine Ext.trans ?_ (by assumption)) | (refine Ext.set ?_ (by dsimp only; omega) _)))) ?_; rintro e w2 ⟨x, rfl, ho, hx2⟩; obtain ⟨A5, c5, rfl, ho6⟩ := ho.owl))
  go_ret2
  exact ⟨_, _, _, rfl, ho6.more (by have := hx1.size; simp only [size_drewN]; omega) (Nat.le_refl _), (by repeat (first | assumption | exact Ext.refl _ | apply Ext.drewN | apply Ext.drew | apply Ext.alloc | (refine Ext.trans ?_ (by assumption)) | (refine Ext.set ?_ (by dsimp only; omega) _)))⟩
set_option linter.unusedSimpArgs false in
set_option maxRecDepth 20000 in
set_option maxHeartbeats 40000000 in
theorem c_impl_ScanSpeeds {w : World} {B : Nat} {v : Value} {G : Gat} (h : RdG w B v G) (hB : B ≤ w.heap.size) (h1 : G.p.length ≤ 1048576) (h2 : G.r.length ≤ 1048576) (h3 : ∀ j, j < G.r.length → (G.r.getD j []).length ≤ 1048576) {B' n c : Nat} {A : Option Addr} {L : List (Option Nat)} (h' : RdF w B' A n L) (hB' : B' ≤ w.heap.size) (hn : n ≤ 1048576) {T lo d : Nat} {i r : Int} (hYes : fvG G = true → okW G.t i r = true → G.t = (T : Int) ∧ Win T i r lo d ∧ 0 < d ∧ lo + d ≤ T) :
    Calls Try.prog 43 #[v, .slice A n c, .int .i64 i, .int .i64 r] w fun e w' => RetL w e w' (okSc G n L i r) (lst (scF G L lo d) n) := by
  obtain ⟨Ap, cp, At, ct, rfl, hp, hr, _, _⟩ := h.ex
  obtain ⟨W1, hW1⟩ : ∃ W1, W1 = w.alloc (.cells #[.int .i64 G.t, .slice Ap G.p.length cp, .slice At G.r.length ct] 25) := ⟨_, rfl⟩
  have hbx : GbAt W1 w.heap.size G.t Ap G.p.length cp At G.r.length ct := by rw [hW1]; exact GbAt.blk (T := 25) (by repeat (first | (refine al_at ?_ ?_ <;> first | rfl | (simp only [al_size] <;> omega)) | apply al_old))
  have hx1 : Ext w W1 := by rw [hW1]; exact (by repeat (first | assumption | exact Ext.refl _ | apply Ext.drewN | apply Ext.drew | apply Ext.alloc | (refine Ext.trans ?_ (by assumption)) | (refine Ext.set ?_ (by dsimp only; omega) _)))
  have hs1 : W1.heap.size = w.heap.size + 1 := by rw [hW1]; exact al_size _ _
  cases hP : plen n
  · have hf : Hid (okSc G n L i r = false) := Lib.hid (by unfold okSc; rw [hP]; simp)
    go_enter Try.func43, Try.ntmps43
    go_wp2_with (fail)
    rw [← hW1]
    clear hW1
    go_wp2_with (go_at_call 55; refine Calls.mono (c_isPlaces _ _) ?_; rw [hP]; rintro e w1 ⟨rfl, rfl⟩)
    go_ret2
    exact retL_no hf.out (by repeat (first | assumption | exact Ext.refl _ | apply Ext.drewN | apply Ext.drew | apply Ext.alloc | (refine Ext.trans ?_ (by assumption)) | (refine Ext.set ?_ (by dsimp only; omega) _)))
  obtain ⟨hp1, hp2⟩ := plen_of hP
  have hl := Lib.hid h'.len
  have hmk := fun W => run_make_row' (P := Try.prog) 22 35 (.float .f32 0) 4 Try.underlying22 info_f32 rfl .i64 .i64 n (by omega) (by omega) W
  have HCO := Lib.hid (fun (W : World) (hW : Ext W1 W) (s : Nat) (S : Option Nat) (fs : Fl .f32 s S) => c_impl_CorrectGather (w := W) (h.below ((hx1.trans hW).mono hB)) (Nat.le_trans hB (hx1.trans hW).size) h1 h2 h3 fs)
  have HBX := Lib.hid hbx
  have HYES := Lib.hid hYes
  have H3 := Lib.hid h3
  clear hp hr h hbx hYes h3
  go_enter Try.func43, Try.ntmps43
  go_wp2_with (fail)
  rw [← hW1]
  clear hW1
  go_wp2_with (go_at_call 55; refine Calls.mono (c_isPlaces _ _) ?_; rw [hP]; rintro e w1 ⟨rfl, rfl⟩)
  go_loopw [26] (fun y wr => ∃ (k : Nat) (cs : Array Value), k ≤ n ∧ y = .int .i64 (k : Int) ∧ wr.heap[w.heap.size + 1]? = some (.cells cs 35 (0, 0)) ∧ cs.size = n ∧ (∀ j, j < k → ∃ q, cs[j]? = some (.float .f32 q) ∧ Fl .f32 q (scF G L lo d j)) ∧ (k = 0 ∨ (fvG G = true ∧ okW G.t i r = true)) ∧ allL fabove (L.take k) = true ∧ Ext W1 wr) (fun y _ => n - (intOf y).toNat)
  case atStart => exact ⟨0, _, Nat.zero_le _, rfl, al_at hs1.symm rfl, size_madeCells _ _, fun j hj => absurd hj (Nat.not_lt_zero _), .inl rfl, rfl, (by repeat (first | assumption | exact Ext.refl _ | apply Ext.drewN | apply Ext.drew | apply Ext.alloc | (refine Ext.trans ?_ (by assumption)) | (refine Ext.set ?_ (by dsimp only; omega) _)))⟩
  case round =>
    obtain ⟨k, cs, hk, rfl, hg, hsz, hxs, hkv, hal, hx⟩ := hrel
    have HX : Hid (∀ j, j < k → ∃ q, cs[j]? = some (.float .f32 q) ∧ Fl .f32 q (scF G L lo d j)) := Lib.hid hxs
    have HG := Lib.hid hg
    have HS := Lib.hid hsz
    have HA := Lib.hid hal
    have HKV := Lib.hid hkv
    have hx0 : Ext w wr := hx1.trans hx
    clear hxs hg hsz hal hkv
    by_cases hlt : k < n
    · have hlt' : (k : Int) < (n : Int) := by omega
      obtain ⟨b1, o1, t1, rfl, hb1, hc1, ht1⟩ := (h'.below (hx0.mono hB')).cell hlt
      obtain ⟨p0, p1, p2, _⟩ := HBX.out.ext hx
      obtain ⟨V, hV⟩ : ∃ V, L.getD k none = V := ⟨_, rfl⟩
      rw [hV] at ht1
      have HV := Lib.hid hV
      clear hV
      have hkl : k < L.length := by have := hl.out; omega
      cases hone : (fvG G && fabove V)
      · -- the gather or the speed is none
        have hf : Hid (okSc G n L i r = false) := Lib.hid (by
          unfold okSc
          rw [Bool.and_eq_false_iff] at hone
          rcases hone with h9 | h9
          · rw [h9]; rfl
          · rw [allL_no (L := L) (k := k) hkl (by rw [HV.out]; exact h9)]; simp)
        go_wp2_with (first | (go_at_call 28; refine Calls.mono (HCO.out _ (by repeat (first | assumption | exact Ext.refl _ | apply Ext.drewN | apply Ext.drew | apply Ext.alloc | (refine Ext.trans ?_ (by assumption)) | (refine Ext.set ?_ (by dsimp only; omega) _))) _ _ ht1) ?_; rw [hone]; rintro e w2 ⟨x, rfl, ho, hx2⟩; obtain ⟨Ap2, cp2, At2, ct2, hv, hrp, hrs, _, _⟩ := ho.rd.ex; subst hv; have HSE := Lib.hid (c_im_SemNo (w := w2.alloc (.cells #[.int .i64 (outG false (allG fcorr V G)).t, .slice Ap2 (outG false (allG fcorr V G)).p.length cp2, .slice At2 (outG false (allG fcorr V G)).r.length ct2] 25)) (cp := cp2) (ct := ct2) (i := i) (r := r) (hrp.below (Ext.alloc (Ext.refl w2) _)) (hrs.below (Ext.alloc (Ext.refl w2) _)) (by simp) (show (0 : Nat) ≤ 1048576 by omega) (show (0 : Nat) ≤ 1048576 by omega) (fun j hj => absurd hj (Nat.not_lt_zero j)) rfl); clear ho hrp hrs) | (go_at_call 88; refine Calls.mono HSE.out ?_; rintro e w5 ⟨r5, rfl, hr5, hx5⟩))
        go_ret2
        exact retL_no hf.out (by repeat (first | assumption | exact Ext.refl _ | apply Ext.drewN | apply Ext.drew | apply Ext.alloc | (refine Ext.trans ?_ (by assumption)) | (refine Ext.set ?_ (by dsimp only; omega) _)))
      have hones := hone
      rw [Bool.and_eq_true] at hones
      have hvq := fvG_all (q := fcorr) (V := V) hones.1
      have hVQ := fvG_of hvq
      have hsz16 : (allG fcorr V G).p.length ≤ 1048576 ∧ (allG fcorr V G).r.length ≤ 1048576 := by have := hVQ.n2; have := hVQ.m; omega
      have hrow9 : ∀ j, j < (allG fcorr V G).r.length → ((allG fcorr V G).r.getD j []).length ≤ 1048576 := fun j hj => by have := hVQ.row j hj; have := hVQ.t2; omega
      have HROW9 := Lib.hid hrow9
      clear hVQ hrow9
      cases hO : okW G.t i r
      · have hf : Hid (okSc G n L i r = false) := Lib.hid (by unfold okSc; rw [hO]; simp)
        go_wp2_with (first | (go_at_call 28; refine Calls.mono (HCO.out _ (by repeat (first | assumption | exact Ext.refl _ | apply Ext.drewN | apply Ext.drew | apply Ext.alloc | (refine Ext.trans ?_ (by assumption)) | (refine Ext.set ?_ (by dsimp only; omega) _))) _ _ ht1) ?_; rw [hone]; rintro e w2 ⟨x, rfl, ho, hx2⟩; obtain ⟨Ap2, cp2, At2, ct2, hv, hrp, hrs, _, _⟩ := ho.rd.ex; subst hv; have HSE := Lib.hid (c_im_SemNo (w := w2.alloc (.cells #[.int .i64 (outG true (allG fcorr V G)).t, .slice Ap2 (outG true (allG fcorr V G)).p.length cp2, .slice At2 (outG true (allG fcorr V G)).r.length ct2] 25)) (cp := cp2) (ct := ct2) (i := i) (r := r) (hrp.below (Ext.alloc (Ext.refl w2) _)) (hrs.below (Ext.alloc (Ext.refl w2) _)) (by simp) hsz16.1 hsz16.2 HROW9.out (by show (fvG (allG fcorr V G) && okW G.t i r) = false; rw [hO, Bool.and_false])); clear ho hrp hrs) | (go_at_call 88; refine Calls.mono HSE.out ?_; rintro e w5 ⟨r5, rfl, hr5, hx5⟩))
        go_ret2
        exact retL_no hf.out (by repeat (first | assumption | exact Ext.refl _ | apply Ext.drewN | apply Ext.drew | apply Ext.alloc | (refine Ext.trans ?_ (by assumption)) | (refine Ext.set ?_ (by dsimp only; omega) _)))
      obtain ⟨hTt, hw, hd, hdT⟩ := HYES.out hones.1 hO
      have hlenr : (allG fcorr V G).r.length = G.r.length := lstS_len _ _
      have HLR := Lib.hid hlenr
      have HTT := Lib.hid hTt
      have HST := Lib.hid (allL_step (L := L) (k := k) hkl HA.out (by rw [HV.out]; exact hones.2))
      have hones1 := hones.1
      clear hlenr hTt hones
      go_wp2_with (first | (go_at_call 28; refine Calls.mono (HCO.out _ (by repeat (first | assumption | exact Ext.refl _ | apply Ext.drewN | apply Ext.drew | apply Ext.alloc | (refine Ext.trans ?_ (by assumption)) | (refine Ext.set ?_ (by dsimp only; omega) _))) _ _ ht1) ?_; rw [hone]; rintro e w2 ⟨x, rfl, ho, hx2⟩; obtain ⟨Ap2, cp2, At2, ct2, hv, hrp, hrs, _, _⟩ := ho.rd.ex; subst hv; have HSE := Lib.hid (c_im_SemYes (w := w2.alloc (.cells #[.int .i64 (outG true (allG fcorr V G)).t, .slice Ap2 (outG true (allG fcorr V G)).p.length cp2, .slice At2 (outG true (allG fcorr V G)).r.length ct2] 25)) (cp := cp2) (ct := ct2) (i := i) (r := r) (hrp.below (Ext.alloc (Ext.refl w2) _)) (hrs.below (Ext.alloc (Ext.refl w2) _)) (by simp) hsz16.1 hsz16.2 HROW9.out hvq HTT.out hw hd hdT); clear ho hrp hrs) | (go_at_call 88; refine Calls.mono HSE.out ?_; rintro e w5 ⟨r5, rfl, hr5, hx5⟩; have hxr5 : Ext wr w5 := (by repeat (first | assumption | exact Ext.refl _ | apply Ext.drewN | apply Ext.drew | apply Ext.alloc | (refine Ext.trans ?_ (by assumption)) | (refine Ext.set ?_ (by dsimp only; omega) _))); have g5 := Lib.hid (hxr5.blk HG.out); obtain ⟨u0, e0, z0⟩ := own_cell g5.out HS.out hlt))
      have hr6 : Fl .f32 r5 (scF G L lo d k) := by
        unfold scF
        rw [HV.out, ← HLR.out]
        exact hr5
      exact ⟨⟨k + 1, cs.setIfInBounds k (.float .f32 r5), by omega, by go_num, blk_set1 g5.out k _, by rw [Array.size_setIfInBounds]; exact HS.out, pre_setF (F := scF G L lo d) (by have := HS.out; omega) HX.out hr6, .inr ⟨hones1, by first | exact hO | trivial⟩, HST.out, Ext.set (hx.trans hxr5) (by dsimp only; omega) _⟩, by simp [intOf]; omega⟩
    · obtain rfl : k = n := by omega
      have hkv := HKV.out.resolve_left (by omega)
      have hok : Hid (okSc G k L i r = true) := Lib.hid (by unfold okSc; rw [hkv.1, hkv.2, hP, allL_end hl.out HA.out]; rfl)
      have ho5 := (show RowF cs k (scF G L lo d) from HX.out).lst HG.out HS.out
      go_wp2_with (fail)
      go_ret2
      rw [hok.out]
      exact ⟨_, _, _, rfl, ho5.more (by omega) (by omega), hx0⟩
theorem both_ScanSpeeds {G0 : Gat} (hs0 : gsz G0 ≤ 1048576) {n1 : Nat} {L1 : List (Option Nat)} (_hl1 : L1.length = n1) (hn1 : n1 ≤ 1048576) {i2 : Int} (_hi2 : -9223372036854775808 ≤ i2) (_hj2 : i2 ≤ 9223372036854775807) {i3 : Int} (_hi3 : -9223372036854775808 ≤ i3) (_hj3 : i3 ≤ 9223372036854775807) :
    ∃ ok Q q, q ≤ 1048576 ∧ (∀ (W : World) (B0 : Nat) (v0 : Value), RdG W B0 v0 G0 → B0 ≤ W.heap.size → ∀ (B1 : Nat) (A1 : Option Addr) (c1 : Nat), RdF W B1 A1 n1 L1 → B1 ≤ W.heap.size → Calls Try.prog 42 #[v0, .slice A1 n1 c1, .int .i64 i2, .int .i64 i3] W fun e w' => RetQ W e w' ok q Q) ∧
      (∀ (W : World) (B0 : Nat) (v0 : Value), RdG W B0 v0 G0 → B0 ≤ W.heap.size → ∀ (B1 : Nat) (A1 : Option Addr) (c1 : Nat), RdF W B1 A1 n1 L1 → B1 ≤ W.heap.size → Calls Try.prog 43 #[v0, .slice A1 n1 c1, .int .i64 i2, .int .i64 i3] W fun e w' => RetQ W e w' ok q Q) := by
  obtain ⟨s1, s2, s3⟩ : G0.p.length ≤ 1048576 ∧ G0.r.length ≤ 1048576 ∧ tot G0.r ≤ 1048576 := by unfold gsz at hs0; omega
  have s4 : ∀ j, j < G0.r.length → (G0.r.getD j []).length ≤ 1048576 := fun j hj => Nat.le_trans (tot_at hj) s3
  by_cases hy : fvG G0 = true ∧ okW G0.t i2 i3 = true
  · have hvg := fvG_of hy.1
    obtain ⟨T, hT⟩ : ∃ T : Nat, G0.t = (T : Int) := ⟨G0.t.toNat, by have := hvg.t1; omega⟩
    obtain ⟨w1, w2, w3, w4⟩ := okW_of hy.2
    obtain ⟨lo, d, hw, hd, hdT⟩ := win_of (T := T) w1 (by omega) w3 w4
    exact ⟨okSc G0 n1 L1 i2 i3, outL (okSc G0 n1 L1 i2 i3) (lst (scF G0 L1 lo d) n1), (outL (okSc G0 n1 L1 i2 i3) (lst (scF G0 L1 lo d) n1)).length, Nat.le_trans (outL_len _ _) (by rw [lst_len]; omega),
      fun W B0 v0 h hB B1 A1 c1 h' hB' => Calls.mono (c_spec_ScanSpeeds (w := W) (T := T) (lo := lo) (d := d) h hB s1 s2 s4 h' hB' hn1 (fun _ _ => ⟨hT, hw, hd, hdT⟩)) (fun _ _ hr => hr.q), fun W B0 v0 h hB B1 A1 c1 h' hB' => Calls.mono (c_impl_ScanSpeeds (w := W) (T := T) (lo := lo) (d := d) h hB s1 s2 s4 h' hB' hn1 (fun _ _ => ⟨hT, hw, hd, hdT⟩)) (fun _ _ hr => hr.q)⟩
  · exact ⟨okSc G0 n1 L1 i2 i3, outL (okSc G0 n1 L1 i2 i3) (lst (scF G0 L1 0 0) n1), (outL (okSc G0 n1 L1 i2 i3) (lst (scF G0 L1 0 0) n1)).length, Nat.le_trans (outL_len _ _) (by rw [lst_len]; omega),
      fun W B0 v0 h hB B1 A1 c1 h' hB' => Calls.mono (c_spec_ScanSpeeds (w := W) (T := 0) (lo := 0) (d := 0) h hB s1 s2 s4 h' hB' hn1 (fun a b => absurd ⟨a, b⟩ hy)) (fun _ _ hr => hr.q), fun W B0 v0 h hB B1 A1 c1 h' hB' => Calls.mono (c_impl_ScanSpeeds (w := W) (T := 0) (lo := 0) (d := 0) h hB s1 s2 s4 h' hB' hn1 (fun a b => absurd ⟨a, b⟩ hy)) (fun _ _ hr => hr.q)⟩
end Go.Proofs.Ytceldjkgddbfaaa
