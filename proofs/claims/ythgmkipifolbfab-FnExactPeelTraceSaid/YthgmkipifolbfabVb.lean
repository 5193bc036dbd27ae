/- Contract: what is peeled of a trace, the reference. Condition: the list is read. -/
import Derived.Test.YthgmkipifolbfabVd
import Derived.Test.YthgmkipifolbfabLo2
namespace Go.Proofs.Ythgmkipifolbfab
open Go.RowKit Ieee

set_option maxRecDepth 20000 in
set_option maxHeartbeats 4000000 in
theorem c_spec_PeelTrace {w : World} {B n c : Nat} {A : Option Addr} {L : List (Option Nat)} (h : RdF w B A n L) (hB : B ≤ w.heap.size) (hn : n ≤ 1048576) (_hcap : n ≤ c) {p : Nat} {P : Option Nat} (fp : Fl .f32 p P) {i : Int} (_hi0 : -9223372036854775808 ≤ i) (_hi1 : i ≤ 9223372036854775807) :
    Calls Try.prog 29 #[.slice A n c, .float .f32 p, .int .i64 i] w fun e w' => RetL w e w' (okQ L P i n) (lst (fpr L P) i.toNat) := by
  cases hV : tlen n
  · go_enter Try.func29, Try.ntmps29
    go_wp2_with (go_at_call 59; refine Calls.mono (c_l03Is _ _ _ _) ?_; rw [hV]; rintro e w1 ⟨rfl, rfl⟩)
    go_ret2
    exact retL_no (okQ_a hV) (by repeat (first | assumption | exact Ext.refl _ | apply Ext.drewN | apply Ext.drew | apply Ext.alloc | (refine Ext.trans ?_ (by assumption)) | (refine Ext.set ?_ (by dsimp only; omega) _)))
  cases hW : fsurf P
  · go_enter Try.func29, Try.ntmps29
    go_wp2_with (first | (go_at_call 59; refine Calls.mono (c_l03Is _ _ _ _) ?_; rw [hV]; rintro e w1 ⟨rfl, rfl⟩) | (go_at_call 56; refine Calls.mono (c_l03Surface fp) ?_; rw [hW]; rintro e w1 ⟨rfl, rfl⟩))
    go_ret2
    exact retL_no (okQ_b hW) (by repeat (first | assumption | exact Ext.refl _ | apply Ext.drewN | apply Ext.drew | apply Ext.alloc | (refine Ext.trans ?_ (by assumption)) | (refine Ext.set ?_ (by dsimp only; omega) _)))
  cases hX : inB i 1 24
  · go_enter Try.func29, Try.ntmps29
    go_wp2_with (first | (go_at_call 59; refine Calls.mono (c_l03Is _ _ _ _) ?_; rw [hV]; rintro e w1 ⟨rfl, rfl⟩) | (go_at_call 56; refine Calls.mono (c_l03Surface fp) ?_; rw [hW]; rintro e w1 ⟨rfl, rfl⟩) | (go_at_call 54; refine Calls.mono (c_l00In _ _ _ _) ?_; rw [hX]; rintro e w1 ⟨rfl, rfl⟩))
    go_ret2
    exact retL_no (okQ_c hX) (by repeat (first | assumption | exact Ext.refl _ | apply Ext.drewN | apply Ext.drew | apply Ext.alloc | (refine Ext.trans ?_ (by assumption)) | (refine Ext.set ?_ (by dsimp only; omega) _)))
  obtain ⟨g1, g2⟩ := inB_of hX
  obtain ⟨M, rfl⟩ : ∃ M : Nat, i = (M : Int) := ⟨i.toNat, by omega⟩
  cases hY : le2 (M : Int).toNat n
  · have hgt : (n : Int) < (M : Int) := by have := le2_not hY; omega
    go_enter Try.func29, Try.ntmps29
    go_wp2_with (first | (go_at_call 59; refine Calls.mono (c_l03Is _ _ _ _) ?_; rw [hV]; rintro e w1 ⟨rfl, rfl⟩) | (go_at_call 56; refine Calls.mono (c_l03Surface fp) ?_; rw [hW]; rintro e w1 ⟨rfl, rfl⟩) | (go_at_call 54; refine Calls.mono (c_l00In _ _ _ _) ?_; rw [hX]; rintro e w1 ⟨rfl, rfl⟩))
    go_ret2
    exact retL_no (okQ_d hY) (by repeat (first | assumption | exact Ext.refl _ | apply Ext.drewN | apply Ext.drew | apply Ext.alloc | (refine Ext.trans ?_ (by assumption)) | (refine Ext.set ?_ (by dsimp only; omega) _)))
  have hle : ¬ (n : Int) < (M : Int) := by have := le2_of hY; omega
  obtain ⟨hn0, hn1⟩ := tlen_of hV
  have hM1 : 1 ≤ M ∧ M ≤ 24 ∧ M ≤ n := by omega
  obtain ⟨hM1, hM2, hM3⟩ := hM1
  obtain ⟨Q, hQ⟩ : ∃ Q, n = Q + 1 := ⟨n - 1, by omega⟩
  have hsub : (n : Int) - 1 = (Q : Int) := by omega
  have hQn : Q < n := by omega
  have HQ := Lib.hid hQ
  clear hQ
  obtain ⟨i0, hi, hz0, hz1, hz2⟩ := info_parts info_f32
  obtain ⟨b, off, rfl, hb, rs, hrl, hrs⟩ := h.words (show 0 < n by omega)
  have HRS := Lib.hid hrs
  have HRL := Lib.hid hrl
  clear hrs hrl
  have hbw : b < w.heap.size := by omega
  go_enter Try.func29, Try.ntmps29
  go_wp2_with (first | (go_at_call 59; refine Calls.mono (c_l03Is _ _ _ _) ?_; rw [hV]; rintro e w1 ⟨rfl, rfl⟩) | (go_at_call 56; refine Calls.mono (c_l03Surface fp) ?_; rw [hW]; rintro e w1 ⟨rfl, rfl⟩) | (go_at_call 54; refine Calls.mono (c_l00In _ _ _ _) ?_; rw [hX]; rintro e w1 ⟨rfl, rfl⟩) | (at_builtin; refine wpList_append_own_at _ rfl _ _ 22 rfl w.heap.size 29 i0 (.float .f32 0) 1 4 Try.underlying22 hi hz0 hz1 hz2 rfl (by decide) _ _ _ rfl (World.ownsRow_made _ _ 0 (Nat.le_refl _) (Nat.zero_le _) rfl) ⟨b, off, none⟩ n c (fvals rs) rfl (by simp [fvals, HRL.out]) ?_ ?_ ?_ ?_ ?_ ?_))
  all_goals first
    | (intro j u hj
       have hjn : j < n := by
         rcases Nat.lt_or_ge j n with h1 | h1
         · exact h1
         · rw [List.getElem?_eq_none (by simp [fvals, HRL.out]; omega)] at hj; cases hj
       rw [fvals_at (by rw [HRL.out]; omega)] at hj
       cases hj
       have hc := (HRS.out j hjn).1
       have e0 : (⟨b, off, none⟩ : Addr).add j = ⟨b, off + j, none⟩ := by simp [Addr.add]
       rw [e0]
       exact ((Ext.alloc (Ext.refl w) _).cell hbw).trans hc)
    | (intro u hu; simp only [fvals, List.mem_map] at hu; obtain ⟨r, _, rfl⟩ := hu; rfl)
    | (unfold maxLen; omega)
    | omega
    | (rw [al_size]; omega)
    | (intro v1 w4 hown1 hgrow _ hat
       have hx4 : Ext w w4 := grown_ext (Ext.alloc (Ext.refl w) _) (World.ownsRow_made _ _ 0 (Nat.le_refl _) (Nat.zero_le _) rfl) hgrow
       (try rw [Nat.zero_add] at hown1)
       (try rw [List.nil_append] at hown1)
       obtain ⟨ga, ka, csa, rfl, hoa, hga, hka, hsa, hha, hra⟩ := owns_row (F := fun j => L.getD j none) hown1 (by omega) (fun j hj => ⟨rs.getD j 0, fvals_at (by rw [HRL.out]; exact hj), (HRS.out j hj).2⟩)
       have hgal := blk_lt hha
       have HHA := Lib.hid hha
       have HRA := Lib.hid hra
       have HSA := Lib.hid hsa
       clear hown1 hgrow hat hoa hha hra hsa
       go_wp2_with (fail)
       go_loopw [9, 10] (fun d y wr => ∃ (k : Nat) (xs : List Value), k ≤ Q ∧ y = .int .i64 k ∧ wr.ownsRow w4.heap.size 29 1 d (k + 1) xs ∧ (∀ j, j < k + 1 → ∃ r, xs[j]? = some (.float .f32 r) ∧ Fl .f32 r (pd0 L P j)) ∧ Ext w4 wr) (fun _ y _ => Q - (intOf y).toNat)
       case atStart =>
         refine ⟨0, [.float .f32 1065353216], Nat.zero_le _, rfl, owns_one _ _, ?_, (by repeat (first | assumption | exact Ext.refl _ | apply Ext.drewN | apply Ext.drew | apply Ext.alloc | (refine Ext.trans ?_ (by assumption)) | (refine Ext.set ?_ (by dsimp only; omega) _)))⟩
         intro j hj
         obtain rfl : j = 0 := by omega
         exact ⟨_, rfl, fl_fu⟩
       case round =>
         obtain ⟨k, xs, hk, rfl, hown, hxs, hx⟩ := hrel
         have HX := Lib.hid hxs
         clear hxs
         by_cases hlt : k < Q
         · have hlt' : (k : Int) < (Q : Int) := by omega
           have hkn : (k : Int) < (n : Int) := by omega
           obtain ⟨hc1, ht1⟩ := HRS.out k (by omega)
           generalize rs.getD k 0 = t1 at hc1 ht1
           have hc1 := ((hx4.trans hx).cell hbw).trans hc1
           have hT : pd0 L P (k + 1) = fag P (L.getD k none) := by unfold pd0; rw [if_neg (by omega), Nat.add_sub_cancel]
           have HT := Lib.hid hT
           clear hT
           go_wp2_with (first | (refine upon_fop (op := .mul) rfl fp ht1 ?_; intro r4 n4 hr4) | (at_builtin; refine wpList_append_own _ rfl _ _ 22 rfl w4.heap.size 29 i0 (.float .f32 0) 1 4 Try.underlying22 hi hz0 hz1 hz2 rfl (by decide) _ _ _ rfl (World.ownsRow.alloc (w := wr.drewN _) hown _) ⟨wr.heap.size, 0, none⟩ 1 1 [.float .f32 (Op.negFloat .f32 r4)] rfl rfl ?_ ?_ ?_ ?_ ?_ ?_))
           all_goals first
             | exact one_new (w := wr.drewN _)
             | (intro u hu; simp at hu; subst hu; rfl)
             | (unfold maxLen; omega)
             | omega
             | (have := hx.size; simp; omega)
             | (intro v' w5 hown' hgrow _
                have hl' : xs.length = k + 1 := by have := hown.1; omega
                have hx' : Ext w4 w5 := grown_ext (Ext.alloc (Ext.drewN hx _) _) (World.ownsRow.alloc (w := wr.drewN _) hown _) hgrow
                have HXX := Lib.hid (row_step (F := pd0 L P) hl' HX.out (by rw [HT.out]; exact fneg32_fl hr4))
                clear hown hgrow hx
                go_wp2_with (fail)
                exact ⟨⟨k + 1, _, by omega, by go_num, by exact hown', HXX.out, hx'⟩, by simp [intOf]; omega⟩)
         · obtain rfl : k = Q := by omega
           have hnl : ¬ ((k : Int) < (k : Int)) := by omega
           have hown' := owns_len HQ.out hown
           obtain ⟨gd, kd, csd, rfl, hod, hgd, hkd, hsd, hhd, hrd⟩ := owns_row (F := pd0 L P) hown' (by omega) (fun j hj => HX.out j (by have := HQ.out; omega))
           have hgdl := blk_lt hhd
           have HHD := Lib.hid hhd
           have HRD := Lib.hid hrd
           have HSD := Lib.hid hsd
           have HXW := Lib.hid hx
           have hsx := hx.size
           have hsx4 := hx4.size
           clear hown' hown hod hhd hrd hsd
           go_wp2_with (fail)
           go_loopw [2, 8, 9, 11] (fun y u d v wq => ∃ (t s m : Nat) (xs : List Value), t + s = M ∧ t + m = n ∧ y = .int .i64 (s : Int) ∧ wq.ownsRow w.heap.size 29 1 v t xs ∧ (∀ j, j < t → ∃ r, xs[j]? = some (.float .f32 r) ∧ Fl .f32 r (fpr L P j)) ∧ (∀ j, j < t → fcoef (fpr L P j) = true) ∧ (0 < s → PlS wq w.heap.size u d v m (pst L P t).1 (pst L P t).2) ∧ Ext w wq) (fun y _ _ _ _ => (intOf y).toNat)
           case atStart =>
             refine ⟨0, M, n, [], by omega, by omega, rfl, World.ownsRow_made wr _ 0 (by omega) (Nat.zero_le _) rfl, fun j hj => absurd hj (Nat.not_lt_zero _), fun j hj => absurd hj (Nat.not_lt_zero _), fun _ => ?_, (by repeat (first | assumption | exact Ext.refl _ | apply Ext.drewN | apply Ext.drew | apply Ext.alloc | (refine Ext.trans ?_ (by assumption)) | (refine Ext.set ?_ (by dsimp only; omega) _)))⟩
             exact ⟨ga, 0, gd, ka, kd, csa, csd, rfl, rfl, hka, hkd, by omega, hga, by omega, by intro e; have e' : some wr.heap.size = some ga := e; have := Option.some.inj e'; omega, by intro e; have e' : some wr.heap.size = some gd := e; have := Option.some.inj e'; omega, al_old (HXW.out.blk HHA.out), al_old HHD.out, by have := HSA.out; omega, HSD.out, HRA.out, HRD.out⟩
           case round =>
             obtain ⟨t, s, m, xs, hts, htm, rfl, hown, hxs, hfc, hpl, hx⟩ := hrel
             have HX := Lib.hid hxs
             have HFC := Lib.hid hfc
             clear hxs hfc
             by_cases hs : 0 < s
             · obtain ⟨g1, o1, g2, k1, k2, cs1, cs2, rfl, rfl, hk1, hk2, hne, hb1, hb2, hv1, hv2, hh1, hh2, hs1, hs2, hr1, hr2⟩ := hpl hs
               have hm0 : 0 < m := by omega
               have hs' : (0 : Int) < (s : Int) := by omega
               have hm0' : (0 : Int) < (m : Int) := by omega
               obtain ⟨r1, hc1, _, hf1⟩ := hr1.cell hh1 hm0
               rw [Nat.add_zero] at hc1
               obtain ⟨r2, hc2, _, hf2⟩ := hr2.cell0 hh2 hm0
               obtain ⟨Rq, Nq, qq, fq⟩ := fop_rule (P := Try.prog) (op := .quo) rfl hf1 hf2 29
               have FQ := Lib.hid fq
               have hg1l := blk_lt hh1
               have hg2l := blk_lt hh2
               have HR1 := Lib.hid hr1
               have HR2 := Lib.hid hr2
               have HH1 := Lib.hid hh1
               have HH2 := Lib.hid hh2
               have HV1 := Lib.hid hv1
               have HV2 := Lib.hid hv2
               clear fq hr1 hr2 hh1 hh2 hv1 hv2 hf1 hf2 hpl
               go_wp2_with (fail)
               go_region_held (fun W => W.cell? ⟨g1, o1, none⟩ = some (.float .f32 r1) ∧ W.cell? ⟨g2, 0, none⟩ = some (.float .f32 r2)) (exact ⟨hc1, hc2⟩) (fail)
               have hfr : Fl .f32 (Rq wr.drew) (fpr L P t) := FQ.out wr.drew
               clear qq hc1 hc2
               generalize Nq wr.drew = n0 at *
               generalize Rq wr.drew = r0 at *
               cases hF : fcoef (fpr L P t)
               · have hend := Lib.hid (okQ_e (n := n) (i := (M : Int)) (okPl_no (m := (M : Int).toNat) (by omega) hF))
                 go_wp2_with (go_at_call 60; refine Calls.mono (c_l03Coefficient hfr) ?_; rw [hF]; rintro e w1 ⟨rfl, rfl⟩)
                 go_ret2
                 exact retL_no hend.out (by repeat (first | assumption | exact Ext.refl _ | apply Ext.drewN | apply Ext.drew | apply Ext.alloc | (refine Ext.trans ?_ (by assumption)) | (refine Ext.set ?_ (by dsimp only; omega) _)))
               · have HFC2 := Lib.hid (okPl_next HFC.out hF)
                 go_wp2_with (first | (go_at_call 60; refine Calls.mono (c_l03Coefficient hfr) ?_; rw [hF]; rintro e w1 ⟨rfl, rfl⟩) | (at_builtin; refine wpList_append_own_at _ rfl _ _ 22 rfl w.heap.size 29 i0 (.float .f32 0) 1 4 Try.underlying22 hi hz0 hz1 hz2 rfl (by decide) _ _ _ rfl (World.ownsRow.alloc (w := wr.drewN _) hown _) ⟨wr.heap.size, 0, none⟩ 1 1 [.float .f32 r0] rfl rfl ?_ ?_ ?_ ?_ ?_ ?_))
                 all_goals first
                   | exact one_new (w := wr.drewN _)
                   | (intro u hu; simp at hu; subst hu; rfl)
                   | (unfold maxLen; omega)
                   | omega
                   | (have := hx.size; simp; omega)
                   | (intro v' w5 hown' hgrow _ hat
                      have hl' : xs.length = t := by have := hown.1; omega
                      have hx' : Ext w w5 := grown_ext (Ext.alloc (Ext.drewN hx _) _) (World.ownsRow.alloc (w := wr.drewN _) hown _) hgrow
                      have HXX := Lib.hid (row_step (F := fpr L P) hl' HX.out hfr)
                      have hh1 : w5.heap[g1]? = some (.cells cs1 29 (0, 0)) := grown_at hgrow (al_old (w := wr.drewN _) HH1.out) (fun e => HV1.out e.symm)
                      have hh2 : w5.heap[g2]? = some (.cells cs2 29 (0, 0)) := grown_at hgrow (al_old (w := wr.drewN _) HH2.out) (fun e => HV2.out e.symm)
                      have hv1 : v'.ownBlock ≠ some g1 := by
                        rcases hat with h1 | h1
                        · rw [h1]; exact HV1.out
                        · rw [h1]; intro e; have := Option.some.inj e; (try simp at this); omega
                      have hv2 : v'.ownBlock ≠ some g2 := by
                        rcases hat with h1 | h1
                        · rw [h1]; exact HV2.out
                        · rw [h1]; intro e; have := Option.some.inj e; (try simp at this); omega
                      have HV1 := Lib.hid hv1
                      have HV2 := Lib.hid hv2
                      have HN1 := Lib.hid (show pst L P (t + 1) = (fun j => pnu (fpr L P t) (pst L P t).2 (pst L P t).1 (j + 1), fun j => pnd (fpr L P t) (pst L P t).2 (pst L P t).1 j) from pst_next L P t)
                      generalize (pst L P t).1 = U at HR1 HN1
                      generalize (pst L P t).2 = D at HR2 HN1
                      generalize fpr L P t = R at hfr HN1
                      have HH1 := Lib.hid hh1
                      have HH2 := Lib.hid hh2
                      have HO := Lib.hid hown'
                      clear hown hgrow hat hx hh1 hh2 hv1 hv2 hown'
                      go_wp2_with (fail)
                      go_loopw [75] (fun z wz => ∃ (k : Nat) (e1 e2 : Array Value), k ≤ m ∧ z = .int .i64 k ∧ wz.heap[g1]? = some (.cells e1 29 (0, 0)) ∧ wz.heap[g2]? = some (.cells e2 29 (0, 0)) ∧ e1.size = cs1.size ∧ e2.size = cs2.size ∧ RowO e1 o1 m (pmix (pnu R D U) U k) ∧ RowO e2 0 m (pmix (pnd R D U) D k) ∧ wz.ownsRow w.heap.size 29 1 v' (t + 1) (xs ++ [.float .f32 r0]) ∧ Ext w wz) (fun z _ => m - (intOf z).toNat)
                      case atStart => exact ⟨0, cs1, cs2, Nat.zero_le _, rfl, HH1.out, HH2.out, rfl, rfl, HR1.out.keep (fun j _ => (pmix_zero _ _ j).symm), HR2.out.keep (fun j _ => (pmix_zero _ _ j).symm), by exact HO.out, (by repeat (first | assumption | exact Ext.refl _ | apply Ext.drewN | apply Ext.drew | apply Ext.alloc | (refine Ext.trans ?_ (by assumption)) | (refine Ext.set ?_ (by dsimp only; omega) _)))⟩
                      case round =>
                        obtain ⟨k, e1, e2, hk, rfl, hy1, hy2, hz1', hz2', hq1, hq2, hown, hx⟩ := hrel
                        have HQ1 := Lib.hid hq1
                        have HQ2 := Lib.hid hq2
                        have HY1 := Lib.hid hy1
                        have HY2 := Lib.hid hy2
                        have HZ1 := Lib.hid hz1'
                        have HZ2 := Lib.hid hz2'
                        have HOW := Lib.hid hown
                        clear hq1 hq2 hy1 hy2 hz1' hz2' hown
                        by_cases hlt : k < m
                        · have hlt' : (k : Int) < (m : Int) := by omega
                          obtain ⟨r3, hc3, hfz3, hf3⟩ := HQ1.out.cell HY1.out hlt
                          rw [pmix_at] at hf3
                          obtain ⟨r4, hc4, _, hf4⟩ := HQ2.out.cell0 HY2.out hlt
                          rw [pmix_at] at hf4
                          go_wp2_with (fail)
                          go_cut [13] from 78 to 94 (fun sx wx => sx = .int .i64 k ∧ ∃ e3, wx.heap[g1]? = some (.cells e3 29 (0, 0)) ∧ wx.heap[g2]? = some (.cells e2 29 (0, 0)) ∧ e3.size = cs1.size ∧ RowO e3 o1 m (pmix (pnu R D U) U (k + 1)) ∧ wx.ownsRow w.heap.size 29 1 v' (t + 1) (xs ++ [.float .f32 r0]) ∧ Ext w wx)
                          case first =>
                            refine wp_region_loose 17 (by kernel_rfl) (by kernel_rfl) ?_
                            simp only [List.take_succ_cons, List.take_zero, List.drop_succ_cons, List.drop_zero]
                            refine la_start ?_
                            refine la_fix _ (by rfl) (by intros; go_simp; rfl) ?_
                            try simp only [Act.put, List.setIfInBounds_toArray, List.set_cons_zero, List.set_cons_succ]
                            refine la_fix _ (by rfl) (by intros; go_simp; rfl) ?_
                            try simp only [Act.put, List.setIfInBounds_toArray, List.set_cons_zero, List.set_cons_succ]
                            refine la_fix _ (by rfl) (by intros; go_simp; rfl) ?_
                            try simp only [Act.put, List.setIfInBounds_toArray, List.set_cons_zero, List.set_cons_succ]
                            refine la_fix _ (by rfl) (by intros; go_simp; rfl) ?_
                            try simp only [Act.put, List.setIfInBounds_toArray, List.set_cons_zero, List.set_cons_succ]
                            refine la_fix _ (by rfl) (by intros; go_simp; rfl) ?_
                            try simp only [Act.put, List.setIfInBounds_toArray, List.set_cons_zero, List.set_cons_succ]
                            refine la_fix _ (by rfl) (by intros; go_simp; rfl) ?_
                            try simp only [Act.put, List.setIfInBounds_toArray, List.set_cons_zero, List.set_cons_succ]
                            refine la_fix _ (by rfl) (by intros; go_simp; rfl) ?_
                            try simp only [Act.put, List.setIfInBounds_toArray, List.set_cons_zero, List.set_cons_succ]
                            refine la_fix _ (by rfl) (by intros; go_simp; rfl) ?_
                            try simp only [Act.put, List.setIfInBounds_toArray, List.set_cons_zero, List.set_cons_succ]
                            refine la_fix _ (by rfl) (by intros; go_simp; rfl) ?_
                            try simp only [Act.put, List.setIfInBounds_toArray, List.set_cons_zero, List.set_cons_succ]
                            refine la_fix _ (by rfl) (by intros; go_simp; rfl) ?_
                            try simp only [Act.put, List.setIfInBounds_toArray, List.set_cons_zero, List.set_cons_succ]
                            refine la_fix _ (by rfl) (by intros; go_simp; rfl) ?_
                            try simp only [Act.put, List.setIfInBounds_toArray, List.set_cons_zero, List.set_cons_succ]
                            refine la_fop (op := .mul) (by rfl) (by rfl) (by intros; refine ⟨_, _, ?_, ?_, fun q => (by go_simp; rfl)⟩ <;> (first | assumption | exact fl_fu)) ?_
                            try simp only [Act.put, List.setIfInBounds_toArray, List.set_cons_zero, List.set_cons_succ]
                            refine la_fop (op := .sub) (by rfl) (by rfl) (by intros; refine ⟨_, _, ?_, ?_, fun q => (by go_simp; rfl)⟩ <;> (first | assumption | exact fl_fu)) ?_
                            try simp only [Act.put, List.setIfInBounds_toArray, List.set_cons_zero, List.set_cons_succ]
                            refine la_fix _ (by rfl) (by intros; go_simp; rfl) ?_
                            try simp only [Act.put, List.setIfInBounds_toArray, List.set_cons_zero, List.set_cons_succ]
                            refine la_fop (op := .sub) (by rfl) (by rfl) (by intros; refine ⟨_, _, ?_, ?_, fun q => (by go_simp; rfl)⟩ <;> (first | assumption | exact fl_fu)) ?_
                            try simp only [Act.put, List.setIfInBounds_toArray, List.set_cons_zero, List.set_cons_succ]
                            refine la_fop (op := .quo) (by rfl) (by rfl) (by intros; refine ⟨_, _, ?_, ?_, fun q => (by go_simp; rfl)⟩ <;> (first | assumption | exact fl_fu)) ?_
                            try simp only [Act.put, List.setIfInBounds_toArray, List.set_cons_zero, List.set_cons_succ]
                            refine la_fix _ (by rfl) (by intros; go_simp; rfl) ?_
                            try simp only [Act.put, List.setIfInBounds_toArray, List.set_cons_zero, List.set_cons_succ]
                            refine la_end ?_
                            intro q1 hq1 q2 hq2 q3 hq3 q4 hq4 q
                            go_wp2_with (fail)
                            go_meet
                            refine ⟨rfl, _, blk_set1 HY1.out (o1 + k) _, set_other HY2.out (Ne.symm hne), by rw [Array.size_setIfInBounds]; exact HZ1.out, RowO.set HQ1.out (by rw [HZ1.out]; exact hs1) hlt (by rw [pmix_set]; exact hq4) (fun j _ hj => pmix_other _ _ hj), owns_set (by exact HOW.out) HV1.out _, (by repeat (first | assumption | exact Ext.refl _ | apply Ext.drewN | apply Ext.drew | apply Ext.alloc | (refine Ext.trans ?_ (by assumption)) | (refine Ext.set ?_ (by dsimp only; omega) _)))⟩
                          case rest =>
                            obtain ⟨rfl, e3, hy3, hy4, hz3, hq3, hown3, hx3⟩ := hcut
                            clear hc3 hc4 hfz3 hx
                            have HQ3 := Lib.hid hq3
                            have HY3 := Lib.hid hy3
                            have HY4 := Lib.hid hy4
                            have HZ3 := Lib.hid hz3
                            have HOW3 := Lib.hid hown3
                            clear hq3 hy3 hy4 hz3 hown3
                            obtain ⟨r5, hc5, _, hf5⟩ := HQ3.out.cell HY3.out hlt
                            rw [pmix_set] at hf5
                            obtain ⟨r6, hc6, hfz6, hf6⟩ := HQ2.out.cell0 HY4.out hlt
                            rw [pmix_at] at hf6
                            go_wp2_with (fail)
                            refine wp_region_loose 17 (by kernel_rfl) (by kernel_rfl) ?_
                            simp only [List.take_succ_cons, List.take_zero, List.drop_succ_cons, List.drop_zero]
                            refine la_start ?_
                            refine la_fix _ (by rfl) (by intros; go_simp; rfl) ?_
                            try simp only [Act.put, List.setIfInBounds_toArray, List.set_cons_zero, List.set_cons_succ]
                            refine la_fix _ (by rfl) (by intros; go_simp; rfl) ?_
                            try simp only [Act.put, List.setIfInBounds_toArray, List.set_cons_zero, List.set_cons_succ]
                            refine la_fix _ (by rfl) (by intros; go_simp; rfl) ?_
                            try simp only [Act.put, List.setIfInBounds_toArray, List.set_cons_zero, List.set_cons_succ]
                            refine la_fop (op := .add) (by rfl) (by rfl) (by intros; refine ⟨_, _, ?_, ?_, fun q => (by go_simp; rfl)⟩ <;> (first | assumption | exact fl_fu)) ?_
                            try simp only [Act.put, List.setIfInBounds_toArray, List.set_cons_zero, List.set_cons_succ]
                            refine la_fix _ (by rfl) (by intros; go_simp; rfl) ?_
                            try simp only [Act.put, List.setIfInBounds_toArray, List.set_cons_zero, List.set_cons_succ]
                            refine la_fix _ (by rfl) (by intros; go_simp; rfl) ?_
                            try simp only [Act.put, List.setIfInBounds_toArray, List.set_cons_zero, List.set_cons_succ]
                            refine la_fix _ (by rfl) (by intros; go_simp; rfl) ?_
                            try simp only [Act.put, List.setIfInBounds_toArray, List.set_cons_zero, List.set_cons_succ]
                            refine la_fix _ (by rfl) (by intros; go_simp; rfl) ?_
                            try simp only [Act.put, List.setIfInBounds_toArray, List.set_cons_zero, List.set_cons_succ]
                            refine la_fop (op := .mul) (by rfl) (by rfl) (by intros; refine ⟨_, _, ?_, ?_, fun q => (by go_simp; rfl)⟩ <;> (first | assumption | exact fl_fu)) ?_
                            try simp only [Act.put, List.setIfInBounds_toArray, List.set_cons_zero, List.set_cons_succ]
                            refine la_fix _ (by rfl) (by intros; go_simp; rfl) ?_
                            try simp only [Act.put, List.setIfInBounds_toArray, List.set_cons_zero, List.set_cons_succ]
                            refine la_fix _ (by rfl) (by intros; go_simp; rfl) ?_
                            try simp only [Act.put, List.setIfInBounds_toArray, List.set_cons_zero, List.set_cons_succ]
                            refine la_fix _ (by rfl) (by intros; go_simp; rfl) ?_
                            try simp only [Act.put, List.setIfInBounds_toArray, List.set_cons_zero, List.set_cons_succ]
                            refine la_fix _ (by rfl) (by intros; go_simp; rfl) ?_
                            try simp only [Act.put, List.setIfInBounds_toArray, List.set_cons_zero, List.set_cons_succ]
                            refine la_fix _ (by rfl) (by intros; go_simp; rfl) ?_
                            try simp only [Act.put, List.setIfInBounds_toArray, List.set_cons_zero, List.set_cons_succ]
                            refine la_fop (op := .mul) (by rfl) (by rfl) (by intros; refine ⟨_, _, ?_, ?_, fun q => (by go_simp; rfl)⟩ <;> (first | assumption | exact fl_fu)) ?_
                            try simp only [Act.put, List.setIfInBounds_toArray, List.set_cons_zero, List.set_cons_succ]
                            refine la_fop (op := .sub) (by rfl) (by rfl) (by intros; refine ⟨_, _, ?_, ?_, fun q => (by go_simp; rfl)⟩ <;> (first | assumption | exact fl_fu)) ?_
                            try simp only [Act.put, List.setIfInBounds_toArray, List.set_cons_zero, List.set_cons_succ]
                            refine la_fix _ (by rfl) (by intros; go_simp; rfl) ?_
                            try simp only [Act.put, List.setIfInBounds_toArray, List.set_cons_zero, List.set_cons_succ]
                            refine la_end ?_
                            intro q1 hq1 q2 hq2 q3 hq3 q4 hq4 q
                            go_wp2_with (fail)
                            refine ⟨⟨k + 1, e3, e2.setIfInBounds k _, by omega, by go_num, set_other HY3.out hne, blk_set1 HY4.out k _, HZ3.out, by rw [Array.size_setIfInBounds]; exact HZ2.out, HQ3.out, RowO.set0 HQ2.out (by rw [HZ2.out]; exact hs2) hlt (by rw [pmix_set]; exact hq4) (fun j _ hj => pmix_other _ _ hj), owns_set (by exact HOW3.out) HV2.out _, (by repeat (first | assumption | exact Ext.refl _ | apply Ext.drewN | apply Ext.drew | apply Ext.alloc | (refine Ext.trans ?_ (by assumption)) | (refine Ext.set ?_ (by dsimp only; omega) _)))⟩, by simp [intOf]; omega⟩
                        · obtain rfl : k = m := by omega
                          obtain ⟨kk, hkk⟩ : ∃ kk, k = kk + 1 := ⟨k - 1, by omega⟩
                          have hsub : (k : Int) - 1 = (kk : Int) := by omega
                          have hwk : IntKind.i64.wrap (kk : Int) = (kk : Int) := IntWalk.i64_in _ (by omega)
                          have hkk0 : (0 : Int) ≤ (kk : Int) := by omega
                          have hk1i : (1 : Int) ≤ (k : Int) := by omega
                          have hkk1 : (k : Int) ≤ (k1 : Int) := by omega
                          have hkk2 : (kk : Int) ≤ (k2 : Int) := by omega
                          have hc1 : k - 1 = kk := by omega
                          have HKK := Lib.hid hkk
                          clear hkk
                          by_cases hs1 : s = 1
                          · subst hs1
                            go_wp2_with (fail)
                            exact ⟨⟨t + 1, 0, kk, _, by omega, by have := HKK.out; omega, by go_num, by exact HOW.out, HXX.out, HFC2.out, fun h0 => absurd h0 (Nat.lt_irrefl _), hx⟩, by simp [intOf]⟩
                          · have hk1ne : ¬ (k1 = 1) := by have := HKK.out; omega
                            obtain ⟨s', hs'⟩ : ∃ s', s = s' + 1 := ⟨s - 1, by omega⟩
                            have hss : (s : Int) - 1 = (s' : Int) := by omega
                            have hws : IntKind.i64.wrap (s' : Int) = (s' : Int) := IntWalk.i64_in _ (by omega)
                            have HS' := Lib.hid hs'
                            clear hs'
                            go_wp2_with (fail)
                            refine ⟨⟨t + 1, s', kk, _, by have := HS'.out; omega, by have := HKK.out; omega, by go_num, by exact HOW.out, HXX.out, HFC2.out, fun _ => ?_, hx⟩, by have := HS'.out; simp [intOf]; omega⟩
                            rw [HN1.out]
                            have hrow : RowO e1 o1 (kk + 1) (pnu R D U) := by rw [← HKK.out]; exact HQ1.out.keep (fun j hj => pmix_all _ _ hj)
                            have hrow2 : RowO e2 0 kk (pnd R D U) := (HQ2.out.less (show kk ≤ k by have := HKK.out; omega)).keep (fun j hj => pmix_all _ _ (by have := HKK.out; omega))
                            have hZ1 := HZ1.out
                            have hZ2 := HZ2.out
                            have hK := HKK.out
                            exact ⟨g1, o1 + 1, g2, k1 - 1, k2, e1, e2, by first | rfl | (simp [hk1ne]; done) | (simp [hk1ne]; omega), by first | rfl | (simp; done) | (simp; omega), by omega, by omega, hne, hb1, hb2, HV1.out, HV2.out, HY1.out, HY2.out, by omega, by omega, hrow.tail, hrow2⟩)
             · obtain rfl : s = 0 := by omega
               obtain rfl : t = M := by omega
               have hend := Lib.hid (okQ_yes (n := n) hV hW hX hY (show okPl L P ((t : Int).toNat) = true from allU_yes (fun j hj => HFC.out j (by omega))))
               have ho4 : OwF wr w.heap.size _ t (fpr L P) := ⟨xs, hown, HX.out⟩
               obtain ⟨A4, c4, rfl, ho5⟩ := ho4.owl
               go_wp2_with (fail)
               go_ret2
               rw [hend.out, Int.toNat_natCast]
               exact ⟨_, _, _, rfl, ho5, hx⟩)
end Go.Proofs.Ythgmkipifolbfab
