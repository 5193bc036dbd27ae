/- Contract: what is peeled of a trace, the program. Condition: the list is read, and has room for what it has. -/
import Derived.Test.YthgmkipifolbfabVd
import Derived.Test.YthgmkipifolbfabLo2
import Derived.WalkMore
import Derived.Deep.LoopGhost
namespace Go.Proofs.Ythgmkipifolbfab
open Go.RowKit Ieee

set_option maxRecDepth 20000 in
set_option maxHeartbeats 4000000 in
theorem c_cloneC {w : World} {B n c : Nat} {A : Option Addr} {L : List (Option Nat)} (h : RdF w B A n L) (hB : B ≤ w.heap.size) (hn : n ≤ 1048576) (hpos : 0 < n) :
    Calls Try.prog 62 #[.slice A n c] w fun e w' => ∃ g cs c', e = .returned (.slice (some ⟨g, 0, none⟩) n c') ∧ n ≤ c' ∧ w.heap.size ≤ g ∧ w'.heap[g]? = some (.cells cs 29 (0, 0)) ∧ n ≤ cs.size ∧ RowO cs 0 n (fun j => L.getD j none) ∧ Ext w w' := by
  obtain ⟨i0, hi, hz0, hz1, hz2⟩ := info_parts info_f32
  obtain ⟨b, off, rfl, hb, rs, hrl, hrs⟩ := h.words hpos
  have HR := Lib.hid hrs
  clear hrs
  have hnil := fun W : World => Go.Lib.run_eql_slice_nil (P := Try.prog) W 22 29 (some ⟨b, off, none⟩) n c 0 0 Try.underlying22
  go_enter Try.func62, Try.ntmps62
  go_wp2_with (at_builtin; refine wpList_append_own _ rfl _ _ 22 rfl w.heap.size 29 i0 (.float .f32 0) 1 4 Try.underlying22 hi hz0 hz1 hz2 rfl (by decide) _ _ _ rfl (World.ownsRow_made _ _ 0 (Nat.le_refl _) (Nat.zero_le _) rfl) ⟨b, off, none⟩ n c (fvals rs) rfl (by simp [fvals, hrl]) ?_ ?_ ?_ ?_ ?_ ?_)
  all_goals first
    | (intro j u hj
       have hjn : j < n := by
         rcases Nat.lt_or_ge j n with h1 | h1
         · exact h1
         · rw [List.getElem?_eq_none (by simp [fvals, hrl]; omega)] at hj; cases hj
       rw [fvals_at (by omega)] at hj
       cases hj
       have hc := (HR.out j hjn).1
       have e0 : (⟨b, off, none⟩ : Addr).add j = ⟨b, off + j, none⟩ := by simp [Addr.add]
       rw [e0]
       exact ((Ext.alloc (Ext.refl w) _).cell (by show b < _; omega)).trans hc)
    | (intro u hu; simp only [fvals, List.mem_map] at hu; obtain ⟨r, _, rfl⟩ := hu; rfl)
    | (unfold maxLen; omega)
    | omega
    | (simp; done)
    | (intro v' w4 hown' hgrow _
       have hx' : Ext w w4 := grown_ext (Ext.alloc (Ext.refl w) _) (World.ownsRow_made _ _ 0 (Nat.le_refl _) (Nat.zero_le _) rfl) hgrow
       (try rw [Nat.zero_add] at hown')
       (try rw [List.nil_append] at hown')
       obtain ⟨g, cap, cs, rfl, _, hbg, hnc, hcs, hg, hr⟩ := owns_row (F := fun j => L.getD j none) hown' hpos (fun j hj => ⟨rs.getD j 0, fvals_at (by omega), (HR.out j hj).2⟩)
       have HG := Lib.hid hg
       have HRR := Lib.hid hr
       have HC := Lib.hid hcs
       clear hg hr hcs hown' hgrow
       go_wp2_with (fail)
       go_ret
       exact ⟨g, cs, cap, by first | rfl | simp, hnc, hbg, HG.out, HC.out, HRR.out, hx'⟩)

set_option maxRecDepth 20000 in
set_option maxHeartbeats 40000000 in
theorem c_impl_PeelTrace {w : World} {B n c : Nat} {A : Option Addr} {L : List (Option Nat)} (h : RdF w B A n L) (hB : B ≤ w.heap.size) (hn : n ≤ 1048576) (hcap : n ≤ c) {p : Nat} {P : Option Nat} (fp : Fl .f32 p P) {i : Int} (_hi0 : -9223372036854775808 ≤ i) (_hi1 : i ≤ 9223372036854775807) :
    Calls Try.prog 30 #[.slice A n c, .float .f32 p, .int .i64 i] w fun e w' => RetL w e w' (okQ L P i n) (lst (fpr L P) i.toNat) := by
  cases hV : tlen n
  · go_enter Try.func30, Try.ntmps30
    go_wp2_with (fail)
    go_step3
    go_wp2_with (go_at_call 61; refine Calls.mono (c_IsTrace _ _ _ _) ?_; rw [hV]; rintro e w1 ⟨rfl, rfl⟩)
    (try rw [Exit.noGoto_ret])
    go_ret2
    exact retL_no (okQ_a hV) (by repeat (first | assumption | exact Ext.refl _ | apply Ext.drewN | apply Ext.drew | apply Ext.alloc | (refine Ext.trans ?_ (by assumption)) | (refine Ext.set ?_ (by dsimp only; omega) _)))
  cases hW : fsurf P
  · go_enter Try.func30, Try.ntmps30
    go_wp2_with (fail)
    go_step3
    go_wp2_with (first | (go_at_call 61; refine Calls.mono (c_IsTrace _ _ _ _) ?_; rw [hV]; rintro e w1 ⟨rfl, rfl⟩) | (go_at_call 57; refine Calls.mono (c_isSurface fp) ?_; rw [hW]; rintro e w1 ⟨rfl, rfl⟩))
    (try rw [Exit.noGoto_ret])
    go_ret2
    exact retL_no (okQ_b hW) (by repeat (first | assumption | exact Ext.refl _ | apply Ext.drewN | apply Ext.drew | apply Ext.alloc | (refine Ext.trans ?_ (by assumption)) | (refine Ext.set ?_ (by dsimp only; omega) _)))
  by_cases hlo : i < 1
  · go_enter Try.func30, Try.ntmps30
    go_wp2_with (fail)
    go_step3
    go_wp2_with (first | (go_at_call 61; refine Calls.mono (c_IsTrace _ _ _ _) ?_; rw [hV]; rintro e w1 ⟨rfl, rfl⟩) | (go_at_call 57; refine Calls.mono (c_isSurface fp) ?_; rw [hW]; rintro e w1 ⟨rfl, rfl⟩))
    (try rw [Exit.noGoto_ret])
    go_ret2
    exact retL_no (okQ_c (inB_lo hlo)) (by repeat (first | assumption | exact Ext.refl _ | apply Ext.drewN | apply Ext.drew | apply Ext.alloc | (refine Ext.trans ?_ (by assumption)) | (refine Ext.set ?_ (by dsimp only; omega) _)))
  obtain ⟨hn0, hn1⟩ := tlen_of hV
  obtain ⟨M, rfl⟩ : ∃ M : Nat, i = (M : Int) := ⟨i.toNat, by omega⟩
  cases hX : inB (M : Int) 1 24 && le2 (M : Int).toNat n
  · have hno : okQ L P (M : Int) n = false := by
      rw [Bool.and_eq_false_iff] at hX
      rcases hX with h1 | h1
      · exact okQ_c h1
      · exact okQ_d h1
    have hgt : 24 < (M : Int) ∨ (n : Int) < (M : Int) := by
      rw [Bool.and_eq_false_iff] at hX
      rcases hX with h1 | h1
      · have := inB_not h1; omega
      · have := le2_not h1; omega
    have hlo' : ¬ ((M : Int) < 1) := hlo
    have HNO := Lib.hid hno
    clear hno
    by_cases h24 : (n : Int) < 24
    · have hgt2 : (n : Int) < (M : Int) := by omega
      clear hgt
      go_enter Try.func30, Try.ntmps30
      go_wp2_with (fail)
      go_step3
      go_wp2_with (first | (go_at_call 61; refine Calls.mono (c_IsTrace _ _ _ _) ?_; rw [hV]; rintro e w1 ⟨rfl, rfl⟩) | (go_at_call 57; refine Calls.mono (c_isSurface fp) ?_; rw [hW]; rintro e w1 ⟨rfl, rfl⟩))
      (try rw [Exit.noGoto_ret])
      go_ret2
      exact retL_no HNO.out (by repeat (first | assumption | exact Ext.refl _ | apply Ext.drewN | apply Ext.drew | apply Ext.alloc | (refine Ext.trans ?_ (by assumption)) | (refine Ext.set ?_ (by dsimp only; omega) _)))
    · have hgt2 : 24 < (M : Int) := by omega
      clear hgt
      go_enter Try.func30, Try.ntmps30
      go_wp2_with (fail)
      go_step3
      go_wp2_with (first | (go_at_call 61; refine Calls.mono (c_IsTrace _ _ _ _) ?_; rw [hV]; rintro e w1 ⟨rfl, rfl⟩) | (go_at_call 57; refine Calls.mono (c_isSurface fp) ?_; rw [hW]; rintro e w1 ⟨rfl, rfl⟩))
      (try rw [Exit.noGoto_ret])
      go_ret2
      exact retL_no HNO.out (by repeat (first | assumption | exact Ext.refl _ | apply Ext.drewN | apply Ext.drew | apply Ext.alloc | (refine Ext.trans ?_ (by assumption)) | (refine Ext.set ?_ (by dsimp only; omega) _)))
  rw [Bool.and_eq_true] at hX
  obtain ⟨hX, hY⟩ := hX
  obtain ⟨g1, g2⟩ := inB_of hX
  have hMn : M ≤ n := by have := le2_of hY; omega
  have hlo' : ¬ ((M : Int) < 1) := hlo
  obtain ⟨X, hmin, hMX⟩ : ∃ X : Int, (if (n : Int) < 24 then (n : Int) else 24) = X ∧ ¬ (X < (M : Int)) := ⟨_, rfl, by split <;> omega⟩
  obtain ⟨i0, hi, hz0, hz1, hz2⟩ := info_parts info_f32
  go_enter Try.func30, Try.ntmps30
  go_wp2_with (fail)
  go_step3
  go_wp2_with (first | (go_at_call 61; refine Calls.mono (c_IsTrace _ _ _ _) ?_; rw [hV]; rintro e w1 ⟨rfl, rfl⟩) | (go_at_call 57; refine Calls.mono (c_isSurface fp) ?_; rw [hW]; rintro e w1 ⟨rfl, rfl⟩) | (go_at_call 62; refine Calls.mono (c_cloneC h hB hn (by omega)) ?_; rintro e wa ⟨ga, csa, ka, rfl, hka, hga, hha, hsa, hra, hxa⟩; have hgal := blk_lt hha; have HHA := Lib.hid hha; have HRA := Lib.hid hra; have HSA := Lib.hid hsa; clear hha hra hsa) | (go_at_call 63; refine Calls.mono (c_firstDown (h.below (hxa.mono hB)) (by have := hxa.size; omega) hn0 hn1 hcap fp) ?_; rintro e wb ⟨vd, rfl, ho, hxb⟩; obtain ⟨xd, hod, hFd⟩ := ho.own; obtain ⟨gd, kd, csd, rfl, _, hgd, hkd, hsd, hhd, hrd⟩ := owns_row hod (by omega) hFd; have HHD := Lib.hid hhd; have HRD := Lib.hid hrd; have HSD := Lib.hid hsd; clear hod hFd hhd hrd hsd ho))
  clear hmin hMX
  go_step3
  go_wp2_with (fail)
  have hsxa := hxa.size
  have hsxb := hxb.size
  have hxx : Ext w wb := hxa.trans hxb
  have HXB := Lib.hid hxb
  clear hxa hxb
  go_loopg [8, 9, 10] M (fun s u d v wq => ∃ (t m : Nat) (xs : List Value), t + s = M ∧ t + m = n ∧ wq.ownsRow w.heap.size 29 1 v t xs ∧ (∀ j, j < t → ∃ r, xs[j]? = some (.float .f32 r) ∧ Fl .f32 r (fpr L P j)) ∧ (∀ j, j < t → fcoef (fpr L P j) = true) ∧ (0 < s → PlS wq w.heap.size u d v m (pst L P t).1 (pst L P t).2) ∧ Ext w wq)
  case atStart =>
    refine ⟨0, n, [], by omega, by omega, World.ownsRow_nil _ _ _ _, fun j hj => absurd hj (Nat.not_lt_zero _), fun j hj => absurd hj (Nat.not_lt_zero _), fun _ => ?_, hxx⟩
    exact ⟨ga, 0, gd, ka, kd, csa, csd, rfl, rfl, hka, hkd, by omega, hga, by omega, (by intro e; cases e), (by intro e; cases e), HXB.out.blk HHA.out, HHD.out, by have := HSA.out; omega, HSD.out, HRA.out, HRD.out⟩
  case round =>
    obtain ⟨t, m, xs, hts, htm, hown, hxs, hfc, hpl, hx⟩ := hrel
    have HX := Lib.hid hxs
    have HFC := Lib.hid hfc
    clear hxs hfc
    have ho4 : OwF wr w.heap.size _ t (fpr L P) := ⟨xs, hown, HX.out⟩
    obtain ⟨A4, c4, rfl, ho5⟩ := ho4.owl
    cases gk with
    | zero =>
      obtain rfl : t = M := by omega
      have hend := Lib.hid (okQ_yes (n := n) hV hW hX hY (show okPl L P ((t : Int).toNat) = true from allU_yes (fun j hj => HFC.out j (by omega))))
      go_wp2_with (fail)
      (try rw [Exit.noGoto_ret])
      go_ret2
      rw [hend.out, Int.toNat_natCast]
      exact ⟨_, _, _, rfl, ho5, hx⟩
    | succ s =>
      have htM : (t : Int) < (M : Int) := by omega
      obtain ⟨g1, o1, g2, k1, k2, cs1, cs2, rfl, rfl, hk1, hk2, hne, hb1, hb2, hv1, hv2, hh1, hh2, hs1, hs2, hr1, hr2⟩ := hpl (by omega)
      obtain ⟨mm, hmm⟩ : ∃ mm, m = mm + 1 := ⟨m - 1, by omega⟩
      have hm0 : 0 < m := by omega
      have hm0' : (0 : Int) < (m : Int) := by omega
      have hsub : (m : Int) - 1 = (mm : Int) := by omega
      have hwm : IntKind.i64.wrap (mm : Int) = (mm : Int) := IntWalk.i64_in _ (by omega)
      obtain ⟨r1, hc1, _, hf1⟩ := hr1.cell hh1 hm0
      rw [Nat.add_zero] at hc1
      obtain ⟨r2, hc2, _, hf2⟩ := hr2.cell0 hh2 hm0
      obtain ⟨Rq, Nq, qq, fq⟩ := fop_rule (P := Try.prog) (op := .quo) rfl hf1 hf2 29
      have FQ := Lib.hid fq
      have hg1l := blk_lt hh1
      have hg2l := blk_lt hh2
      have HR1 := Lib.hid hr1
      have HR2 := Lib.hid hr2
      have HH1 := Lib.hid hh1
      have HH2 := Lib.hid hh2
      have HV1 := Lib.hid hv1
      have HV2 := Lib.hid hv2
      have HMM := Lib.hid hmm
      clear fq hr1 hr2 hh1 hh2 hv1 hv2 hf1 hf2 hpl hmm ho4 ho5
      go_wp2_with (fail)
      go_region_held (fun W => W.cell? ⟨g1, o1, none⟩ = some (.float .f32 r1) ∧ W.cell? ⟨g2, 0, none⟩ = some (.float .f32 r2)) (exact ⟨hc1, hc2⟩) (fail)
      have hfr : Fl .f32 (Rq wr.drew) (fpr L P t) := FQ.out wr.drew
      clear qq hc1 hc2
      generalize Nq wr.drew = n0 at *
      generalize Rq wr.drew = r0 at *
      cases hF : fcoef (fpr L P t)
      · have hend := Lib.hid (okQ_e (n := n) (i := (M : Int)) (okPl_no (m := (M : Int).toNat) (by omega) hF))
        go_wp2_with (go_at_call 50; refine Calls.mono (c_isCoefficient hfr) ?_; rw [hF]; rintro e w1 ⟨rfl, rfl⟩)
        (try rw [Exit.noGoto_ret])
        go_ret2
        exact retL_no hend.out (by repeat (first | assumption | exact Ext.refl _ | apply Ext.drewN | apply Ext.drew | apply Ext.alloc | (refine Ext.trans ?_ (by assumption)) | (refine Ext.set ?_ (by dsimp only; omega) _)))
      · have HFC2 := Lib.hid (okPl_next HFC.out hF)
        go_wp2_with (first | (go_at_call 50; refine Calls.mono (c_isCoefficient hfr) ?_; rw [hF]; rintro e w1 ⟨rfl, rfl⟩) | (at_builtin; refine wpList_append_own_at _ rfl _ _ 22 rfl w.heap.size 29 i0 (.float .f32 0) 1 4 Try.underlying22 hi hz0 hz1 hz2 rfl (by decide) _ _ _ rfl (World.ownsRow.alloc (w := wr.drewN _) hown _) ⟨wr.heap.size, 0, none⟩ 1 1 [.float .f32 r0] rfl rfl ?_ ?_ ?_ ?_ ?_ ?_))
        all_goals first
          | exact one_new (w := wr.drewN _)
          | (intro u hu; simp at hu; subst hu; rfl)
          | (unfold maxLen; omega)
          | omega
          | (have := hx.size; simp; omega)
          | (intro v' w5 hown' hgrow _ hat
             have hl' : xs.length = t := by have := hown.1; omega
             have hx' : Ext w w5 := grown_ext (Ext.alloc (Ext.drewN hx _) _) (World.ownsRow.alloc (w := wr.drewN _) hown _) hgrow
             have HXX := Lib.hid (row_step (F := fpr L P) hl' HX.out hfr)
             have hh1 : w5.heap[g1]? = some (.cells cs1 29 (0, 0)) := grown_at hgrow (al_old (w := wr.drewN _) HH1.out) (fun e => HV1.out e.symm)
             have hh2 : w5.heap[g2]? = some (.cells cs2 29 (0, 0)) := grown_at hgrow (al_old (w := wr.drewN _) HH2.out) (fun e => HV2.out e.symm)
             have hv1 : v'.ownBlock ≠ some g1 := by
               rcases hat with h1 | h1
               · rw [h1]; exact HV1.out
               · rw [h1]; intro e; have := Option.some.inj e; (try simp at this); omega
             have hv2 : v'.ownBlock ≠ some g2 := by
               rcases hat with h1 | h1
               · rw [h1]; exact HV2.out
               · rw [h1]; intro e; have := Option.some.inj e; (try simp at this); omega
             have hg1l := blk_lt hh1
             have hg2l := blk_lt hh2
             have hp0 : w.heap.size ≤ w5.heap.size := hx'.size
             have HV1 := Lib.hid hv1
             have HV2 := Lib.hid hv2
             have HN1 := Lib.hid (show pst L P (t + 1) = (fun j => pnu (fpr L P t) (pst L P t).2 (pst L P t).1 (j + 1), fun j => pnd (fpr L P t) (pst L P t).2 (pst L P t).1 j) from pst_next L P t)
             generalize (pst L P t).1 = U at HR1 HN1
             generalize (pst L P t).2 = D at HR2 HN1
             generalize fpr L P t = R at hfr HN1
             have HH1 := Lib.hid hh1
             have HH2 := Lib.hid hh2
             have HO := Lib.hid hown'
             have hob : ∀ b, v'.ownBlock = some b → b < w5.heap.size := fun b hb => own_lt hown' hb
             have HOB := Lib.hid hob
             clear hown hgrow hat hx hh1 hh2 hv1 hv2 hown' hob
             go_wp2_with (first | (go_at_call 64; refine Calls.mono c_belOf ?_; rintro e w_1 ⟨rfl, rfl⟩) | (go_at_call 65; refine Calls.mono c_dnOf ?_; rintro e w_1 ⟨rfl, rfl⟩))
             go_loopg [8, 9, 67] m (fun q su sd z wz => ∃ (k : Nat) (e1 e2 : Array Value), k + q = m ∧ 0 < q ∧ su = .slice (some ⟨g1, o1, none⟩) m k1 ∧ sd = .slice (some ⟨g2, 0, none⟩) m k2 ∧ z = .int .i64 k ∧ wz.heap[g1]? = some (.cells e1 29 (0, 0)) ∧ wz.heap[g2]? = some (.cells e2 29 (0, 0)) ∧ e1.size = cs1.size ∧ e2.size = cs2.size ∧ RowO e1 o1 m (pmix (pnu R D U) U k) ∧ RowO e2 0 m (pmix (pnd R D U) D k) ∧ wz.ownsRow w.heap.size 29 1 v' (t + 1) (xs ++ [.float .f32 r0]) ∧ wz.heap[w5.heap.size]? = some (.cells #[.float .f32 r0] 29 (0, 0)) ∧ wz.heap[w5.heap.size + 1]? = some (.cells #[.float .f32 r0] 29 (0, 0)) ∧ Ext w wz)
             case atStart => exact ⟨0, cs1, cs2, by omega, hm0, rfl, rfl, rfl, al_old (al_old HH1.out), al_old (al_old HH2.out), rfl, rfl, HR1.out.keep (fun j _ => (pmix_zero _ _ j).symm), HR2.out.keep (fun j _ => (pmix_zero _ _ j).symm), by exact World.ownsRow.alloc (World.ownsRow.alloc HO.out _) _, al_old (al_at rfl rfl), al_at (al_size _ _).symm rfl, (by repeat (first | assumption | exact Ext.refl _ | apply Ext.drewN | apply Ext.drew | apply Ext.alloc | (refine Ext.trans ?_ (by assumption)) | (refine Ext.set ?_ (by dsimp only; omega) _)))⟩
             case round =>
               obtain ⟨k, e1, e2, hkq, hq0, rfl, rfl, rfl, hy1, hy2, hz1', hz2', hq1, hq2, hown, hpb, hpd, hx⟩ := hrel
               have HQ1 := Lib.hid hq1
               have HQ2 := Lib.hid hq2
               have HY1 := Lib.hid hy1
               have HY2 := Lib.hid hy2
               have HZ1 := Lib.hid hz1'
               have HZ2 := Lib.hid hz2'
               have HOW := Lib.hid hown
               have HPB := Lib.hid hpb
               have HPD := Lib.hid hpd
               clear hq1 hq2 hy1 hy2 hz1' hz2' hown hpb hpd
               have hlt : k < m := by omega
               have hlt' : (k : Int) < (m : Int) := by omega
               obtain ⟨r3, hc3, hfz3, hf3⟩ := HQ1.out.cell HY1.out hlt
               rw [pmix_at] at hf3
               obtain ⟨r4, hc4, _, hf4⟩ := HQ2.out.cell0 HY2.out hlt
               rw [pmix_at] at hf4
               go_wp2_with (fail)
               go_cut [15] from 70 to 82 (fun sx wx => sx = .int .i64 k ∧ ∃ e3, wx.heap[g1]? = some (.cells e3 29 (0, 0)) ∧ wx.heap[g2]? = some (.cells e2 29 (0, 0)) ∧ e3.size = cs1.size ∧ RowO e3 o1 m (pmix (pnu R D U) U (k + 1)) ∧ wx.ownsRow w.heap.size 29 1 v' (t + 1) (xs ++ [.float .f32 r0]) ∧ wx.heap[w5.heap.size]? = some (.cells #[.float .f32 r0] 29 (0, 0)) ∧ wx.heap[w5.heap.size + 1]? = some (.cells #[.float .f32 r0] 29 (0, 0)) ∧ Ext w wx)
               case first =>
                 refine wp_region_loose 13 (by kernel_rfl) (by kernel_rfl) ?_
                 simp only [List.take_succ_cons, List.take_zero, List.drop_succ_cons, List.drop_zero]
                 refine la_start ?_
                 refine la_fix _ (by rfl) (by intros; go_simp; rfl) ?_
                 try simp only [Act.put, List.setIfInBounds_toArray, List.set_cons_zero, List.set_cons_succ]
                 refine la_fix _ (by rfl) (by intros; go_simp; rfl) ?_
                 try simp only [Act.put, List.setIfInBounds_toArray, List.set_cons_zero, List.set_cons_succ]
                 refine la_fix _ (by rfl) (by intros; go_simp; rfl) ?_
                 try simp only [Act.put, List.setIfInBounds_toArray, List.set_cons_zero, List.set_cons_succ]
                 refine la_fix _ (by rfl) (by intros; go_simp; rfl) ?_
                 try simp only [Act.put, List.setIfInBounds_toArray, List.set_cons_zero, List.set_cons_succ]
                 refine la_fix _ (by rfl) (by intros; go_simp; rfl) ?_
                 try simp only [Act.put, List.setIfInBounds_toArray, List.set_cons_zero, List.set_cons_succ]
                 refine la_fix _ (by rfl) (by intros; go_simp; rfl) ?_
                 try simp only [Act.put, List.setIfInBounds_toArray, List.set_cons_zero, List.set_cons_succ]
                 refine la_fix _ (by rfl) (by intros; go_simp; rfl) ?_
                 try simp only [Act.put, List.setIfInBounds_toArray, List.set_cons_zero, List.set_cons_succ]
                 refine la_fix _ (by rfl) (by intros; go_simp; rfl) ?_
                 try simp only [Act.put, List.setIfInBounds_toArray, List.set_cons_zero, List.set_cons_succ]
                 refine la_fix _ (by rfl) (by intros; go_simp; rfl) ?_
                 try simp only [Act.put, List.setIfInBounds_toArray, List.set_cons_zero, List.set_cons_succ]
                 refine la_fix _ (by rfl) (by intros; go_simp; rfl) ?_
                 try simp only [Act.put, List.setIfInBounds_toArray, List.set_cons_zero, List.set_cons_succ]
                 refine la_fix _ (by rfl) (by intros; go_simp; rfl) ?_
                 try simp only [Act.put, List.setIfInBounds_toArray, List.set_cons_zero, List.set_cons_succ]
                 refine la_callF (k := .f32) (by rfl) (by intros; refine ⟨_, fun q => (by go_simp; first | rfl | exact ⟨rfl, rfl⟩), fun q => ?_⟩; exact c_bel1 (by exact cell1' HPB.out) hfr hf4 hf3) ?_
                 try simp only [Act.put, List.setIfInBounds_toArray, List.set_cons_zero, List.set_cons_succ]
                 refine la_fix _ (by rfl) (by intros; go_simp; rfl) ?_
                 try simp only [Act.put, List.setIfInBounds_toArray, List.set_cons_zero, List.set_cons_succ]
                 refine la_end ?_
                 intro q5 hq5 q
                 go_wp2_with (fail)
                 go_meet
                 refine ⟨rfl, _, blk_set1 HY1.out (o1 + k) _, set_other HY2.out (Ne.symm hne), by rw [Array.size_setIfInBounds]; exact HZ1.out, RowO.set HQ1.out (by rw [HZ1.out]; exact hs1) hlt (by rw [pmix_set]; exact hq5) (fun j _ hj => pmix_other _ _ hj), owns_set (by exact HOW.out) HV1.out _, set_other HPB.out (by dsimp only; omega), set_other HPD.out (by dsimp only; omega), (by repeat (first | assumption | exact Ext.refl _ | apply Ext.drewN | apply Ext.drew | apply Ext.alloc | (refine Ext.trans ?_ (by assumption)) | (refine Ext.set ?_ (by dsimp only; omega) _)))⟩
               case rest =>
                 obtain ⟨rfl, e3, hy3, hy4, hz3, hq3, hown3, hpb3, hpd3, hx3⟩ := hcut
                 clear hc3 hc4 hfz3 hx
                 have HQ3 := Lib.hid hq3
                 have HY3 := Lib.hid hy3
                 have HY4 := Lib.hid hy4
                 have HZ3 := Lib.hid hz3
                 have HOW3 := Lib.hid hown3
                 have HPB3 := Lib.hid hpb3
                 have HPD3 := Lib.hid hpd3
                 clear hq3 hy3 hy4 hz3 hown3 hpb3 hpd3
                 by_cases hkl : k = mm
                 · have hkl' : (k : Int) = (mm : Int) := by omega
                   subst hkl
                   have hZ1 := HZ3.out
                   have hZ2 := HZ2.out
                   have hK := HMM.out
                   have hb0 : (0 : Int) ≤ (k : Int) := by omega
                   have hb1i : (1 : Int) ≤ (m : Int) := by omega
                   have hbk1 : (m : Int) ≤ (k1 : Int) := by omega
                   have hbk2 : (k : Int) ≤ (k2 : Int) := by omega
                   have hmk : m - 1 = k := by omega
                   have hrow : RowO e3 o1 (k + 1) (pnu R D U) := by rw [← hK]; exact (HQ3.out.keep (fun j hj => pmix_all _ _ (by omega)))
                   have hrow2 : RowO e2 0 k (pnd R D U) := (HQ2.out.less (show k ≤ m by omega)).keep (fun j hj => pmix_all _ _ hj)
                   have HROW := Lib.hid hrow
                   have HROW2 := Lib.hid hrow2
                   have HZ := Lib.hid hZ1
                   have HZZ := Lib.hid hZ2
                   have HK := Lib.hid hK
                   clear hrow hrow2 hZ1 hZ2 hK
                   by_cases hk0 : k = 0
                   · have hs0 : s = 0 := by have := HK.out; omega
                     go_wp2_with (fail)
                     refine wp_region_loose 11 (by kernel_rfl) (by kernel_rfl) ?_
                     simp only [List.take_succ_cons, List.take_zero, List.drop_succ_cons, List.drop_zero]
                     refine la_start ?_
                     refine la_fix _ (by rfl) (by intros; go_simp; rfl) ?_
                     try simp only [Act.put, List.setIfInBounds_toArray, List.set_cons_zero, List.set_cons_succ]
                     refine la_fix _ (by rfl) (by intros; go_simp; rfl) ?_
                     try simp only [Act.put, List.setIfInBounds_toArray, List.set_cons_zero, List.set_cons_succ]
                     refine la_fix _ (by rfl) (by intros; go_simp; rfl) ?_
                     try simp only [Act.put, List.setIfInBounds_toArray, List.set_cons_zero, List.set_cons_succ]
                     refine la_fix _ (by rfl) (by intros; go_simp; rfl) ?_
                     try simp only [Act.put, List.setIfInBounds_toArray, List.set_cons_zero, List.set_cons_succ]
                     refine la_fix _ (by rfl) (by intros; go_simp; rfl) ?_
                     try simp only [Act.put, List.setIfInBounds_toArray, List.set_cons_zero, List.set_cons_succ]
                     refine la_fix _ (by rfl) (by intros; go_simp; rfl) ?_
                     try simp only [Act.put, List.setIfInBounds_toArray, List.set_cons_zero, List.set_cons_succ]
                     refine la_fix _ (by rfl) (by intros; go_simp; rfl) ?_
                     try simp only [Act.put, List.setIfInBounds_toArray, List.set_cons_zero, List.set_cons_succ]
                     refine la_fix _ (by rfl) (by intros; go_simp; rfl) ?_
                     try simp only [Act.put, List.setIfInBounds_toArray, List.set_cons_zero, List.set_cons_succ]
                     refine la_fix _ (by rfl) (by intros; go_simp; rfl) ?_
                     try simp only [Act.put, List.setIfInBounds_toArray, List.set_cons_zero, List.set_cons_succ]
                     refine la_fix _ (by rfl) (by intros; go_simp; rfl) ?_
                     try simp only [Act.put, List.setIfInBounds_toArray, List.set_cons_zero, List.set_cons_succ]
                     refine la_fix _ (by rfl) (by intros; go_simp; rfl) ?_
                     try simp only [Act.put, List.setIfInBounds_toArray, List.set_cons_zero, List.set_cons_succ]
                     refine la_end ?_
                     intro q
                     go_wp2_with (fail)
                     go_roundg s
                     case measure => omega
                     case rel => exact ⟨t + 1, k, _, by omega, by have := HK.out; omega, by exact HOW3.out, HXX.out, HFC2.out, fun h0 => absurd h0 (by omega), (by repeat (first | assumption | exact Ext.refl _ | apply Ext.drewN | apply Ext.drew | apply Ext.alloc | (refine Ext.trans ?_ (by assumption)) | (refine Ext.set ?_ (by dsimp only; omega) _)))⟩
                   · have hm1 : ¬ (m = 1) := by have := HK.out; omega
                     have hk0' : ¬ (0 = k) := by omega
                     go_wp2_with (fail)
                     refine wp_region_loose 11 (by kernel_rfl) (by kernel_rfl) ?_
                     simp only [List.take_succ_cons, List.take_zero, List.drop_succ_cons, List.drop_zero]
                     refine la_start ?_
                     refine la_fix _ (by rfl) (by intros; go_simp; rfl) ?_
                     try simp only [Act.put, List.setIfInBounds_toArray, List.set_cons_zero, List.set_cons_succ]
                     refine la_fix _ (by rfl) (by intros; go_simp; rfl) ?_
                     try simp only [Act.put, List.setIfInBounds_toArray, List.set_cons_zero, List.set_cons_succ]
                     refine la_fix _ (by rfl) (by intros; go_simp; rfl) ?_
                     try simp only [Act.put, List.setIfInBounds_toArray, List.set_cons_zero, List.set_cons_succ]
                     refine la_fix _ (by rfl) (by intros; go_simp; rfl) ?_
                     try simp only [Act.put, List.setIfInBounds_toArray, List.set_cons_zero, List.set_cons_succ]
                     refine la_fix _ (by rfl) (by intros; go_simp; rfl) ?_
                     try simp only [Act.put, List.setIfInBounds_toArray, List.set_cons_zero, List.set_cons_succ]
                     refine la_fix _ (by rfl) (by intros; go_simp; rfl) ?_
                     try simp only [Act.put, List.setIfInBounds_toArray, List.set_cons_zero, List.set_cons_succ]
                     refine la_fix _ (by rfl) (by intros; go_simp; rfl) ?_
                     try simp only [Act.put, List.setIfInBounds_toArray, List.set_cons_zero, List.set_cons_succ]
                     refine la_fix _ (by rfl) (by intros; go_simp; rfl) ?_
                     try simp only [Act.put, List.setIfInBounds_toArray, List.set_cons_zero, List.set_cons_succ]
                     refine la_fix _ (by rfl) (by intros; go_simp; rfl) ?_
                     try simp only [Act.put, List.setIfInBounds_toArray, List.set_cons_zero, List.set_cons_succ]
                     refine la_fix _ (by rfl) (by intros; go_simp; rfl) ?_
                     try simp only [Act.put, List.setIfInBounds_toArray, List.set_cons_zero, List.set_cons_succ]
                     refine la_fix _ (by rfl) (by intros; go_simp; rfl) ?_
                     try simp only [Act.put, List.setIfInBounds_toArray, List.set_cons_zero, List.set_cons_succ]
                     refine la_end ?_
                     intro q
                     go_wp2_with (fail)
                     go_roundg s
                     case measure => omega
                     case rel =>
                       refine ⟨t + 1, k, _, by omega, by have := HK.out; omega, by exact HOW3.out, HXX.out, HFC2.out, fun _ => ?_, (by repeat (first | assumption | exact Ext.refl _ | apply Ext.drewN | apply Ext.drew | apply Ext.alloc | (refine Ext.trans ?_ (by assumption)) | (refine Ext.set ?_ (by dsimp only; omega) _)))⟩
                       rw [HN1.out]
                       have hZ1 := HZ.out
                       have hZ2 := HZZ.out
                       have hK := HK.out
                       exact ⟨g1, o1 + 1, g2, m - 1, k, e3, e2, by first | rfl | (simp [hmk]; done) | (simp [hm1]; omega), by first | rfl | (simp [hk0]; done) | (simp [hk0, hk0']; omega), by omega, Nat.le_refl _, hne, hb1, hb2, HV1.out, HV2.out, HY3.out, HY4.out, by omega, by omega, HROW.out.tail, HROW2.out⟩
                 · have hkl' : ¬ (k : Int) = (mm : Int) := by omega
                   obtain ⟨r5, hc5, _, hf5⟩ := HQ3.out.cell HY3.out hlt
                   rw [pmix_set] at hf5
                   obtain ⟨r6, hc6, hfz6, hf6⟩ := HQ2.out.cell0 HY4.out hlt
                   rw [pmix_at] at hf6
                   go_wp2_with (fail)
                   refine wp_region_loose 13 (by kernel_rfl) (by kernel_rfl) ?_
                   simp only [List.take_succ_cons, List.take_zero, List.drop_succ_cons, List.drop_zero]
                   refine la_start ?_
                   refine la_fix _ (by rfl) (by intros; go_simp; rfl) ?_
                   try simp only [Act.put, List.setIfInBounds_toArray, List.set_cons_zero, List.set_cons_succ]
                   refine la_fix _ (by rfl) (by intros; go_simp; rfl) ?_
                   try simp only [Act.put, List.setIfInBounds_toArray, List.set_cons_zero, List.set_cons_succ]
                   refine la_fix _ (by rfl) (by intros; go_simp; rfl) ?_
                   try simp only [Act.put, List.setIfInBounds_toArray, List.set_cons_zero, List.set_cons_succ]
                   refine la_fix _ (by rfl) (by intros; go_simp; rfl) ?_
                   try simp only [Act.put, List.setIfInBounds_toArray, List.set_cons_zero, List.set_cons_succ]
                   refine la_fix _ (by rfl) (by intros; go_simp; rfl) ?_
                   try simp only [Act.put, List.setIfInBounds_toArray, List.set_cons_zero, List.set_cons_succ]
                   refine la_fix _ (by rfl) (by intros; go_simp; rfl) ?_
                   try simp only [Act.put, List.setIfInBounds_toArray, List.set_cons_zero, List.set_cons_succ]
                   refine la_fix _ (by rfl) (by intros; go_simp; rfl) ?_
                   try simp only [Act.put, List.setIfInBounds_toArray, List.set_cons_zero, List.set_cons_succ]
                   refine la_fix _ (by rfl) (by intros; go_simp; rfl) ?_
                   try simp only [Act.put, List.setIfInBounds_toArray, List.set_cons_zero, List.set_cons_succ]
                   refine la_fix _ (by rfl) (by intros; go_simp; rfl) ?_
                   try simp only [Act.put, List.setIfInBounds_toArray, List.set_cons_zero, List.set_cons_succ]
                   refine la_fix _ (by rfl) (by intros; go_simp; rfl) ?_
                   try simp only [Act.put, List.setIfInBounds_toArray, List.set_cons_zero, List.set_cons_succ]
                   refine la_fix _ (by rfl) (by intros; go_simp; rfl) ?_
                   try simp only [Act.put, List.setIfInBounds_toArray, List.set_cons_zero, List.set_cons_succ]
                   refine la_callF (k := .f32) (by rfl) (by intros; refine ⟨_, fun q => (by go_simp; first | rfl | exact ⟨rfl, rfl⟩), fun q => ?_⟩; exact c_dn1 (by exact cell1' HPD3.out) hfr hf6 hf5) ?_
                   try simp only [Act.put, List.setIfInBounds_toArray, List.set_cons_zero, List.set_cons_succ]
                   refine la_fix _ (by rfl) (by intros; go_simp; rfl) ?_
                   try simp only [Act.put, List.setIfInBounds_toArray, List.set_cons_zero, List.set_cons_succ]
                   refine la_end ?_
                   intro q7 hq7 q
                   go_wp2_with (fail)
                   go_roundg (m - (k + 1))
                   case measure => omega
                   case rel => exact ⟨k + 1, e3, e2.setIfInBounds k _, by omega, by have := HMM.out; omega, rfl, rfl, by go_num, set_other HY3.out hne, blk_set1 HY4.out k _, HZ3.out, by rw [Array.size_setIfInBounds]; exact HZ2.out, HQ3.out, RowO.set0 HQ2.out (by rw [HZ2.out]; exact hs2) hlt (by rw [pmix_set]; exact hq7) (fun j _ hj => pmix_other _ _ hj), owns_set (by exact HOW3.out) HV2.out _, set_other HPB3.out (by dsimp only; omega), set_other HPD3.out (by dsimp only; omega), (by repeat (first | assumption | exact Ext.refl _ | apply Ext.drewN | apply Ext.drew | apply Ext.alloc | (refine Ext.trans ?_ (by assumption)) | (refine Ext.set ?_ (by dsimp only; omega) _)))⟩)
end Go.Proofs.Ythgmkipifolbfab
