/- Contract: waves half a sample later. Condition: the lists are read. -/
import Derived.Test.YthgmkipifolbfabUw
namespace Go.Proofs.Ythgmkipifolbfab
open Go.RowKit Ieee

theorem st_alloc {W : World} {g k : Nat} {u : Value} {cs : Array Value} {t : TypeId} (hg : W.heap[g]? = some (.cells cs t (0, 0))) (e : W.cell? ⟨g, k, none⟩ = some u) :
    (∀ o, (W.alloc o).cell? ⟨g, k, none⟩ = some u) ∧ (∀ o, (W.drew.alloc o).cell? ⟨g, k, none⟩ = some u) ∧ (∀ o, (W.alloc o).frozen? ⟨g, k, none⟩ = false) ∧ (∀ o, (W.drew.alloc o).frozen? ⟨g, k, none⟩ = false) :=
  ⟨fun o => ((Ext.alloc (Ext.refl W) o).cell (blk_lt hg)).trans e, fun o => ((Ext.alloc (Ext.drew (Ext.refl W)) o).cell (blk_lt hg)).trans e,
    fun o => by simp [World.frozen?, al_old hg], fun o => by simp [World.frozen?, al_old (w := W.drew) hg]⟩

set_option maxRecDepth 20000 in
set_option maxHeartbeats 4000000 in
theorem c_stepWaves {w : World} {B n c : Nat} {A : Option Addr} {L : List (Option Nat)} (h : RdF w B A n L) (hB : B ≤ w.heap.size) (hn : n ≤ 24) {N : Nat} (hN : N = n + 1) {BD cD : Nat} {AD : Option Addr} {D : List (Option Nat)} (hD : RdF w BD AD N D) (hBD : BD ≤ w.heap.size) {BU cU : Nat} {AU : Option Addr} {U : List (Option Nat)} (hU : RdF w BU AU N U) (hBU : BU ≤ w.heap.size) {s : Nat} {S : Option Nat} (fs : Fl .f32 s S) :
    Calls Try.prog 58 #[.slice A n c, .slice AD N cD, .slice AU N cU, .float .f32 s] w fun e w' => ∃ g1 g2 c1 c2, e = .returned (.tuple #[.slice (some ⟨g1, 0, none⟩) N N, .slice (some ⟨g2, 0, none⟩) N N]) ∧ w.heap.size ≤ g1 ∧ w.heap.size ≤ g2 ∧ w'.heap[g1]? = some (.cells c1 29 (0, 0)) ∧ w'.heap[g2]? = some (.cells c2 29 (0, 0)) ∧ c1.size = N ∧ c2.size = N ∧ RowF c1 N (stD L D U S) ∧ RowF c2 N (stU L D U) ∧ Ext w w' := by
  have hl := Lib.hid h.len
  have hNi : (n : Int) + 1 = (N : Int) := by omega
  have HN := Lib.hid hN
  have hN1 : 0 < N ∧ N ≤ 25 ∧ n < N := by omega
  obtain ⟨hN0, hN2, hN3⟩ := hN1
  clear hN
  have hmk := fun W => run_make_row' (P := Try.prog) 22 29 (.float .f32 0) 4 Try.underlying22 info_f32 rfl .i64 .i64 N (by omega) (by omega) W
  go_enter Try.func58, Try.ntmps58
  go_wp2_with (fail)
  go_region_with (fail)
  · go_wp2_with (fail)
    have hne : w.heap.size ≠ (w.heap.size + 1) := by omega
    have hgd0 : w.heap.size ≤ w.heap.size := by omega
    have hgu0 : w.heap.size ≤ (w.heap.size + 1) := by omega
    go_loopw [22] (fun y wr => ∃ (k : Nat) (cd cu : Array Value), k ≤ n ∧ y = .int .i64 k ∧ wr.heap[w.heap.size]? = some (.cells cd 29 (0, 0)) ∧ wr.heap[(w.heap.size + 1)]? = some (.cells cu 29 (0, 0)) ∧ cd.size = N ∧ cu.size = N ∧ RowF cd N (stDk L D U k) ∧ RowF cu N (fsetK (stU L D U) k) ∧ Ext w wr) (fun y _ => n - (intOf y).toNat)
    case atStart => exact ⟨0, _, _, Nat.zero_le _, rfl, by exact al_old (w := w.alloc _) (heap_alloc_new w _), by exact al_at (w := w.alloc _) (al_size w _).symm rfl, size_madeCells _ _, size_madeCells _ _, RowF.made (fun j _ => stDk_zero L D U j), RowF.made (fun j _ => fsetK_zero _ j), (by repeat (first | assumption | exact Ext.refl _ | apply Ext.drewN | apply Ext.drew | apply Ext.alloc | (refine Ext.trans ?_ (by assumption)) | (refine Ext.set ?_ (by dsimp only; omega) _)))⟩
    case round =>
      obtain ⟨k, cd, cu, hk, rfl, hgd, hgu, hsd, hsu, hrd, hru, hx⟩ := hrel
      have HRD := Lib.hid hrd
      have HRU := Lib.hid hru
      have HGD := Lib.hid hgd
      have HGU := Lib.hid hgu
      have HSD := Lib.hid hsd
      have HSU := Lib.hid hsu
      clear hrd hru hgd hgu hsd hsu
      by_cases hlt : k < n
      · have hlt' : (k : Int) < (n : Int) := by omega
        have hltN : (k : Int) < (N : Int) := by omega
        obtain ⟨m, hm⟩ : ∃ m, m = k + 1 := ⟨_, rfl⟩
        have hmk2 : (k : Int) + 1 = (m : Int) := by omega
        have hwr : IntKind.i64.wrap (m : Int) = (m : Int) := IntWalk.i64_in _ (by omega)
        have hmN : (m : Int) < (N : Int) := by omega
        obtain ⟨b1, o1, t1, rfl, hb1, hc1, ht1⟩ := (h.below (hx.mono hB)).cell hlt
        obtain ⟨b2, o2, t2, hA2, hb2, hc2, ht2⟩ := hD.cell (show k < N by omega)
        obtain ⟨b3, o3, t3, hA3, hb3, hc3, ht3⟩ := hU.cell (show m < N by omega)
        have hb2w : b2 < w.heap.size := by omega
        have hb3w : b3 < w.heap.size := by omega
        subst hA2
        subst hA3
        obtain ⟨u0, e0, z0⟩ := own_cell HGU.out HSU.out (show k < N by omega)
        obtain ⟨hst1, hst2, hfz1, hfz2⟩ := st_alloc HGU.out e0
        have hT := stU_at (D := D) (U := U) hl.out hlt
        rw [← hm] at hT
        have HT := Lib.hid hT
        have HM := Lib.hid hm
        clear hT hm
        go_wp2_with (fail)
        go_cut [12] from 27 to 41 (fun sx wx => sx = .int .i64 k ∧ ∃ cu', wx.heap[(w.heap.size + 1)]? = some (.cells cu' 29 (0, 0)) ∧ wx.heap[w.heap.size]? = some (.cells cd 29 (0, 0)) ∧ cu'.size = N ∧ RowF cu' N (fsetK (stU L D U) (k + 1)) ∧ Ext w wx)
        case first =>
          go_region_held (fun W => W.cell? ⟨b2, o2 + k, none⟩ = some (.float .f32 t2) ∧ W.cell? ⟨b3, o3 + m, none⟩ = some (.float .f32 t3)) (exact ⟨(Below.cell (w := w) (by repeat (first | assumption | exact Ext.refl _ | apply Ext.drewN | apply Ext.drew | apply Ext.alloc | (refine Ext.trans ?_ (by assumption)) | (refine Ext.set ?_ (by dsimp only; omega) _))) hb2w).trans hc2, (Below.cell (w := w) (by repeat (first | assumption | exact Ext.refl _ | apply Ext.drewN | apply Ext.drew | apply Ext.alloc | (refine Ext.trans ?_ (by assumption)) | (refine Ext.set ?_ (by dsimp only; omega) _))) hb3w).trans hc3⟩) (first | (go_at_call 82; refine Calls.mono c_upOf ?_; rintro e w_1 ⟨rfl, rfl⟩) | (go_at_call 92; refine Calls.mono (c_up1 (cell1' (heap_alloc_new _ _)) ht1 ht2 ht3) ?_; rintro e w_2 ⟨q5, rfl, hq5, n5, rfl⟩))
          all_goals
            go_wp2_with (fail)
            go_meet
            refine ⟨rfl, cu.setIfInBounds k (.float .f32 q5), ?_, ?_, by rw [Array.size_setIfInBounds]; exact HSU.out, HRU.out.set HSU.out (by rw [fsetK_at, HT.out]; exact hq5) (fun j _ hj => fsetK_other _ hj), (by repeat (first | assumption | exact Ext.refl _ | apply Ext.drewN | apply Ext.drew | apply Ext.alloc | (refine Ext.trans ?_ (by assumption)) | (refine Ext.set ?_ (by dsimp only; omega) _)))⟩
            · exact blk_set1 (w := World.alloc wr _) (al_old HGU.out) k _
            · exact set_other (w := World.alloc wr _) (al_old HGD.out) hne
        case rest =>
          obtain ⟨rfl, cu', hgu2, hgd2, hsu2, hru2, hxx⟩ := hcut
          clear hst1 hst2 hfz1 hfz2 e0 z0 hc1
          have HGD2 := Lib.hid hgd2
          have HGU2 := Lib.hid hgu2
          have HSU2 := Lib.hid hsu2
          have HRU2 := Lib.hid hru2
          clear hgd2 hgu2 hsu2 hru2 hx
          obtain ⟨v0, e0, z0⟩ := own_cell HGD2.out HSD.out (show m < N by omega)
          obtain ⟨hst1, hst2, hfz1, hfz2⟩ := st_alloc HGD2.out e0
          have hT3 := stDk_at L D U k
          rw [← HM.out] at hT3
          have HT3 := Lib.hid hT3
          clear hT3
          go_wp2_with (fail)
          go_region_held (fun W => W.cell? ⟨b2, o2 + k, none⟩ = some (.float .f32 t2) ∧ W.cell? ⟨b3, o3 + m, none⟩ = some (.float .f32 t3)) (exact ⟨(Below.cell (w := w) (by repeat (first | assumption | exact Ext.refl _ | apply Ext.drewN | apply Ext.drew | apply Ext.alloc | (refine Ext.trans ?_ (by assumption)) | (refine Ext.set ?_ (by dsimp only; omega) _))) hb2w).trans hc2, (Below.cell (w := w) (by repeat (first | assumption | exact Ext.refl _ | apply Ext.drewN | apply Ext.drew | apply Ext.alloc | (refine Ext.trans ?_ (by assumption)) | (refine Ext.set ?_ (by dsimp only; omega) _))) hb3w).trans hc3⟩) (first | (go_at_call 65; refine Calls.mono c_dnOf ?_; rintro e w_1 ⟨rfl, rfl⟩) | (go_at_call 85; refine Calls.mono (c_dn1 (cell1' (heap_alloc_new _ _)) ht1 ht2 ht3) ?_; rintro e w_2 ⟨q5, rfl, hq5, n5, rfl⟩))
          all_goals
            go_wp2_with (fail)
            refine ⟨⟨k + 1, cd.setIfInBounds m (.float .f32 q5), cu', by omega, by go_num, ?_, ?_, by rw [Array.size_setIfInBounds]; exact HSD.out, HSU2.out, HRD.out.set HSD.out (by rw [← HM.out, HT3.out]; exact hq5) (fun j _ hj => stDk_other (by rw [← HM.out]; exact hj)), HRU2.out, (by repeat (first | assumption | exact Ext.refl _ | apply Ext.drewN | apply Ext.drew | apply Ext.alloc | (refine Ext.trans ?_ (by assumption)) | (refine Ext.set ?_ (by dsimp only; omega) _)))⟩, by simp [intOf]; omega⟩
            · exact blk_set1 (w := World.alloc _ _) (al_old HGD2.out) m _
            · exact set_other (w := World.alloc _ _) (al_old HGU2.out) hne.symm
      · obtain rfl : k = n := by omega
        obtain ⟨b3, o3, t3, hA3, hb3, hc3, ht3⟩ := (hU.below (hx.mono hBU)).cell hN0
        subst hA3
        rw [Nat.add_zero] at hc3
        have hN0' : (0 : Int) < (N : Int) := by omega
        obtain ⟨v0, e0, z0⟩ := own_cell HGD.out HSD.out hN0
        go_wp2_with (go_at_call 83; refine Calls.mono (c_downAgain fs ht3) ?_; rintro e w_1 ⟨q7, rfl, hq7, n7, rfl⟩)
        go_ret2
        have hr1 : RowF (cd.setIfInBounds 0 (.float .f32 q7)) N (stD L D U S) := HRD.out.set HSD.out hq7 (fun j hj h0 => stDk_end h0 (by have := HN.out; omega))
        have hr2 : RowF cu N (stU L D U) := HRU.out.keep (fun j hj => stU_end hl.out (by have := HN.out; omega))
        refine ⟨w.heap.size, (w.heap.size + 1), _, _, rfl, hgd0, hgu0, ?_, ?_, by rw [Array.size_setIfInBounds]; exact HSD.out, HSU.out, hr1, hr2, (by repeat (first | assumption | exact Ext.refl _ | apply Ext.drewN | apply Ext.drew | apply Ext.alloc | (refine Ext.trans ?_ (by assumption)) | (refine Ext.set ?_ (by dsimp only; omega) _)))⟩
        · exact blk_set1 (w := wr) HGD.out 0 _
        · exact set_other (w := wr) HGU.out hne.symm
  · go_wp2_with (fail)
    have hne : (w.heap.size + 1) ≠ w.heap.size := by omega
    have hgd0 : w.heap.size ≤ (w.heap.size + 1) := by omega
    have hgu0 : w.heap.size ≤ w.heap.size := by omega
    go_loopw [22] (fun y wr => ∃ (k : Nat) (cd cu : Array Value), k ≤ n ∧ y = .int .i64 k ∧ wr.heap[(w.heap.size + 1)]? = some (.cells cd 29 (0, 0)) ∧ wr.heap[w.heap.size]? = some (.cells cu 29 (0, 0)) ∧ cd.size = N ∧ cu.size = N ∧ RowF cd N (stDk L D U k) ∧ RowF cu N (fsetK (stU L D U) k) ∧ Ext w wr) (fun y _ => n - (intOf y).toNat)
    case atStart => exact ⟨0, _, _, Nat.zero_le _, rfl, by exact al_at (w := w.alloc _) (al_size w _).symm rfl, by exact al_old (w := w.alloc _) (heap_alloc_new w _), size_madeCells _ _, size_madeCells _ _, RowF.made (fun j _ => stDk_zero L D U j), RowF.made (fun j _ => fsetK_zero _ j), (by repeat (first | assumption | exact Ext.refl _ | apply Ext.drewN | apply Ext.drew | apply Ext.alloc | (refine Ext.trans ?_ (by assumption)) | (refine Ext.set ?_ (by dsimp only; omega) _)))⟩
    case round =>
      obtain ⟨k, cd, cu, hk, rfl, hgd, hgu, hsd, hsu, hrd, hru, hx⟩ := hrel
      have HRD := Lib.hid hrd
      have HRU := Lib.hid hru
      have HGD := Lib.hid hgd
      have HGU := Lib.hid hgu
      have HSD := Lib.hid hsd
      have HSU := Lib.hid hsu
      clear hrd hru hgd hgu hsd hsu
      by_cases hlt : k < n
      · have hlt' : (k : Int) < (n : Int) := by omega
        have hltN : (k : Int) < (N : Int) := by omega
        obtain ⟨m, hm⟩ : ∃ m, m = k + 1 := ⟨_, rfl⟩
        have hmk2 : (k : Int) + 1 = (m : Int) := by omega
        have hwr : IntKind.i64.wrap (m : Int) = (m : Int) := IntWalk.i64_in _ (by omega)
        have hmN : (m : Int) < (N : Int) := by omega
        obtain ⟨b1, o1, t1, rfl, hb1, hc1, ht1⟩ := (h.below (hx.mono hB)).cell hlt
        obtain ⟨b2, o2, t2, hA2, hb2, hc2, ht2⟩ := hD.cell (show k < N by omega)
        obtain ⟨b3, o3, t3, hA3, hb3, hc3, ht3⟩ := hU.cell (show m < N by omega)
        have hb2w : b2 < w.heap.size := by omega
        have hb3w : b3 < w.heap.size := by omega
        subst hA2
        subst hA3
        obtain ⟨u0, e0, z0⟩ := own_cell HGU.out HSU.out (show k < N by omega)
        obtain ⟨hst1, hst2, hfz1, hfz2⟩ := st_alloc HGU.out e0
        have hT := stU_at (D := D) (U := U) hl.out hlt
        rw [← hm] at hT
        have HT := Lib.hid hT
        have HM := Lib.hid hm
        clear hT hm
        go_wp2_with (fail)
        go_cut [12] from 27 to 41 (fun sx wx => sx = .int .i64 k ∧ ∃ cu', wx.heap[w.heap.size]? = some (.cells cu' 29 (0, 0)) ∧ wx.heap[(w.heap.size + 1)]? = some (.cells cd 29 (0, 0)) ∧ cu'.size = N ∧ RowF cu' N (fsetK (stU L D U) (k + 1)) ∧ Ext w wx)
        case first =>
          go_region_held (fun W => W.cell? ⟨b2, o2 + k, none⟩ = some (.float .f32 t2) ∧ W.cell? ⟨b3, o3 + m, none⟩ = some (.float .f32 t3)) (exact ⟨(Below.cell (w := w) (by repeat (first | assumption | exact Ext.refl _ | apply Ext.drewN | apply Ext.drew | apply Ext.alloc | (refine Ext.trans ?_ (by assumption)) | (refine Ext.set ?_ (by dsimp only; omega) _))) hb2w).trans hc2, (Below.cell (w := w) (by repeat (first | assumption | exact Ext.refl _ | apply Ext.drewN | apply Ext.drew | apply Ext.alloc | (refine Ext.trans ?_ (by assumption)) | (refine Ext.set ?_ (by dsimp only; omega) _))) hb3w).trans hc3⟩) (first | (go_at_call 82; refine Calls.mono c_upOf ?_; rintro e w_1 ⟨rfl, rfl⟩) | (go_at_call 92; refine Calls.mono (c_up1 (cell1' (heap_alloc_new _ _)) ht1 ht2 ht3) ?_; rintro e w_2 ⟨q5, rfl, hq5, n5, rfl⟩))
          all_goals
            go_wp2_with (fail)
            go_meet
            refine ⟨rfl, cu.setIfInBounds k (.float .f32 q5), ?_, ?_, by rw [Array.size_setIfInBounds]; exact HSU.out, HRU.out.set HSU.out (by rw [fsetK_at, HT.out]; exact hq5) (fun j _ hj => fsetK_other _ hj), (by repeat (first | assumption | exact Ext.refl _ | apply Ext.drewN | apply Ext.drew | apply Ext.alloc | (refine Ext.trans ?_ (by assumption)) | (refine Ext.set ?_ (by dsimp only; omega) _)))⟩
            · exact blk_set1 (w := World.alloc wr _) (al_old HGU.out) k _
            · exact set_other (w := World.alloc wr _) (al_old HGD.out) hne
        case rest =>
          obtain ⟨rfl, cu', hgu2, hgd2, hsu2, hru2, hxx⟩ := hcut
          clear hst1 hst2 hfz1 hfz2 e0 z0 hc1
          have HGD2 := Lib.hid hgd2
          have HGU2 := Lib.hid hgu2
          have HSU2 := Lib.hid hsu2
          have HRU2 := Lib.hid hru2
          clear hgd2 hgu2 hsu2 hru2 hx
          obtain ⟨v0, e0, z0⟩ := own_cell HGD2.out HSD.out (show m < N by omega)
          obtain ⟨hst1, hst2, hfz1, hfz2⟩ := st_alloc HGD2.out e0
          have hT3 := stDk_at L D U k
          rw [← HM.out] at hT3
          have HT3 := Lib.hid hT3
          clear hT3
          go_wp2_with (fail)
          go_region_held (fun W => W.cell? ⟨b2, o2 + k, none⟩ = some (.float .f32 t2) ∧ W.cell? ⟨b3, o3 + m, none⟩ = some (.float .f32 t3)) (exact ⟨(Below.cell (w := w) (by repeat (first | assumption | exact Ext.refl _ | apply Ext.drewN | apply Ext.drew | apply Ext.alloc | (refine Ext.trans ?_ (by assumption)) | (refine Ext.set ?_ (by dsimp only; omega) _))) hb2w).trans hc2, (Below.cell (w := w) (by repeat (first | assumption | exact Ext.refl _ | apply Ext.drewN | apply Ext.drew | apply Ext.alloc | (refine Ext.trans ?_ (by assumption)) | (refine Ext.set ?_ (by dsimp only; omega) _))) hb3w).trans hc3⟩) (first | (go_at_call 65; refine Calls.mono c_dnOf ?_; rintro e w_1 ⟨rfl, rfl⟩) | (go_at_call 85; refine Calls.mono (c_dn1 (cell1' (heap_alloc_new _ _)) ht1 ht2 ht3) ?_; rintro e w_2 ⟨q5, rfl, hq5, n5, rfl⟩))
          all_goals
            go_wp2_with (fail)
            refine ⟨⟨k + 1, cd.setIfInBounds m (.float .f32 q5), cu', by omega, by go_num, ?_, ?_, by rw [Array.size_setIfInBounds]; exact HSD.out, HSU2.out, HRD.out.set HSD.out (by rw [← HM.out, HT3.out]; exact hq5) (fun j _ hj => stDk_other (by rw [← HM.out]; exact hj)), HRU2.out, (by repeat (first | assumption | exact Ext.refl _ | apply Ext.drewN | apply Ext.drew | apply Ext.alloc | (refine Ext.trans ?_ (by assumption)) | (refine Ext.set ?_ (by dsimp only; omega) _)))⟩, by simp [intOf]; omega⟩
            · exact blk_set1 (w := World.alloc _ _) (al_old HGD2.out) m _
            · exact set_other (w := World.alloc _ _) (al_old HGU2.out) hne.symm
      · obtain rfl : k = n := by omega
        obtain ⟨b3, o3, t3, hA3, hb3, hc3, ht3⟩ := (hU.below (hx.mono hBU)).cell hN0
        subst hA3
        rw [Nat.add_zero] at hc3
        have hN0' : (0 : Int) < (N : Int) := by omega
        obtain ⟨v0, e0, z0⟩ := own_cell HGD.out HSD.out hN0
        go_wp2_with (go_at_call 83; refine Calls.mono (c_downAgain fs ht3) ?_; rintro e w_1 ⟨q7, rfl, hq7, n7, rfl⟩)
        go_ret2
        have hr1 : RowF (cd.setIfInBounds 0 (.float .f32 q7)) N (stD L D U S) := HRD.out.set HSD.out hq7 (fun j hj h0 => stDk_end h0 (by have := HN.out; omega))
        have hr2 : RowF cu N (stU L D U) := HRU.out.keep (fun j hj => stU_end hl.out (by have := HN.out; omega))
        refine ⟨(w.heap.size + 1), w.heap.size, _, _, rfl, hgd0, hgu0, ?_, ?_, by rw [Array.size_setIfInBounds]; exact HSD.out, HSU.out, hr1, hr2, (by repeat (first | assumption | exact Ext.refl _ | apply Ext.drewN | apply Ext.drew | apply Ext.alloc | (refine Ext.trans ?_ (by assumption)) | (refine Ext.set ?_ (by dsimp only; omega) _)))⟩
        · exact blk_set1 (w := wr) HGD.out 0 _
        · exact set_other (w := wr) HGU.out hne.symm
end Go.Proofs.Ythgmkipifolbfab
