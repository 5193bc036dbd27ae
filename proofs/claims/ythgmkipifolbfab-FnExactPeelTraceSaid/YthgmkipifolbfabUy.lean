/- Contract: all that comes back, the program. Condition: the list is read. -/
import Derived.Test.YthgmkipifolbfabUx
namespace Go.Proofs.Ythgmkipifolbfab
open Go.RowKit Ieee

set_option maxRecDepth 20000 in
set_option maxHeartbeats 4000000 in
theorem c_impl_EchoesOf {w : World} {B n c : Nat} {A : Option Addr} {L : List (Option Nat)} (h : RdF w B A n L) (hB : B ≤ w.heap.size) (hn : n ≤ 1048576) {p : Nat} {P : Option Nat} (fp : Fl .f32 p P) {i : Int} (_hi0 : -9223372036854775808 ≤ i) (_hi1 : i ≤ 9223372036854775807) :
    Calls Try.prog 28 #[.slice A n c, .float .f32 p, .int .i64 i] w fun e w' => RetL w e w' (fare L && (fsurf P && inB i 1 128)) (lst (fecho L P (n + 1)) i.toNat) := by
  cases hV : fare L
  · go_enter Try.func28, Try.ntmps28
    go_wp2_with (go_at_call 17; refine Calls.mono (c_AreCoefficients (h.below (Below.mono (w := w) (by repeat (first | assumption | exact Ext.refl _ | apply Ext.drewN | apply Ext.drew | apply Ext.alloc | (refine Ext.trans ?_ (by assumption)) | (refine Ext.set ?_ (by dsimp only; omega) _))) hB)) hn) ?_; rw [hV]; rintro e w1 ⟨rfl, rfl⟩)
    go_ret2
    exact retL_no rfl (by repeat (first | assumption | exact Ext.refl _ | apply Ext.drewN | apply Ext.drew | apply Ext.alloc | (refine Ext.trans ?_ (by assumption)) | (refine Ext.set ?_ (by dsimp only; omega) _)))
  rw [Bool.true_and]
  cases hW : fsurf P
  · go_enter Try.func28, Try.ntmps28
    go_wp2_with (first | (go_at_call 17; refine Calls.mono (c_AreCoefficients (h.below (Below.mono (w := w) (by repeat (first | assumption | exact Ext.refl _ | apply Ext.drewN | apply Ext.drew | apply Ext.alloc | (refine Ext.trans ?_ (by assumption)) | (refine Ext.set ?_ (by dsimp only; omega) _))) hB)) hn) ?_; rw [hV]; rintro e w1 ⟨rfl, rfl⟩) | (go_at_call 57; refine Calls.mono (c_isSurface fp) ?_; rw [hW]; rintro e w1 ⟨rfl, rfl⟩))
    go_ret2
    exact retL_no rfl (by repeat (first | assumption | exact Ext.refl _ | apply Ext.drewN | apply Ext.drew | apply Ext.alloc | (refine Ext.trans ?_ (by assumption)) | (refine Ext.set ?_ (by dsimp only; omega) _)))
  rw [Bool.true_and]
  cases hX : inB i 1 128
  · go_enter Try.func28, Try.ntmps28
    go_wp2_with (first | (go_at_call 17; refine Calls.mono (c_AreCoefficients (h.below (Below.mono (w := w) (by repeat (first | assumption | exact Ext.refl _ | apply Ext.drewN | apply Ext.drew | apply Ext.alloc | (refine Ext.trans ?_ (by assumption)) | (refine Ext.set ?_ (by dsimp only; omega) _))) hB)) hn) ?_; rw [hV]; rintro e w1 ⟨rfl, rfl⟩) | (go_at_call 57; refine Calls.mono (c_isSurface fp) ?_; rw [hW]; rintro e w1 ⟨rfl, rfl⟩) | (go_at_call 55; refine Calls.mono (c_isTraceLength _ _) ?_; rw [hX]; rintro e w1 ⟨rfl, rfl⟩))
    go_ret2
    exact retL_no rfl (by repeat (first | assumption | exact Ext.refl _ | apply Ext.drewN | apply Ext.drew | apply Ext.alloc | (refine Ext.trans ?_ (by assumption)) | (refine Ext.set ?_ (by dsimp only; omega) _)))
  obtain ⟨g1, g2⟩ := inB_of hX
  obtain ⟨M, rfl⟩ : ∃ M : Nat, i = (M : Int) := ⟨i.toNat, by omega⟩
  rw [Int.toNat_natCast]
  have hn24 : 1 ≤ n ∧ n ≤ 24 := by
    have := hV; unfold fare at this; rw [Bool.and_eq_true] at this
    have := elen_of this.2
    have := h.len; omega
  obtain ⟨N, hN⟩ : ∃ N, N = n + 1 := ⟨_, rfl⟩
  rw [← hN]
  have hNi : (n : Int) + 1 = (N : Int) := by omega
  have hwN : IntKind.i64.wrap (N : Int) = (N : Int) := IntWalk.i64_in _ (by omega)
  have hN0 : 0 < N := by omega
  have hN2 : N ≤ 25 := by omega
  have hN0' : (0 : Int) < (N : Int) := by omega
  have HN := Lib.hid hN
  clear hN
  have hmkN := fun W => run_make_row' (P := Try.prog) 22 29 (.float .f32 0) 4 Try.underlying22 info_f32 rfl .i64 .i64 N (by omega) (by omega) W
  have hmkM := fun W => run_make_row' (P := Try.prog) 22 29 (.float .f32 0) 4 Try.underlying22 info_f32 rfl .i64 .i64 M (by omega) (by omega) W
  go_enter Try.func28, Try.ntmps28
  go_wp2_with (first | (go_at_call 17; refine Calls.mono (c_AreCoefficients (h.below (Below.mono (w := w) (by repeat (first | assumption | exact Ext.refl _ | apply Ext.drewN | apply Ext.drew | apply Ext.alloc | (refine Ext.trans ?_ (by assumption)) | (refine Ext.set ?_ (by dsimp only; omega) _))) hB)) hn) ?_; rw [hV]; rintro e w1 ⟨rfl, rfl⟩) | (go_at_call 57; refine Calls.mono (c_isSurface fp) ?_; rw [hW]; rintro e w1 ⟨rfl, rfl⟩) | (go_at_call 55; refine Calls.mono (c_isTraceLength _ _) ?_; rw [hX]; rintro e w1 ⟨rfl, rfl⟩))
  go_region_with (fail)
  · obtain ⟨v0, e0, z0⟩ := own_cell (w := (w.alloc (.cells (madeCells #[.float .f32 0] N) 29)).alloc (.cells (madeCells #[.float .f32 0] N) 29)) (g := w.heap.size) (al_old (heap_alloc_new w _)) (size_madeCells _ _) hN0
    have hneq : (w.heap.size + 1) ≠ w.heap.size := by omega
    have hneq' : w.heap.size ≠ (w.heap.size + 1) := by omega
    go_wp2_with (fail)
    go_loopw [8, 9, 39] (fun d u y wr => ∃ (k g1 g2 : Nat) (c1 c2 ce : Array Value), k ≤ M ∧ y = .int .i64 k ∧ d = .slice (some ⟨g1, 0, none⟩) N N ∧ u = .slice (some ⟨g2, 0, none⟩) N N ∧ g1 ≠ (w.heap.size + 1 + 1) ∧ g2 ≠ (w.heap.size + 1 + 1) ∧ wr.heap[g1]? = some (.cells c1 29 (0, 0)) ∧ wr.heap[g2]? = some (.cells c2 29 (0, 0)) ∧ c1.size = N ∧ c2.size = N ∧ RowF c1 N (wv L P N (2 * k)).1 ∧ RowF c2 N (wv L P N (2 * k)).2 ∧ wr.heap[(w.heap.size + 1 + 1)]? = some (.cells ce 29 (0, 0)) ∧ ce.size = M ∧ RowF ce M (fsetK (fecho L P N) k) ∧ Ext w wr) (fun _ _ y _ => M - (intOf y).toNat)
    case atStart =>
      exact ⟨0, w.heap.size, (w.heap.size + 1), _, _, _, Nat.zero_le _, rfl, rfl, rfl, by omega, by omega, by exact al_old (w := (w.alloc _).alloc _) (al_old (w := w.alloc _) (heap_alloc_new w _)), by exact al_old (w := (w.alloc _).alloc _) (al_at (w := w.alloc _) (al_size w _).symm rfl), by rw [Array.size_setIfInBounds]; exact size_madeCells _ _, size_madeCells _ _, (RowF.made (F := fun _ => fz) (fun _ _ => rfl)).set (size_madeCells _ _) (show Fl .f32 1065353216 fu from fl_fu) (fun j _ hj => by show fz = if j = 0 then fu else fz; rw [if_neg hj]), RowF.made (fun _ _ => rfl), by exact al_at (w := (w.alloc _).alloc _) (by simp) rfl, size_madeCells _ _, RowF.made (fun j _ => fsetK_zero _ j), (by repeat (first | assumption | exact Ext.refl _ | apply Ext.drewN | apply Ext.drew | apply Ext.alloc | (refine Ext.trans ?_ (by assumption)) | (refine Ext.set ?_ (by dsimp only; omega) _)))⟩
    case round =>
      clear e0 z0
      obtain ⟨k, g1, g2, c1, c2, ce, hk, rfl, rfl, rfl, hne1, hne2, hh1, hh2, hs1, hs2, hr1, hr2, hge, hse, hre, hx⟩ := hrel
      have HRE := Lib.hid hre
      have HGE := Lib.hid hge
      have HSE := Lib.hid hse
      by_cases hlt : k < M
      · have hlt' : (k : Int) < (M : Int) := by omega
        have hD := (RowF.lst hr1 hh1 hs1).rd
        have hU := (RowF.lst hr2 hh2 hs2).rd
        have hgel := blk_lt hge
        have hBr : B ≤ wr.heap.size := by have := hx.size; omega
        have hLr := h.below (hx.mono hB)
        have HD := Lib.hid hD
        have HU := Lib.hid hU
        clear hge hse hre hD hU hh1 hh2 hs1 hs2 hr1 hr2
        go_wp2_with (first | (go_at_call_of 58 g1; refine Calls.mono (c_stepWaves hLr hBr hn24.2 HN.out HD.out (Nat.le_refl _) HU.out (Nat.le_refl _) fp) ?_; rintro e w1 ⟨g3, g4, c3, c4, rfl, hg3, hg4, hh3, hh4, hs3, hs4, hr3, hr4, hx1⟩; have hge1 := hx1.blk HGE.out; obtain ⟨u0, e0, z0⟩ := own_cell hge1 HSE.out hlt; obtain ⟨t4, hc4, hz4, ht4⟩ := hr4.cell hh4 hN0; have hne3 : g3 ≠ (w.heap.size + 1 + 1) := (by omega); have hne4 : g4 ≠ (w.heap.size + 1 + 1) := (by omega); have HGE1 := Lib.hid hge1; have HH3 := Lib.hid hh3; have HH4 := Lib.hid hh4; have HR3 := Lib.hid hr3; have HR4 := Lib.hid hr4; have hgel1 := blk_lt hge1; clear hge1 hh3 hh4 hr3 hr4) | (go_at_call_of 58 g3; refine Calls.mono (c_stepWaves (h.below (Below.mono (w := w) (by repeat (first | assumption | exact Ext.refl _ | apply Ext.drewN | apply Ext.drew | apply Ext.alloc | (refine Ext.trans ?_ (by assumption)) | (refine Ext.set ?_ (by dsimp only; omega) _))) hB)) (by simp [World.setCell]; have := hx1.size; omega) hn24.2 HN.out (RowF.lst HR3.out (set_other (w := w1) HH3.out hne3) hs3).rd (Nat.le_refl _) (RowF.lst HR4.out (set_other (w := w1) HH4.out hne4) hs4).rd (Nat.le_refl _) fp) ?_; rintro e w6 ⟨g5, g6, c5, c6, rfl, hg5, hg6, hh5, hh6, hs5, hs6, hr5, hr6, hx6⟩))
        have hg5' : w1.heap.size ≤ g5 := by simpa [World.setCell] using hg5
        have hg6' : w1.heap.size ≤ g6 := by simpa [World.setCell] using hg6
        refine ⟨⟨k + 1, g5, g6, c5, c6, ce.setIfInBounds k (.float .f32 t4), by omega, by go_num, rfl, rfl, by omega, by omega, hh5, hh6, hs5, hs6, ?_, ?_, hx6.blk (blk_set1 (w := w1) HGE1.out k _), by rw [Array.size_setIfInBounds]; exact HSE.out, HRE.out.set HSE.out (by rw [fsetK_at]; exact ht4) (fun j _ hj => fsetK_other _ hj), (by repeat (first | assumption | exact Ext.refl _ | apply Ext.drewN | apply Ext.drew | apply Ext.alloc | (refine Ext.trans ?_ (by assumption)) | (refine Ext.set ?_ (by dsimp only; omega) _)))⟩, by simp [intOf]; omega⟩
        · rw [show 2 * (k + 1) = 2 * k + 1 + 1 by omega]; exact hr5
        · rw [show 2 * (k + 1) = 2 * k + 1 + 1 by omega]; exact hr6
      · obtain rfl : k = M := by omega
        have ho5 := own_lst HGE.out HSE.out (HRE.out.keep (fun j hj => fsetK_all (fecho L P N) hj))
        go_wp2_with (fail)
        go_ret2
        exact ⟨_, _, _, rfl, ho5.more (by omega) (Nat.le_refl _), hx⟩
  · obtain ⟨v0, e0, z0⟩ := own_cell (w := (w.alloc (.cells (madeCells #[.float .f32 0] N) 29)).alloc (.cells (madeCells #[.float .f32 0] N) 29)) (g := (w.heap.size + 1)) (al_at (al_size w _).symm rfl) (size_madeCells _ _) hN0
    have hneq : w.heap.size ≠ (w.heap.size + 1) := by omega
    have hneq' : (w.heap.size + 1) ≠ w.heap.size := by omega
    go_wp2_with (fail)
    go_loopw [8, 9, 39] (fun d u y wr => ∃ (k g1 g2 : Nat) (c1 c2 ce : Array Value), k ≤ M ∧ y = .int .i64 k ∧ d = .slice (some ⟨g1, 0, none⟩) N N ∧ u = .slice (some ⟨g2, 0, none⟩) N N ∧ g1 ≠ (w.heap.size + 1 + 1) ∧ g2 ≠ (w.heap.size + 1 + 1) ∧ wr.heap[g1]? = some (.cells c1 29 (0, 0)) ∧ wr.heap[g2]? = some (.cells c2 29 (0, 0)) ∧ c1.size = N ∧ c2.size = N ∧ RowF c1 N (wv L P N (2 * k)).1 ∧ RowF c2 N (wv L P N (2 * k)).2 ∧ wr.heap[(w.heap.size + 1 + 1)]? = some (.cells ce 29 (0, 0)) ∧ ce.size = M ∧ RowF ce M (fsetK (fecho L P N) k) ∧ Ext w wr) (fun _ _ y _ => M - (intOf y).toNat)
    case atStart =>
      exact ⟨0, (w.heap.size + 1), w.heap.size, _, _, _, Nat.zero_le _, rfl, rfl, rfl, by omega, by omega, by exact al_old (w := (w.alloc _).alloc _) (al_at (w := w.alloc _) (al_size w _).symm rfl), by exact al_old (w := (w.alloc _).alloc _) (al_old (w := w.alloc _) (heap_alloc_new w _)), by rw [Array.size_setIfInBounds]; exact size_madeCells _ _, size_madeCells _ _, (RowF.made (F := fun _ => fz) (fun _ _ => rfl)).set (size_madeCells _ _) (show Fl .f32 1065353216 fu from fl_fu) (fun j _ hj => by show fz = if j = 0 then fu else fz; rw [if_neg hj]), RowF.made (fun _ _ => rfl), by exact al_at (w := (w.alloc _).alloc _) (by simp) rfl, size_madeCells _ _, RowF.made (fun j _ => fsetK_zero _ j), (by repeat (first | assumption | exact Ext.refl _ | apply Ext.drewN | apply Ext.drew | apply Ext.alloc | (refine Ext.trans ?_ (by assumption)) | (refine Ext.set ?_ (by dsimp only; omega) _)))⟩
    case round =>
      clear e0 z0
      obtain ⟨k, g1, g2, c1, c2, ce, hk, rfl, rfl, rfl, hne1, hne2, hh1, hh2, hs1, hs2, hr1, hr2, hge, hse, hre, hx⟩ := hrel
      have HRE := Lib.hid hre
      have HGE := Lib.hid hge
      have HSE := Lib.hid hse
      by_cases hlt : k < M
      · have hlt' : (k : Int) < (M : Int) := by omega
        have hD := (RowF.lst hr1 hh1 hs1).rd
        have hU := (RowF.lst hr2 hh2 hs2).rd
        have hgel := blk_lt hge
        have hBr : B ≤ wr.heap.size := by have := hx.size; omega
        have hLr := h.below (hx.mono hB)
        have HD := Lib.hid hD
        have HU := Lib.hid hU
        clear hge hse hre hD hU hh1 hh2 hs1 hs2 hr1 hr2
        go_wp2_with (first | (go_at_call_of 58 g1; refine Calls.mono (c_stepWaves hLr hBr hn24.2 HN.out HD.out (Nat.le_refl _) HU.out (Nat.le_refl _) fp) ?_; rintro e w1 ⟨g3, g4, c3, c4, rfl, hg3, hg4, hh3, hh4, hs3, hs4, hr3, hr4, hx1⟩; have hge1 := hx1.blk HGE.out; obtain ⟨u0, e0, z0⟩ := own_cell hge1 HSE.out hlt; obtain ⟨t4, hc4, hz4, ht4⟩ := hr4.cell hh4 hN0; have hne3 : g3 ≠ (w.heap.size + 1 + 1) := (by omega); have hne4 : g4 ≠ (w.heap.size + 1 + 1) := (by omega); have HGE1 := Lib.hid hge1; have HH3 := Lib.hid hh3; have HH4 := Lib.hid hh4; have HR3 := Lib.hid hr3; have HR4 := Lib.hid hr4; have hgel1 := blk_lt hge1; clear hge1 hh3 hh4 hr3 hr4) | (go_at_call_of 58 g3; refine Calls.mono (c_stepWaves (h.below (Below.mono (w := w) (by repeat (first | assumption | exact Ext.refl _ | apply Ext.drewN | apply Ext.drew | apply Ext.alloc | (refine Ext.trans ?_ (by assumption)) | (refine Ext.set ?_ (by dsimp only; omega) _))) hB)) (by simp [World.setCell]; have := hx1.size; omega) hn24.2 HN.out (RowF.lst HR3.out (set_other (w := w1) HH3.out hne3) hs3).rd (Nat.le_refl _) (RowF.lst HR4.out (set_other (w := w1) HH4.out hne4) hs4).rd (Nat.le_refl _) fp) ?_; rintro e w6 ⟨g5, g6, c5, c6, rfl, hg5, hg6, hh5, hh6, hs5, hs6, hr5, hr6, hx6⟩))
        have hg5' : w1.heap.size ≤ g5 := by simpa [World.setCell] using hg5
        have hg6' : w1.heap.size ≤ g6 := by simpa [World.setCell] using hg6
        refine ⟨⟨k + 1, g5, g6, c5, c6, ce.setIfInBounds k (.float .f32 t4), by omega, by go_num, rfl, rfl, by omega, by omega, hh5, hh6, hs5, hs6, ?_, ?_, hx6.blk (blk_set1 (w := w1) HGE1.out k _), by rw [Array.size_setIfInBounds]; exact HSE.out, HRE.out.set HSE.out (by rw [fsetK_at]; exact ht4) (fun j _ hj => fsetK_other _ hj), (by repeat (first | assumption | exact Ext.refl _ | apply Ext.drewN | apply Ext.drew | apply Ext.alloc | (refine Ext.trans ?_ (by assumption)) | (refine Ext.set ?_ (by dsimp only; omega) _)))⟩, by simp [intOf]; omega⟩
        · rw [show 2 * (k + 1) = 2 * k + 1 + 1 by omega]; exact hr5
        · rw [show 2 * (k + 1) = 2 * k + 1 + 1 by omega]; exact hr6
      · obtain rfl : k = M := by omega
        have ho5 := own_lst HGE.out HSE.out (HRE.out.keep (fun j hj => fsetK_all (fecho L P N) hj))
        go_wp2_with (fail)
        go_ret2
        exact ⟨_, _, _, rfl, ho5.more (by omega) (Nat.le_refl _), hx⟩
end Go.Proofs.Ythgmkipifolbfab
