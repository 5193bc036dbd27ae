/- Contracts: wavelets, on both sides. No condition. -/
import Derived.Test.YthgmkipifolbfabTx
import Derived.Test.YthgmkipifolbfabTr
namespace Go.Proofs.Ythgmkipifolbfab
open Go.RowKit Ieee

set_option maxRecDepth 20000 in
set_option maxHeartbeats 4000000 in
theorem c_spec_WaveletOf {w : World} {i : Int} (_hi0 : -9223372036854775808 ≤ i) (_hi1 : i ≤ 9223372036854775807) {p : Nat} {P : Option Nat} (fp : Fl .f32 p P) :
    Calls Try.prog 37 #[.int .i64 i, .float .f32 p] w fun e w' => RetL w e w' (inB i 1 16 && ffin .f32 P) (lst (fwave i P) (2 * i + 1).toNat) := by
  cases hV : inB i 1 16
  · go_enter Try.func37, Try.ntmps37
    go_wp2_with (go_at_call 54; refine Calls.mono (c_l00In _ _ _ _) ?_; rw [hV]; rintro e w1 ⟨rfl, rfl⟩)
    go_ret2
    exact retL_no rfl (by repeat (first | assumption | exact Ext.refl _ | apply Ext.drewN | apply Ext.drew | apply Ext.alloc | (refine Ext.trans ?_ (by assumption)) | (refine Ext.set ?_ (by dsimp only; omega) _)))
  rw [Bool.true_and]
  cases hF : ffin .f32 P
  · go_enter Try.func37, Try.ntmps37
    go_wp2_with (first | (go_at_call 54; refine Calls.mono (c_l00In _ _ _ _) ?_; rw [hV]; rintro e w1 ⟨rfl, rfl⟩) | (go_at_call 69; refine Calls.mono (c_l01Finite fp _) ?_; rw [hF]; rintro e w1 ⟨rfl, n0, rfl⟩))
    go_ret2
    exact retL_no rfl (by repeat (first | assumption | exact Ext.refl _ | apply Ext.drewN | apply Ext.drew | apply Ext.alloc | (refine Ext.trans ?_ (by assumption)) | (refine Ext.set ?_ (by dsimp only; omega) _)))
  obtain ⟨g1, g2⟩ := inB_of hV
  obtain ⟨ri, rfl⟩ : ∃ ri : Nat, i = (ri : Int) := ⟨i.toNat, by omega⟩
  obtain ⟨N, hN⟩ : ∃ N : Nat, N = 2 * ri + 1 := ⟨_, rfl⟩
  have hNt : (2 * (ri : Int) + 1).toNat = N := by omega
  rw [hNt]
  have hNi : 2 * (ri : Int) + 1 = (N : Int) := by omega
  have hN33 : N ≤ 33 := by omega
  have HN := Lib.hid hN
  clear hN hNt
  obtain ⟨i0, hi, hz0, hz1, hz2⟩ := info_parts info_f32
  go_enter Try.func37, Try.ntmps37
  go_wp2_with (first | (go_at_call 54; refine Calls.mono (c_l00In _ _ _ _) ?_; rw [hV]; rintro e w1 ⟨rfl, rfl⟩) | (go_at_call 69; refine Calls.mono (c_l01Finite fp _) ?_; rw [hF]; rintro e w1 ⟨rfl, n0, rfl⟩))
  go_loopw [6, 7] (fun v y wr => ∃ (k : Nat) (xs : List Value), k ≤ N ∧ y = .int .i64 k ∧ wr.ownsRow w.heap.size 29 1 v k xs ∧ (∀ j, j < k → ∃ r, xs[j]? = some (.float .f32 r) ∧ Fl .f32 r (fwave ri P j)) ∧ Ext w wr) (fun _ y _ => N - (intOf y).toNat)
  case atStart => exact ⟨0, [], Nat.zero_le _, rfl, World.ownsRow_made _ _ 0 (Nat.le_refl _) (Nat.zero_le _) rfl, fun j hj => absurd hj (Nat.not_lt_zero _), (by repeat (first | assumption | exact Ext.refl _ | apply Ext.drewN | apply Ext.drew | apply Ext.alloc | (refine Ext.trans ?_ (by assumption)) | (refine Ext.set ?_ (by dsimp only; omega) _)))⟩
  case round =>
    obtain ⟨k, xs, hk, rfl, hown, hxs, hx⟩ := hrel
    have HX := Lib.hid hxs
    clear hxs
    by_cases hlt : k < N
    · have hlt' : (k : Int) ≤ 2 * (ri : Int) := by omega
      have hE1' : fwu ri k = fop .quo .f32 (fint ((k : Int) - ri)) (fint ((ri : Int) + 1)) := rfl
      have E1 := Lib.hid hE1'
      clear hE1'
      have hE2' : fww ri k = fop .mul .f32 (fwu ri k) (fwu ri k) := rfl
      have E2 := Lib.hid hE2'
      clear hE2'
      have hE3' : fwv ri k = fop .sub .f32 fu (fww ri k) := rfl
      have E3 := Lib.hid hE3'
      clear hE3'
      have hE4' : fwave ri P k = fop .mul .f32 (fop .mul .f32 (fwv ri k) (fwv ri k)) (fop .sub .f32 fu (fop .mul .f32 P (fww ri k))) := rfl
      have E4 := Lib.hid hE4'
      clear hE4'
      go_wp2_with (first | (apply upon_fop rfl; (exact (fl_fint _)); (exact (fl_fint _)); intro r1 nr1 hr1; rw [← E1.out] at hr1) | (apply upon_fop rfl; (exact hr1); (exact hr1); intro r2 nr2 hr2; rw [← E2.out] at hr2) | (apply upon_fop rfl; (exact fl_fu); (exact hr2); intro r3 nr3 hr3; rw [← E3.out] at hr3) | (apply upon_fop rfl; (exact hr3); (exact hr3); intro r4 nr4 hr4) | (apply upon_fop rfl; (exact fp); (exact hr2); intro r5 nr5 hr5) | (apply upon_fop rfl; (exact fl_fu); (exact hr5); intro r6 nr6 hr6) | (apply upon_fop rfl; (exact hr4); (exact hr6); intro r7 nr7 hr7; rw [← E4.out] at hr7) | (at_builtin; refine wpList_append_own _ rfl _ _ 22 rfl w.heap.size 29 i0 (.float .f32 0) 1 4 Try.underlying22 hi hz0 hz1 hz2 rfl (by decide) _ _ _ rfl (World.ownsRow.alloc (w := wr.drewN _) hown _) ⟨wr.heap.size, 0, none⟩ 1 1 [.float .f32 r7] rfl rfl ?_ ?_ ?_ ?_ ?_ ?_))
      all_goals first
        | exact one_new (w := wr.drewN _)
        | (intro u hu; simp at hu; subst hu; rfl)
        | (unfold maxLen; omega)
        | omega
        | (have := hx.size; simp; omega)
        | (intro v' w4 hown' hgrow _
           have hl' : xs.length = k := by have := hown.1; omega
           have hx' : Ext w w4 := grown_ext (Ext.alloc (Ext.drewN hx _) _) (World.ownsRow.alloc (w := wr.drewN _) hown _) hgrow
           have HXX := Lib.hid (row_step hl' HX.out hr7)
           clear hown hgrow hx
           go_wp2_with (fail)
           exact ⟨⟨k + 1, _, by omega, by go_num, hown', HXX.out, hx'⟩, by simp [intOf]; omega⟩)
    · obtain rfl : k = N := by omega
      have hlt' : ¬ (k : Int) ≤ 2 * (ri : Int) := by omega
      have ho4 : OwF wr w.heap.size _ k (fwave ri P) := ⟨xs, hown, HX.out⟩
      obtain ⟨A4, c4, rfl, ho5⟩ := ho4.owl
      go_wp2_with (fail)
      go_ret2
      exact ⟨_, _, _, rfl, ho5, hx⟩

set_option maxRecDepth 20000 in
set_option maxHeartbeats 4000000 in
theorem c_impl_WaveletOf {w : World} {i : Int} (_hi0 : -9223372036854775808 ≤ i) (_hi1 : i ≤ 9223372036854775807) {p : Nat} {P : Option Nat} (fp : Fl .f32 p P) :
    Calls Try.prog 38 #[.int .i64 i, .float .f32 p] w fun e w' => RetL w e w' (inB i 1 16 && ffin .f32 P) (lst (fwave i P) (2 * i + 1).toNat) := by
  cases hV : inB i 1 16
  · rcases inB_not hV with hw | hw
    · go_enter Try.func38, Try.ntmps38
      go_wp2_with (fail)
      go_ret2
      exact retL_no rfl (by repeat (first | assumption | exact Ext.refl _ | apply Ext.drewN | apply Ext.drew | apply Ext.alloc | (refine Ext.trans ?_ (by assumption)) | (refine Ext.set ?_ (by dsimp only; omega) _)))
    · have j1 : ¬ i < 1 := by omega
      go_enter Try.func38, Try.ntmps38
      go_wp2_with (fail)
      go_ret2
      exact retL_no rfl (by repeat (first | assumption | exact Ext.refl _ | apply Ext.drewN | apply Ext.drew | apply Ext.alloc | (refine Ext.trans ?_ (by assumption)) | (refine Ext.set ?_ (by dsimp only; omega) _)))
  rw [Bool.true_and]
  cases hF : ffin .f32 P
  · obtain ⟨g1, g2⟩ := inB_of hV
    have j1 : ¬ i < 1 := by omega
    have j2 : ¬ 16 < i := by omega
    go_enter Try.func38, Try.ntmps38
    go_wp2_with (go_at_call 70; refine Calls.mono (c_impl_IsFinite fp _) ?_; rw [hF]; rintro e w1 ⟨rfl, n0, rfl⟩)
    go_ret2
    exact retL_no rfl (by repeat (first | assumption | exact Ext.refl _ | apply Ext.drewN | apply Ext.drew | apply Ext.alloc | (refine Ext.trans ?_ (by assumption)) | (refine Ext.set ?_ (by dsimp only; omega) _)))
  obtain ⟨g1, g2⟩ := inB_of hV
  obtain ⟨ri, rfl⟩ : ∃ ri : Nat, i = (ri : Int) := ⟨i.toNat, by omega⟩
  obtain ⟨N, hN⟩ : ∃ N : Nat, N = 2 * ri + 1 := ⟨_, rfl⟩
  have hNt : (2 * (ri : Int) + 1).toNat = N := by omega
  rw [hNt]
  have hNi : 2 * (ri : Int) + 1 = (N : Int) := by omega
  have hN33 : N ≤ 33 := by omega
  have HN := Lib.hid hN
  clear hN hNt
  have j1 : ¬ (ri : Int) < 1 := by omega
  have j2 : ¬ 16 < (ri : Int) := by omega
  have hmk := fun W => run_make_row' (P := Try.prog) 22 29 (.float .f32 0) 4 Try.underlying22 info_f32 rfl .i64 .i64 N (by omega) (by omega) W
  go_enter Try.func38, Try.ntmps38
  go_wp2_with (go_at_call 70; refine Calls.mono (c_impl_IsFinite fp _) ?_; rw [hF]; rintro e w1 ⟨rfl, n0, rfl⟩)
  go_loopw [28] (fun x wr => ∃ (k : Nat) (cs : Array Value), k ≤ N ∧ x = .int .i64 k ∧ wr.heap[w.heap.size]? = some (.cells cs 29 (0, 0)) ∧ cs.size = N ∧ (∀ j, j < k → ∃ r, cs[j]? = some (.float .f32 r) ∧ Fl .f32 r (fwave ri P j)) ∧ Ext w wr) (fun x _ => N - (intOf x).toNat)
  case atStart => exact ⟨0, _, Nat.zero_le _, rfl, heap_alloc_new _ _, size_madeCells _ _, fun j hj => absurd hj (Nat.not_lt_zero _), (by repeat (first | assumption | exact Ext.refl _ | apply Ext.drewN | apply Ext.drew | apply Ext.alloc | (refine Ext.trans ?_ (by assumption)) | (refine Ext.set ?_ (by dsimp only; omega) _)))⟩
  case round =>
    obtain ⟨k, cs, hk, rfl, hg, hsz, hxs, hx⟩ := hrel
    have HX := Lib.hid hxs
    have HG := Lib.hid hg
    have HS := Lib.hid hsz
    clear hxs hg hsz
    by_cases hlt : k < N
    · obtain ⟨u0, e0, z0⟩ := own_cell HG.out HS.out hlt
      have hlt' : (k : Int) < (N : Int) := by omega
      have hE1' : fwu ri k = fop .quo .f32 (fint ((k : Int) - ri)) (fint ((ri : Int) + 1)) := rfl
      have E1 := Lib.hid hE1'
      clear hE1'
      have hE2' : fww ri k = fop .mul .f32 (fwu ri k) (fwu ri k) := rfl
      have E2 := Lib.hid hE2'
      clear hE2'
      have hE3' : fwv ri k = fop .sub .f32 fu (fww ri k) := rfl
      have E3 := Lib.hid hE3'
      clear hE3'
      have hE4' : fwave ri P k = fop .mul .f32 (fop .mul .f32 (fwv ri k) (fwv ri k)) (fop .sub .f32 fu (fop .mul .f32 P (fww ri k))) := rfl
      have E4 := Lib.hid hE4'
      clear hE4'
      go_wp2_with (first | (apply upon_fop rfl; (exact (fl_fint _)); (exact (fl_fint _)); intro r1 nr1 hr1; rw [← E1.out] at hr1) | (go_at_call 53; refine Calls.mono (c_mulNumbers hr1 hr1 _) ?_; rw [← E2.out]; rintro e w_r2 ⟨r2, rfl, hr2, nr2, rfl⟩) | (apply upon_fop rfl; (exact fl_fu); (exact hr2); intro r3 nr3 hr3; rw [← E3.out] at hr3) | (go_at_call 53; refine Calls.mono (c_mulNumbers hr3 hr3 _) ?_; rintro e w_r4 ⟨r4, rfl, hr4, nr4, rfl⟩) | (go_at_call 53; refine Calls.mono (c_mulNumbers fp hr2 _) ?_; rintro e w_r5 ⟨r5, rfl, hr5, nr5, rfl⟩) | (apply upon_fop rfl; (exact fl_fu); (exact hr5); intro r6 nr6 hr6) | (go_at_call 53; refine Calls.mono (c_mulNumbers hr4 hr6 _) ?_; rw [← E4.out]; rintro e w_r7 ⟨r7, rfl, hr7, nr7, rfl⟩))
      exact ⟨⟨k + 1, cs.setIfInBounds k (.float .f32 r7), by omega, by go_num, by exact blk_set1 (w := World.drewN wr _) HG.out k _, by rw [Array.size_setIfInBounds]; exact HS.out, pre_setF (F := fwave ri P) (by have := HS.out; omega) HX.out hr7, (by repeat (first | assumption | exact Ext.refl _ | apply Ext.drewN | apply Ext.drew | apply Ext.alloc | (refine Ext.trans ?_ (by assumption)) | (refine Ext.set ?_ (by dsimp only; omega) _)))⟩, by simp [intOf]; omega⟩
    · obtain rfl : k = N := by omega
      have ho5 := own_lst HG.out HS.out HX.out
      go_wp2_with (fail)
      go_ret2
      exact ⟨_, _, _, rfl, ho5, hx⟩

theorem both_WaveletOf {i0 : Int} (h00 : -9223372036854775808 ≤ i0) (h01 : i0 ≤ 9223372036854775807) {p : Nat} {P : Option Nat} (fp : Fl .f32 p P) :
    ∃ ok Q q, q ≤ 1048576 ∧ (∀ W : World, Calls Try.prog 37 #[.int .i64 i0, .float .f32 p] W fun e w' => RetQ W e w' ok q Q) ∧
      (∀ W : World, Calls Try.prog 38 #[.int .i64 i0, .float .f32 p] W fun e w' => RetQ W e w' ok q Q) :=
  ⟨_, _, _, by
    cases h : (inB i0 1 16 && ffin .f32 P)
    · exact Nat.zero_le _
    · rw [Bool.and_eq_true] at h
      have := inB_of h.1
      show (lst _ _).length ≤ _
      rw [lst_len]; omega, fun W => Calls.mono (c_spec_WaveletOf (w := W) h00 h01 fp) (fun _ _ hr => hr.q), fun W => Calls.mono (c_impl_WaveletOf (w := W) h00 h01 fp) (fun _ _ hr => hr.q)⟩
end Go.Proofs.Ythgmkipifolbfab
