/- Contracts: what comes back once, on both sides. Condition: the list is read, and has room for what it has. -/
import Derived.Test.YthgmkipifolbfabUa
import Derived.Test.YthgmkipifolbfabTn
import Derived.Test.YthgmkipifolbfabTq
import Derived.Test.YthgmkipifolbfabRl
namespace Go.Proofs.Ythgmkipifolbfab
open Go.RowKit Ieee

set_option maxRecDepth 20000 in
set_option maxHeartbeats 4000000 in
theorem c_spec_PrimariesOf {w : World} {B n c : Nat} {A : Option Addr} {L : List (Option Nat)} (h : RdF w B A n L) (hB : B ≤ w.heap.size) (hn : n ≤ 1048576) (_hcap : n ≤ c) {i : Int} (_hi0 : -9223372036854775808 ≤ i) (_hi1 : i ≤ 9223372036854775807) :
    Calls Try.prog 25 #[.slice A n c, .int .i64 i] w fun e w' => RetL w e w' (fare L && inB i 1 128) (lst (fprim L) i.toNat) := by
  cases hV : fare L
  · go_enter Try.func25, Try.ntmps25
    go_wp2_with (go_at_call 49; refine Calls.mono (c_l03Are (h.below (Below.mono (w := w) (by repeat (first | assumption | exact Ext.refl _ | apply Ext.drewN | apply Ext.drew | apply Ext.alloc | (refine Ext.trans ?_ (by assumption)) | (refine Ext.set ?_ (by dsimp only; omega) _))) hB)) hn) ?_; rw [hV]; rintro e w1 ⟨rfl, rfl⟩)
    go_ret2
    exact retL_no rfl (by repeat (first | assumption | exact Ext.refl _ | apply Ext.drewN | apply Ext.drew | apply Ext.alloc | (refine Ext.trans ?_ (by assumption)) | (refine Ext.set ?_ (by dsimp only; omega) _)))
  rw [Bool.true_and]
  cases hW : inB i 1 128
  · go_enter Try.func25, Try.ntmps25
    go_wp2_with (first | (go_at_call 49; refine Calls.mono (c_l03Are (h.below (Below.mono (w := w) (by repeat (first | assumption | exact Ext.refl _ | apply Ext.drewN | apply Ext.drew | apply Ext.alloc | (refine Ext.trans ?_ (by assumption)) | (refine Ext.set ?_ (by dsimp only; omega) _))) hB)) hn) ?_; rw [hV]; rintro e w1 ⟨rfl, rfl⟩) | (go_at_call 54; refine Calls.mono (c_l00In _ _ _ _) ?_; rw [hW]; rintro e w1 ⟨rfl, rfl⟩))
    go_ret2
    exact retL_no rfl (by repeat (first | assumption | exact Ext.refl _ | apply Ext.drewN | apply Ext.drew | apply Ext.alloc | (refine Ext.trans ?_ (by assumption)) | (refine Ext.set ?_ (by dsimp only; omega) _)))
  obtain ⟨g1, g2⟩ := inB_of hW
  obtain ⟨N, rfl⟩ : ∃ N : Nat, i = (N : Int) := ⟨i.toNat, by omega⟩
  rw [Int.toNat_natCast]
  have hn24 : 1 ≤ n ∧ n ≤ 24 := by
    have := hV; unfold fare at this; rw [Bool.and_eq_true] at this
    have := elen_of this.2
    have := h.len; omega
  have hl := Lib.hid h.len
  have hmk := fun W => run_make_row' (P := Try.prog) 22 29 (.float .f32 0) 4 Try.underlying22 info_f32 rfl .i64 .i64 N (by omega) (by omega) W
  go_enter Try.func25, Try.ntmps25
  go_wp2_with (first | (go_at_call 49; refine Calls.mono (c_l03Are (h.below (Below.mono (w := w) (by repeat (first | assumption | exact Ext.refl _ | apply Ext.drewN | apply Ext.drew | apply Ext.alloc | (refine Ext.trans ?_ (by assumption)) | (refine Ext.set ?_ (by dsimp only; omega) _))) hB)) hn) ?_; rw [hV]; rintro e w1 ⟨rfl, rfl⟩) | (go_at_call 54; refine Calls.mono (c_l00In _ _ _ _) ?_; rw [hW]; rintro e w1 ⟨rfl, rfl⟩))
  go_loopw [7, 21] (fun t y wr => ∃ (k q : Nat) (cs : Array Value), k ≤ n ∧ y = .int .i64 k ∧ t = .float .f32 q ∧ Fl .f32 q (ftr L k) ∧ wr.heap[w.heap.size]? = some (.cells cs 29 (0, 0)) ∧ cs.size = N ∧ RowF cs N (fsetK (fprim L) k) ∧ Ext w wr) (fun _ y _ => n - (intOf y).toNat)
  case atStart => exact ⟨0, _, _, Nat.zero_le _, rfl, rfl, fl_fu, heap_alloc_new _ _, size_madeCells _ _, RowF.made (fun j _ => fsetK_zero _ j), (by repeat (first | assumption | exact Ext.refl _ | apply Ext.drewN | apply Ext.drew | apply Ext.alloc | (refine Ext.trans ?_ (by assumption)) | (refine Ext.set ?_ (by dsimp only; omega) _)))⟩
  case round =>
    obtain ⟨k, q, cs, hk, rfl, rfl, hq, hg, hsz, hxs, hx⟩ := hrel
    have HX := Lib.hid hxs
    have HG := Lib.hid hg
    have HS := Lib.hid hsz
    clear hxs hg hsz
    by_cases hlt : k < n
    · obtain ⟨b1, o1, t1, rfl, hb1, hc1, ht1⟩ := (h.below (hx.mono hB)).cell hlt
      have hT : fprim L k = fop .mul .f32 (L.getD k none) (ftr L k) := by unfold fprim; rw [if_pos (by rw [hl.out]; omega)]
      have HT := Lib.hid hT
      have hU : ftr L (k + 1) = fop .mul .f32 (ftr L k) (fop .sub .f32 fu (fop .mul .f32 (L.getD k none) (L.getD k none))) := rfl
      have HU := Lib.hid hU
      clear hT hU
      have hlt' : (k : Int) < (n : Int) := by omega
      obtain ⟨Rm, Nm, qm, fm⟩ := fop_any (P := Try.prog) (op := .mul) rfl 29
      obtain ⟨Rs, Ns, qs, fs⟩ := fop_any (P := Try.prog) (op := .sub) rfl 29
      have FM := Lib.hid fm
      have FS := Lib.hid fs
      clear fm fs
      by_cases hkN : k < N
      · have hkN' : (k : Int) < (N : Int) := by omega
        obtain ⟨u0, e0, z0⟩ := own_cell HG.out HS.out hkN
        go_wp2_with (fail)
        go_region_law (fail)
        all_goals
          go_wp2_with (fail)
          refine ⟨⟨k + 1, _, cs.setIfInBounds k (.float .f32 (Rm t1 q wr)), by omega, by go_num, rfl, by rw [HU.out]; exact FM.out _ _ _ _ _ hq (FS.out _ _ _ _ _ fl_fu (FM.out _ _ _ _ _ ht1 ht1)), ?_, by rw [Array.size_setIfInBounds]; exact HS.out, HX.out.set HS.out (by rw [fsetK_at, HT.out]; exact FM.out _ _ _ _ _ ht1 hq) (fun j _ hj => fsetK_other _ hj), (by repeat (first | assumption | exact Ext.refl _ | apply Ext.drewN | apply Ext.drew | apply Ext.alloc | (refine Ext.trans ?_ (by assumption)) | (refine Ext.set ?_ (by dsimp only; omega) _)))⟩, by simp [intOf]; omega⟩
          exact blk_set1 (w := World.drewN wr _) HG.out k _
      · have hkN' : ¬ (k : Int) < (N : Int) := by omega
        go_wp2_with (fail)
        go_region_law (fail)
        all_goals
          go_wp2_with (fail)
          exact ⟨⟨k + 1, _, cs, by omega, by go_num, rfl, by rw [HU.out]; exact FM.out _ _ _ _ _ hq (FS.out _ _ _ _ _ fl_fu (FM.out _ _ _ _ _ ht1 ht1)), by exact HG.out, HS.out, HX.out.keep (fun j hj => fsetK_other _ (by omega)), (by repeat (first | assumption | exact Ext.refl _ | apply Ext.drewN | apply Ext.drew | apply Ext.alloc | (refine Ext.trans ?_ (by assumption)) | (refine Ext.set ?_ (by dsimp only; omega) _)))⟩, by simp [intOf]; omega⟩
    · obtain rfl : k = n := by omega
      obtain ⟨cs', hs', hx'⟩ : ∃ cs' : Array Value, cs' = cs ∧ RowF cs' N (fprim L) := ⟨cs, rfl, HX.out.keep (fun j hj => by
          by_cases hjk : j < k
          · exact fsetK_all _ hjk
          · unfold fsetK; rw [if_neg hjk]; unfold fprim; rw [if_neg (by rw [hl.out]; omega)])⟩
      subst hs'
      have ho5 := own_lst HG.out HS.out hx'
      go_wp2_with (fail)
      go_ret2
      exact ⟨_, _, _, rfl, ho5, hx⟩

set_option maxRecDepth 20000 in
set_option maxHeartbeats 4000000 in
theorem c_impl_PrimariesOf {w : World} {B n c : Nat} {A : Option Addr} {L : List (Option Nat)} (h : RdF w B A n L) (hB : B ≤ w.heap.size) (hn : n ≤ 1048576) (hcap : n ≤ c) {i : Int} (_hi0 : -9223372036854775808 ≤ i) (_hi1 : i ≤ 9223372036854775807) :
    Calls Try.prog 26 #[.slice A n c, .int .i64 i] w fun e w' => RetL w e w' (fare L && inB i 1 128) (lst (fprim L) i.toNat) := by
  cases hV : fare L
  · go_enter Try.func26, Try.ntmps26
    go_wp2_with (go_at_call 17; refine Calls.mono (c_AreCoefficients (h.below (Below.mono (w := w) (by repeat (first | assumption | exact Ext.refl _ | apply Ext.drewN | apply Ext.drew | apply Ext.alloc | (refine Ext.trans ?_ (by assumption)) | (refine Ext.set ?_ (by dsimp only; omega) _))) hB)) hn) ?_; rw [hV]; rintro e w1 ⟨rfl, rfl⟩)
    go_ret2
    exact retL_no rfl (by repeat (first | assumption | exact Ext.refl _ | apply Ext.drewN | apply Ext.drew | apply Ext.alloc | (refine Ext.trans ?_ (by assumption)) | (refine Ext.set ?_ (by dsimp only; omega) _)))
  rw [Bool.true_and]
  cases hW : inB i 1 128
  · go_enter Try.func26, Try.ntmps26
    go_wp2_with (first | (go_at_call 17; refine Calls.mono (c_AreCoefficients (h.below (Below.mono (w := w) (by repeat (first | assumption | exact Ext.refl _ | apply Ext.drewN | apply Ext.drew | apply Ext.alloc | (refine Ext.trans ?_ (by assumption)) | (refine Ext.set ?_ (by dsimp only; omega) _))) hB)) hn) ?_; rw [hV]; rintro e w1 ⟨rfl, rfl⟩) | (go_at_call 55; refine Calls.mono (c_isTraceLength _ _) ?_; rw [hW]; rintro e w1 ⟨rfl, rfl⟩))
    go_ret2
    exact retL_no rfl (by repeat (first | assumption | exact Ext.refl _ | apply Ext.drewN | apply Ext.drew | apply Ext.alloc | (refine Ext.trans ?_ (by assumption)) | (refine Ext.set ?_ (by dsimp only; omega) _)))
  obtain ⟨g1, g2⟩ := inB_of hW
  obtain ⟨N, rfl⟩ : ∃ N : Nat, i = (N : Int) := ⟨i.toNat, by omega⟩
  rw [Int.toNat_natCast]
  have hn24 : 1 ≤ n ∧ n ≤ 24 := by
    have := hV; unfold fare at this; rw [Bool.and_eq_true] at this
    have := elen_of this.2
    have := h.len; omega
  have hl := Lib.hid h.len
  have hmk := fun W => run_make_row' (P := Try.prog) 22 29 (.float .f32 0) 4 Try.underlying22 info_f32 rfl .i64 .i64 N (by omega) (by omega) W
  obtain ⟨b0, o0, rfl, hb0, _⟩ := h.at_ 0 (by omega)
  have hcap' : (n : Int) ≤ (c : Int) := by omega
  by_cases hnN : n ≤ N
  · have hmin : ¬ (N : Int) < (n : Int) := by omega
    go_enter Try.func26, Try.ntmps26
    go_wp2_with (first | (go_at_call 17; refine Calls.mono (c_AreCoefficients (h.below (Below.mono (w := w) (by repeat (first | assumption | exact Ext.refl _ | apply Ext.drewN | apply Ext.drew | apply Ext.alloc | (refine Ext.trans ?_ (by assumption)) | (refine Ext.set ?_ (by dsimp only; omega) _))) hB)) hn) ?_; rw [hV]; rintro e w1 ⟨rfl, rfl⟩) | (go_at_call 55; refine Calls.mono (c_isTraceLength _ _) ?_; rw [hW]; rintro e w1 ⟨rfl, rfl⟩))
    go_loopw [7, 28] (fun t y wr => ∃ (k q : Nat) (cs : Array Value), k ≤ n ∧ y = .int .i64 k ∧ t = .float .f32 q ∧ Fl .f32 q (ftr L k) ∧ wr.heap[w.heap.size]? = some (.cells cs 29 (0, 0)) ∧ cs.size = N ∧ RowF cs N (fsetK (fprim L) k) ∧ Ext w wr) (fun _ y _ => n - (intOf y).toNat)
    case atStart => exact ⟨0, _, _, Nat.zero_le _, rfl, rfl, fl_fu, heap_alloc_new _ _, size_madeCells _ _, RowF.made (fun j _ => fsetK_zero _ j), (by repeat (first | assumption | exact Ext.refl _ | apply Ext.drewN | apply Ext.drew | apply Ext.alloc | (refine Ext.trans ?_ (by assumption)) | (refine Ext.set ?_ (by dsimp only; omega) _)))⟩
    case round =>
      obtain ⟨k, q, cs, hk, rfl, rfl, hq, hg, hsz, hxs, hx⟩ := hrel
      have HX := Lib.hid hxs
      have HG := Lib.hid hg
      have HS := Lib.hid hsz
      clear hxs hg hsz
      by_cases hltK : k < n
      · have hlt : k < n := by omega
        obtain ⟨b1, o1, t1, hA, hb1, hc1, ht1⟩ := (h.below (hx.mono hB)).cell hlt
        cases hA
        have hT : fprim L k = fop .mul .f32 (L.getD k none) (ftr L k) := by unfold fprim; rw [if_pos (by rw [hl.out]; omega)]
        have HT := Lib.hid hT
        have hU : ftr L (k + 1) = fop .mul .f32 (ftr L k) (fop .sub .f32 fu (fop .mul .f32 (L.getD k none) (L.getD k none))) := rfl
        have HU := Lib.hid hU
        clear hT hU
        have hlt' : (k : Int) < (n : Int) := by omega
        have hkN' : (k : Int) < (N : Int) := by omega
        obtain ⟨u0, e0, z0⟩ := own_cell HG.out HS.out (show k < N by omega)
        go_wp2_with (first | (go_at_call 53; refine Calls.mono (c_mulNumbers ht1 hq _) ?_; rw [← HT.out]; rintro e w_r5 ⟨r5, rfl, hr5, nr5, rfl⟩) | (go_at_call 53; refine Calls.mono (c_mulNumbers ht1 ht1 _) ?_; rintro e w_r6 ⟨r6, rfl, hr6, nr6, rfl⟩) | (refine upon_fop (op := .sub) rfl fl_fu hr6 ?_; intro r7 n7 hr7) | (go_at_call 53; refine Calls.mono (c_mulNumbers hq hr7 _) ?_; rw [← HU.out]; rintro e w_r8 ⟨r8, rfl, hr8, nr8, rfl⟩))
        refine ⟨⟨k + 1, r8, cs.setIfInBounds k (.float .f32 r5), by omega, by go_num, rfl, hr8, ?_, by rw [Array.size_setIfInBounds]; exact HS.out, HX.out.set HS.out (by rw [fsetK_at]; exact hr5) (fun j _ hj => fsetK_other _ hj), (by repeat (first | assumption | exact Ext.refl _ | apply Ext.drewN | apply Ext.drew | apply Ext.alloc | (refine Ext.trans ?_ (by assumption)) | (refine Ext.set ?_ (by dsimp only; omega) _)))⟩, by simp [intOf]; omega⟩
        exact blk_set1 (w := World.drewN wr _) HG.out k _
      · obtain rfl : k = n := by omega
        obtain ⟨cs', hs', hx'⟩ : ∃ cs' : Array Value, cs' = cs ∧ RowF cs' N (fprim L) := ⟨cs, rfl, HX.out.keep (fun j hj => by
            by_cases hjk : j < k
            · exact fsetK_all _ hjk
            · unfold fsetK; rw [if_neg hjk]; unfold fprim; rw [if_neg (by rw [hl.out]; omega)])⟩
        subst hs'
        have ho5 := own_lst HG.out HS.out hx'
        go_wp2_with (fail)
        go_ret2
        exact ⟨_, _, _, rfl, ho5, hx⟩
  · have hmin : (N : Int) < (n : Int) := by omega
    have hcap2 : (N : Int) ≤ (c : Int) := by omega
    go_enter Try.func26, Try.ntmps26
    go_wp2_with (first | (go_at_call 17; refine Calls.mono (c_AreCoefficients (h.below (Below.mono (w := w) (by repeat (first | assumption | exact Ext.refl _ | apply Ext.drewN | apply Ext.drew | apply Ext.alloc | (refine Ext.trans ?_ (by assumption)) | (refine Ext.set ?_ (by dsimp only; omega) _))) hB)) hn) ?_; rw [hV]; rintro e w1 ⟨rfl, rfl⟩) | (go_at_call 55; refine Calls.mono (c_isTraceLength _ _) ?_; rw [hW]; rintro e w1 ⟨rfl, rfl⟩))
    go_loopw [7, 28] (fun t y wr => ∃ (k q : Nat) (cs : Array Value), k ≤ N ∧ y = .int .i64 k ∧ t = .float .f32 q ∧ Fl .f32 q (ftr L k) ∧ wr.heap[w.heap.size]? = some (.cells cs 29 (0, 0)) ∧ cs.size = N ∧ RowF cs N (fsetK (fprim L) k) ∧ Ext w wr) (fun _ y _ => N - (intOf y).toNat)
    case atStart => exact ⟨0, _, _, Nat.zero_le _, rfl, rfl, fl_fu, heap_alloc_new _ _, size_madeCells _ _, RowF.made (fun j _ => fsetK_zero _ j), (by repeat (first | assumption | exact Ext.refl _ | apply Ext.drewN | apply Ext.drew | apply Ext.alloc | (refine Ext.trans ?_ (by assumption)) | (refine Ext.set ?_ (by dsimp only; omega) _)))⟩
    case round =>
      obtain ⟨k, q, cs, hk, rfl, rfl, hq, hg, hsz, hxs, hx⟩ := hrel
      have HX := Lib.hid hxs
      have HG := Lib.hid hg
      have HS := Lib.hid hsz
      clear hxs hg hsz
      by_cases hltK : k < N
      · have hlt : k < n := by omega
        obtain ⟨b1, o1, t1, hA, hb1, hc1, ht1⟩ := (h.below (hx.mono hB)).cell hlt
        cases hA
        have hT : fprim L k = fop .mul .f32 (L.getD k none) (ftr L k) := by unfold fprim; rw [if_pos (by rw [hl.out]; omega)]
        have HT := Lib.hid hT
        have hU : ftr L (k + 1) = fop .mul .f32 (ftr L k) (fop .sub .f32 fu (fop .mul .f32 (L.getD k none) (L.getD k none))) := rfl
        have HU := Lib.hid hU
        clear hT hU
        have hlt' : (k : Int) < (n : Int) := by omega
        have hkN' : (k : Int) < (N : Int) := by omega
        obtain ⟨u0, e0, z0⟩ := own_cell HG.out HS.out (show k < N by omega)
        go_wp2_with (first | (go_at_call 53; refine Calls.mono (c_mulNumbers ht1 hq _) ?_; rw [← HT.out]; rintro e w_r5 ⟨r5, rfl, hr5, nr5, rfl⟩) | (go_at_call 53; refine Calls.mono (c_mulNumbers ht1 ht1 _) ?_; rintro e w_r6 ⟨r6, rfl, hr6, nr6, rfl⟩) | (refine upon_fop (op := .sub) rfl fl_fu hr6 ?_; intro r7 n7 hr7) | (go_at_call 53; refine Calls.mono (c_mulNumbers hq hr7 _) ?_; rw [← HU.out]; rintro e w_r8 ⟨r8, rfl, hr8, nr8, rfl⟩))
        refine ⟨⟨k + 1, r8, cs.setIfInBounds k (.float .f32 r5), by omega, by go_num, rfl, hr8, ?_, by rw [Array.size_setIfInBounds]; exact HS.out, HX.out.set HS.out (by rw [fsetK_at]; exact hr5) (fun j _ hj => fsetK_other _ hj), (by repeat (first | assumption | exact Ext.refl _ | apply Ext.drewN | apply Ext.drew | apply Ext.alloc | (refine Ext.trans ?_ (by assumption)) | (refine Ext.set ?_ (by dsimp only; omega) _)))⟩, by simp [intOf]; omega⟩
        exact blk_set1 (w := World.drewN wr _) HG.out k _
      · obtain rfl : k = N := by omega
        obtain ⟨cs', hs', hx'⟩ : ∃ cs' : Array Value, cs' = cs ∧ RowF cs' k (fprim L) := ⟨cs, rfl, HX.out.keep (fun j hj => by
            by_cases hjk : j < k
            · exact fsetK_all _ hjk
            · unfold fsetK; rw [if_neg hjk]; unfold fprim; rw [if_neg (by rw [hl.out]; omega)])⟩
        subst hs'
        have ho5 := own_lst HG.out HS.out hx'
        go_wp2_with (fail)
        go_ret2
        exact ⟨_, _, _, rfl, ho5, hx⟩

theorem both_PrimariesOf {n0 : Nat} {L0 : List (Option Nat)} (_hl0 : L0.length = n0) (hn0 : n0 ≤ 1048576) {i1 : Int} (hi1 : -9223372036854775808 ≤ i1) (hj1 : i1 ≤ 9223372036854775807) :
    ∃ ok Q q, q ≤ 1048576 ∧ (∀ W : World, ∀ (B0 : Nat) (A0 : Option Addr) (c0 : Nat), RdF W B0 A0 n0 L0 → B0 ≤ W.heap.size → n0 ≤ c0 → Calls Try.prog 25 #[.slice A0 n0 c0, .int .i64 i1] W fun e w' => RetQ W e w' ok q Q) ∧
      (∀ W : World, ∀ (B0 : Nat) (A0 : Option Addr) (c0 : Nat), RdF W B0 A0 n0 L0 → B0 ≤ W.heap.size → n0 ≤ c0 → Calls Try.prog 26 #[.slice A0 n0 c0, .int .i64 i1] W fun e w' => RetQ W e w' ok q Q) :=
  ⟨fare L0 && inB i1 1 128, outL (fare L0 && inB i1 1 128) (lst (fprim L0) i1.toNat), (outL (fare L0 && inB i1 1 128) (lst (fprim L0) i1.toNat)).length, by
    cases hk : (fare L0 && inB i1 1 128)
    · exact Nat.zero_le _
    · rw [Bool.and_eq_true] at hk
      have := inB_of hk.2
      show (lst _ _).length ≤ _
      rw [lst_len]; omega, fun W _ _ _ h0 hB0 hc0 => Calls.mono (c_spec_PrimariesOf (w := W) h0 hB0 hn0 hc0 hi1 hj1) (fun _ _ hr => hr.q), fun W _ _ _ h0 hB0 hc0 => Calls.mono (c_impl_PrimariesOf (w := W) h0 hB0 hn0 hc0 hi1 hj1) (fun _ _ hr => hr.q)⟩

end Go.Proofs.Ythgmkipifolbfab
