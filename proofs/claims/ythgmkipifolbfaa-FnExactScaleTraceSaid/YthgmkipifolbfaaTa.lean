/- Contracts: traces times a number, and less with time, on both sides. Condition: the list is read. -/
import Derived.Test.YthgmkipifolbfaaTr
namespace Go.Proofs.Ythgmkipifolbfaa
open Go.RowKit Ieee

set_option maxRecDepth 20000 in
set_option maxHeartbeats 4000000 in
theorem c_l03Scale {w : World} {B n c : Nat} {A : Option Addr} {L : List (Option Nat)} (h : RdF w B A n L) (hB : B ≤ w.heap.size) (hn : n ≤ 1048576) {p : Nat} {P : Option Nat} (fp : Fl .f32 p P) :
    Calls Try.prog 52 #[.slice A n c, .float .f32 p] w fun e w' => ∃ v, e = .returned v ∧ OwF w' w.heap.size v n (fscale L P) ∧ Ext w w' := by
  obtain ⟨i0, hi, hz0, hz1, hz2⟩ := info_parts info_f32
  go_enter Try.func52, Try.ntmps52
  go_wp2_with (fail)
  go_loopw [5, 10] (fun v  i wr => ∃ (k : Nat) (xs : List Value), k ≤ n ∧ i = .int .i64 k ∧ wr.ownsRow w.heap.size 26 1 v k xs ∧ (∀ j, j < k → ∃ r, xs[j]? = some (.float .f32 r) ∧ Fl .f32 r (fscale L P j)) ∧ Ext w wr) (fun _ i _ => n - (intOf i).toNat)
  case atStart => exact ⟨0, [], Nat.zero_le _, rfl, World.ownsRow_made _ _ 0 (Nat.le_refl _) (Nat.zero_le _) rfl, fun j hj => absurd hj (Nat.not_lt_zero _), (by repeat (first | assumption | exact Ext.refl _ | apply Ext.drewN | apply Ext.drew | apply Ext.alloc | (refine Ext.trans ?_ (by assumption)) | (refine Ext.set ?_ (by dsimp only; omega) _)))⟩
  case round =>
    obtain ⟨k, xs, hk, rfl, hown, hxs, hx⟩ := hrel
    have HX := Lib.hid hxs
    clear hxs
    by_cases hlt : k < n
    · obtain ⟨b1, o1, t1, rfl, hb1, hc1, ht1⟩ := (h.below (hx.mono hB)).cell hlt
      have hHT' : fscale L P k = fop .mul .f32 (L.getD k none) P := rfl
      have HT := Lib.hid hHT'
      clear hHT'
      have hlt' : (k : Int) < (n : Int) := by omega
      go_wp2_with (first | (apply upon_fop rfl; (exact ht1); (exact fp); intro r5 nr5 hr5; rw [← HT.out] at hr5) | (at_builtin; refine wpList_append_own _ rfl _ _ 22 rfl w.heap.size 26 i0 (.float .f32 0) 1 4 Try.underlying22 hi hz0 hz1 hz2 rfl (by decide) _ _ _ rfl (World.ownsRow.alloc (w := wr.drewN _) hown _) ⟨wr.heap.size, 0, none⟩ 1 1 [.float .f32 r5] rfl rfl ?_ ?_ ?_ ?_ ?_ ?_))
      all_goals first
        | exact one_new (w := wr.drewN _)
        | (intro u hu; simp at hu; subst hu; rfl)
        | (unfold maxLen; omega)
        | omega
        | (have := hx.size; simp; omega)
        | (intro v' w4 hown' hgrow _
           have hl' : xs.length = k := by have := hown.1; omega
           have hx' : Ext w w4 := grown_ext (Ext.alloc (Ext.drewN hx _) _) (World.ownsRow.alloc (w := wr.drewN _) hown _) hgrow
           have HXX := Lib.hid (row_step hl' HX.out hr5)
           clear hown hgrow hx
           go_wp2_with (fail)
           exact ⟨⟨k + 1, _, by omega, by go_num, hown', HXX.out, hx'⟩, by simp [intOf]; omega⟩)
    · obtain rfl : k = n := by omega
      go_wp2_with (fail)
      go_ret
      exact ⟨_, rfl, ⟨xs, hown, HX.out⟩, hx⟩

set_option maxRecDepth 20000 in
set_option maxHeartbeats 4000000 in
theorem c_spec_ScaleTrace {w : World} {B n c : Nat} {A : Option Addr} {L : List (Option Nat)} (h : RdF w B A n L) (hB : B ≤ w.heap.size) (hn : n ≤ 1048576) {p : Nat} {P : Option Nat} (fp : Fl .f32 p P) :
    Calls Try.prog 27 #[.slice A n c, .float .f32 p] w fun e w' => RetL w e w' (tlen n) (lst (fscale L P) n) := by
  cases hV : tlen n
  · go_enter Try.func27, Try.ntmps27
    go_wp2_with (go_at_call 44; refine Calls.mono (c_l03Is _ _ _ _) ?_; rw [hV]; rintro e w1 ⟨rfl, rfl⟩)
    go_ret2
    exact retL_no rfl (by repeat (first | assumption | exact Ext.refl _ | apply Ext.drewN | apply Ext.drew | apply Ext.alloc | (refine Ext.trans ?_ (by assumption)) | (refine Ext.set ?_ (by dsimp only; omega) _)))
  go_enter Try.func27, Try.ntmps27
  go_wp2_with (first | (go_at_call 44; refine Calls.mono (c_l03Is _ _ _ _) ?_; rw [hV]; rintro e w1 ⟨rfl, rfl⟩) | (go_at_call 52; refine Calls.mono (c_l03Scale h hB hn fp) ?_; rintro e w2 ⟨v, rfl, ho, hx2⟩; obtain ⟨A2, c2, rfl, ho2⟩ := ho.owl))
  go_ret2
  exact ⟨_, _, _, rfl, ho2, hx2⟩

set_option maxRecDepth 20000 in
set_option maxHeartbeats 4000000 in
theorem c_impl_ScaleTrace {w : World} {B n c : Nat} {A : Option Addr} {L : List (Option Nat)} (h : RdF w B A n L) (hB : B ≤ w.heap.size) (hn : n ≤ 1048576) {p : Nat} {P : Option Nat} (fp : Fl .f32 p P) :
    Calls Try.prog 28 #[.slice A n c, .float .f32 p] w fun e w' => RetL w e w' (tlen n) (lst (fscale L P) n) := by
  cases hV : tlen n
  · go_enter Try.func28, Try.ntmps28
    go_wp2_with (go_at_call 17; refine Calls.mono (c_IsTrace _ _ _ _) ?_; rw [hV]; rintro e w1 ⟨rfl, rfl⟩)
    go_ret2
    exact retL_no rfl (by repeat (first | assumption | exact Ext.refl _ | apply Ext.drewN | apply Ext.drew | apply Ext.alloc | (refine Ext.trans ?_ (by assumption)) | (refine Ext.set ?_ (by dsimp only; omega) _)))
  have hmk := fun W => run_make_row' (P := Try.prog) 22 26 (.float .f32 0) 4 Try.underlying22 info_f32 rfl .i64 .i64 n (by omega) (by omega) W
  go_enter Try.func28, Try.ntmps28
  go_wp2_with (go_at_call 17; refine Calls.mono (c_IsTrace _ _ _ _) ?_; rw [hV]; rintro e w1 ⟨rfl, rfl⟩)
  go_loopw [17] (fun i wr => ∃ (k : Nat) (cs : Array Value), k ≤ n ∧ i = .int .i64 k ∧ wr.heap[w.heap.size]? = some (.cells cs 26 (0, 0)) ∧ cs.size = n ∧ (∀ j, j < k → ∃ r, cs[j]? = some (.float .f32 r) ∧ Fl .f32 r (fscale L P j)) ∧ Ext w wr) (fun i _ => n - (intOf i).toNat)
  case atStart => exact ⟨0, _, Nat.zero_le _, rfl, heap_alloc_new _ _, size_madeCells _ _, fun j hj => absurd hj (Nat.not_lt_zero _), (by repeat (first | assumption | exact Ext.refl _ | apply Ext.drewN | apply Ext.drew | apply Ext.alloc | (refine Ext.trans ?_ (by assumption)) | (refine Ext.set ?_ (by dsimp only; omega) _)))⟩
  case round =>
    obtain ⟨k, cs, hk, rfl, hg, hsz, hxs, hx⟩ := hrel
    have HX := Lib.hid hxs
    have HG := Lib.hid hg
    have HS := Lib.hid hsz
    clear hxs hg hsz
    by_cases hlt : k < n
    · obtain ⟨u0, e0, z0⟩ := own_cell HG.out HS.out hlt
      obtain ⟨b1, o1, t1, rfl, hb1, hc1, ht1⟩ := (h.below (hx.mono hB)).cell hlt
      have hHT' : fscale L P k = fop .mul .f32 (L.getD k none) P := rfl
      have HT := Lib.hid hHT'
      clear hHT'
      have hlt' : (k : Int) < (n : Int) := by omega
      go_wp2_with (go_at_call 53; refine Calls.mono (c_mulNumbers ht1 fp _) ?_; rw [← HT.out]; rintro e w_r5 ⟨r5, rfl, hr5, nr5, rfl⟩)
      exact ⟨⟨k + 1, cs.setIfInBounds k (.float .f32 r5), by omega, by go_num, by exact blk_set1 (w := World.drewN wr _) HG.out k _, by rw [Array.size_setIfInBounds]; exact HS.out, pre_setF (F := fscale L P) (by have := HS.out; omega) HX.out hr5, (by repeat (first | assumption | exact Ext.refl _ | apply Ext.drewN | apply Ext.drew | apply Ext.alloc | (refine Ext.trans ?_ (by assumption)) | (refine Ext.set ?_ (by dsimp only; omega) _)))⟩, by simp [intOf]; omega⟩
    · obtain rfl : k = n := by omega
      have ho5 := own_lst HG.out HS.out HX.out
      go_wp2_with (fail)
      go_ret2
      exact ⟨_, _, _, rfl, ho5, hx⟩

set_option maxRecDepth 20000 in
set_option maxHeartbeats 4000000 in
theorem c_spec_KeepTrace {w : World} {B n c : Nat} {A : Option Addr} {L : List (Option Nat)} (h : RdF w B A n L) (hB : B ≤ w.heap.size) (hn : n ≤ 1048576) {p : Nat} {P : Option Nat} (fp : Fl .f32 p P) :
    Calls Try.prog 40 #[.slice A n c, .float .f32 p] w fun e w' => RetL w e w' (tlen n) (lst (fkeep L P) n) := by
  cases hV : tlen n
  · go_enter Try.func40, Try.ntmps40
    go_wp2_with (go_at_call 44; refine Calls.mono (c_l03Is _ _ _ _) ?_; rw [hV]; rintro e w1 ⟨rfl, rfl⟩)
    go_ret2
    exact retL_no rfl (by repeat (first | assumption | exact Ext.refl _ | apply Ext.drewN | apply Ext.drew | apply Ext.alloc | (refine Ext.trans ?_ (by assumption)) | (refine Ext.set ?_ (by dsimp only; omega) _)))
  obtain ⟨i0, hi, hz0, hz1, hz2⟩ := info_parts info_f32
  go_enter Try.func40, Try.ntmps40
  go_wp2_with (go_at_call 44; refine Calls.mono (c_l03Is _ _ _ _) ?_; rw [hV]; rintro e w1 ⟨rfl, rfl⟩)
  go_loopw [6, 7, 15] (fun v f i wr => ∃ (k : Nat) (q : Nat) (xs : List Value), k ≤ n ∧ i = .int .i64 k ∧ f = .float .f32 q ∧ Fl .f32 q (fpow P k) ∧ wr.ownsRow w.heap.size 26 1 v k xs ∧ (∀ j, j < k → ∃ r, xs[j]? = some (.float .f32 r) ∧ Fl .f32 r (fkeep L P j)) ∧ Ext w wr) (fun _ _ i _ => n - (intOf i).toNat)
  case atStart => exact ⟨0, _, [], Nat.zero_le _, rfl, rfl, fl_fu, World.ownsRow_made _ _ 0 (Nat.le_refl _) (Nat.zero_le _) rfl, fun j hj => absurd hj (Nat.not_lt_zero _), (by repeat (first | assumption | exact Ext.refl _ | apply Ext.drewN | apply Ext.drew | apply Ext.alloc | (refine Ext.trans ?_ (by assumption)) | (refine Ext.set ?_ (by dsimp only; omega) _)))⟩
  case round =>
    obtain ⟨k, q, xs, hk, rfl, rfl, hq, hown, hxs, hx⟩ := hrel
    have HX := Lib.hid hxs
    clear hxs
    by_cases hlt : k < n
    · obtain ⟨b1, o1, t1, rfl, hb1, hc1, ht1⟩ := (h.below (hx.mono hB)).cell hlt
      have hHT' : fkeep L P k = fop .mul .f32 (L.getD k none) (fpow P k) := rfl
      have HT := Lib.hid hHT'
      clear hHT'
      have hHU' : fpow P (k + 1) = fop .mul .f32 (fpow P k) P := rfl
      have HU := Lib.hid hHU'
      clear hHU'
      have hlt' : (k : Int) < (n : Int) := by omega
      go_wp2_with (first | (apply upon_fop rfl; (exact ht1); (exact hq); intro r5 nr5 hr5; rw [← HT.out] at hr5) | (at_builtin; refine wpList_append_own _ rfl _ _ 22 rfl w.heap.size 26 i0 (.float .f32 0) 1 4 Try.underlying22 hi hz0 hz1 hz2 rfl (by decide) _ _ _ rfl (World.ownsRow.alloc (w := wr.drewN _) hown _) ⟨wr.heap.size, 0, none⟩ 1 1 [.float .f32 r5] rfl rfl ?_ ?_ ?_ ?_ ?_ ?_))
      all_goals first
        | exact one_new (w := wr.drewN _)
        | (intro u hu; simp at hu; subst hu; rfl)
        | (unfold maxLen; omega)
        | omega
        | (have := hx.size; simp; omega)
        | (intro v' w4 hown' hgrow _
           have hl' : xs.length = k := by have := hown.1; omega
           have hx' : Ext w w4 := grown_ext (Ext.alloc (Ext.drewN hx _) _) (World.ownsRow.alloc (w := wr.drewN _) hown _) hgrow
           have HXX := Lib.hid (row_step hl' HX.out hr5)
           clear hown hgrow hx
           go_wp2_with (apply upon_fop rfl; (exact hq); (exact fp); intro r6 nr6 hr6; rw [← HU.out] at hr6)
           exact ⟨⟨k + 1, r6, _, by omega, by go_num, rfl, hr6, by exact hown', HXX.out, Ext.drewN hx' _⟩, by simp [intOf]; omega⟩)
    · obtain rfl : k = n := by omega
      have ho4 : OwF wr w.heap.size _ k (fkeep L P) := ⟨xs, hown, HX.out⟩
      obtain ⟨A4, c4, rfl, ho5⟩ := ho4.owl
      go_wp2_with (fail)
      go_ret2
      exact ⟨_, _, _, rfl, ho5, hx⟩

set_option maxRecDepth 20000 in
set_option maxHeartbeats 4000000 in
theorem c_impl_KeepTrace {w : World} {B n c : Nat} {A : Option Addr} {L : List (Option Nat)} (h : RdF w B A n L) (hB : B ≤ w.heap.size) (hn : n ≤ 1048576) {p : Nat} {P : Option Nat} (fp : Fl .f32 p P) :
    Calls Try.prog 41 #[.slice A n c, .float .f32 p] w fun e w' => RetL w e w' (tlen n) (lst (fkeep L P) n) := by
  cases hV : tlen n
  · go_enter Try.func41, Try.ntmps41
    go_wp2_with (go_at_call 17; refine Calls.mono (c_IsTrace _ _ _ _) ?_; rw [hV]; rintro e w1 ⟨rfl, rfl⟩)
    go_ret2
    exact retL_no rfl (by repeat (first | assumption | exact Ext.refl _ | apply Ext.drewN | apply Ext.drew | apply Ext.alloc | (refine Ext.trans ?_ (by assumption)) | (refine Ext.set ?_ (by dsimp only; omega) _)))
  have hmk := fun W => run_make_row' (P := Try.prog) 22 26 (.float .f32 0) 4 Try.underlying22 info_f32 rfl .i64 .i64 n (by omega) (by omega) W
  go_enter Try.func41, Try.ntmps41
  go_wp2_with (go_at_call 17; refine Calls.mono (c_IsTrace _ _ _ _) ?_; rw [hV]; rintro e w1 ⟨rfl, rfl⟩)
  go_loopw [7, 18] (fun f i wr => ∃ (k : Nat) (q : Nat) (cs : Array Value), k ≤ n ∧ i = .int .i64 k ∧ f = .float .f32 q ∧ Fl .f32 q (fpow P k) ∧ wr.heap[w.heap.size]? = some (.cells cs 26 (0, 0)) ∧ cs.size = n ∧ (∀ j, j < k → ∃ r, cs[j]? = some (.float .f32 r) ∧ Fl .f32 r (fkeep L P j)) ∧ Ext w wr) (fun _ i _ => n - (intOf i).toNat)
  case atStart => exact ⟨0, _, _, Nat.zero_le _, rfl, rfl, fl_fu, heap_alloc_new _ _, size_madeCells _ _, fun j hj => absurd hj (Nat.not_lt_zero _), (by repeat (first | assumption | exact Ext.refl _ | apply Ext.drewN | apply Ext.drew | apply Ext.alloc | (refine Ext.trans ?_ (by assumption)) | (refine Ext.set ?_ (by dsimp only; omega) _)))⟩
  case round =>
    obtain ⟨k, q, cs, hk, rfl, rfl, hq, hg, hsz, hxs, hx⟩ := hrel
    have HX := Lib.hid hxs
    have HG := Lib.hid hg
    have HS := Lib.hid hsz
    clear hxs hg hsz
    by_cases hlt : k < n
    · obtain ⟨u0, e0, z0⟩ := own_cell HG.out HS.out hlt
      obtain ⟨b1, o1, t1, rfl, hb1, hc1, ht1⟩ := (h.below (hx.mono hB)).cell hlt
      have hHT' : fkeep L P k = fop .mul .f32 (L.getD k none) (fpow P k) := rfl
      have HT := Lib.hid hHT'
      clear hHT'
      have hHU' : fpow P (k + 1) = fop .mul .f32 (fpow P k) P := rfl
      have HU := Lib.hid hHU'
      clear hHU'
      have hlt' : (k : Int) < (n : Int) := by omega
      go_wp2_with (first | (go_at_call 53; refine Calls.mono (c_mulNumbers ht1 hq _) ?_; rw [← HT.out]; rintro e w_r5 ⟨r5, rfl, hr5, nr5, rfl⟩) | (go_at_call 53; refine Calls.mono (c_mulNumbers hq fp _) ?_; rw [← HU.out]; rintro e w_r6 ⟨r6, rfl, hr6, nr6, rfl⟩))
      exact ⟨⟨k + 1, r6, cs.setIfInBounds k (.float .f32 r5), by omega, by go_num, rfl, hr6, by exact blk_set1 (w := World.drewN wr _) HG.out k _, by rw [Array.size_setIfInBounds]; exact HS.out, pre_setF (F := fkeep L P) (by have := HS.out; omega) HX.out hr5, (by repeat (first | assumption | exact Ext.refl _ | apply Ext.drewN | apply Ext.drew | apply Ext.alloc | (refine Ext.trans ?_ (by assumption)) | (refine Ext.set ?_ (by dsimp only; omega) _)))⟩, by simp [intOf]; omega⟩
    · obtain rfl : k = n := by omega
      have ho5 := own_lst HG.out HS.out HX.out
      go_wp2_with (fail)
      go_ret2
      exact ⟨_, _, _, rfl, ho5, hx⟩

theorem both_ScaleTrace {n0 : Nat} {L0 : List (Option Nat)} (_hl0 : L0.length = n0) (hn0 : n0 ≤ 1048576) {p1 : Nat} {P1 : Option Nat} (fp1 : Fl .f32 p1 P1) :
    ∃ ok Q q, q ≤ 1048576 ∧ (∀ W : World, ∀ (B0 : Nat) (A0 : Option Addr) (c0 : Nat), RdF W B0 A0 n0 L0 → B0 ≤ W.heap.size → Calls Try.prog 27 #[.slice A0 n0 c0, .float .f32 p1] W fun e w' => RetQ W e w' ok q Q) ∧
      (∀ W : World, ∀ (B0 : Nat) (A0 : Option Addr) (c0 : Nat), RdF W B0 A0 n0 L0 → B0 ≤ W.heap.size → Calls Try.prog 28 #[.slice A0 n0 c0, .float .f32 p1] W fun e w' => RetQ W e w' ok q Q) :=
  ⟨tlen n0, outL (tlen n0) (lst (fscale L0 P1) n0), (outL (tlen n0) (lst (fscale L0 P1) n0)).length, Nat.le_trans (outL_len _ _) (by rw [lst_len]; omega),
    fun W _ _ _ h0 hB0 => Calls.mono (c_spec_ScaleTrace (w := W) h0 hB0 hn0 fp1) (fun _ _ hr => hr.q), fun W _ _ _ h0 hB0 => Calls.mono (c_impl_ScaleTrace (w := W) h0 hB0 hn0 fp1) (fun _ _ hr => hr.q)⟩

theorem both_KeepTrace {n0 : Nat} {L0 : List (Option Nat)} (_hl0 : L0.length = n0) (hn0 : n0 ≤ 1048576) {p1 : Nat} {P1 : Option Nat} (fp1 : Fl .f32 p1 P1) :
    ∃ ok Q q, q ≤ 1048576 ∧ (∀ W : World, ∀ (B0 : Nat) (A0 : Option Addr) (c0 : Nat), RdF W B0 A0 n0 L0 → B0 ≤ W.heap.size → Calls Try.prog 40 #[.slice A0 n0 c0, .float .f32 p1] W fun e w' => RetQ W e w' ok q Q) ∧
      (∀ W : World, ∀ (B0 : Nat) (A0 : Option Addr) (c0 : Nat), RdF W B0 A0 n0 L0 → B0 ≤ W.heap.size → Calls Try.prog 41 #[.slice A0 n0 c0, .float .f32 p1] W fun e w' => RetQ W e w' ok q Q) :=
  ⟨tlen n0, outL (tlen n0) (lst (fkeep L0 P1) n0), (outL (tlen n0) (lst (fkeep L0 P1) n0)).length, Nat.le_trans (outL_len _ _) (by rw [lst_len]; omega),
    fun W _ _ _ h0 hB0 => Calls.mono (c_spec_KeepTrace (w := W) h0 hB0 hn0 fp1) (fun _ _ hr => hr.q), fun W _ _ _ h0 hB0 => Calls.mono (c_impl_KeepTrace (w := W) h0 hB0 hn0 fp1) (fun _ _ hr => hr.q)⟩
end Go.Proofs.Ythgmkipifolbfaa
