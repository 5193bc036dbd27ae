/- Contracts: sums and differences of traces, on both sides. Condition: the lists are read. -/
import Derived.Test.YtcjddnkebdjhoaaTr
namespace Go.Proofs.Ytcjddnkebdjhoaa
open Go.RowKit Ieee


set_option maxRecDepth 20000 in
set_option maxHeartbeats 4000000 in
theorem c_l03Less {w : World} {B n c : Nat} {A : Option Addr} {L : List (Option Nat)} (h : RdF w B A n L) (hB : B ≤ w.heap.size) (hn : n ≤ 1048576) {B' c' : Nat} {A' : Option Addr} {M : List (Option Nat)} (h' : RdF w B' A' n M) (hB' : B' ≤ w.heap.size) :
    Calls Try.prog 45 #[.slice A n c, .slice A' n c'] w fun e w' => ∃ v, e = .returned v ∧ OwF w' w.heap.size v n (fsub2 L M) ∧ Ext w w' := by
  obtain ⟨i0, hi, hz0, hz1, hz2⟩ := info_parts info_f32
  go_enter Try.func45, Try.ntmps45
  go_wp2_with (fail)
  go_loopw [5, 10] (fun v  i wr => ∃ (k : Nat) (xs : List Value), k ≤ n ∧ i = .int .i64 k ∧ wr.ownsRow w.heap.size 29 1 v k xs ∧ (∀ j, j < k → ∃ r, xs[j]? = some (.float .f32 r) ∧ Fl .f32 r (fsub2 L M j)) ∧ Ext w wr) (fun _ i _ => n - (intOf i).toNat)
  case atStart => exact ⟨0, [], Nat.zero_le _, rfl, World.ownsRow_made _ _ 0 (Nat.le_refl _) (Nat.zero_le _) rfl, fun j hj => absurd hj (Nat.not_lt_zero _), (by repeat (first | assumption | exact Ext.refl _ | apply Ext.drewN | apply Ext.drew | apply Ext.alloc | (refine Ext.trans ?_ (by assumption)) | (refine Ext.set ?_ (by dsimp only; omega) _)))⟩
  case round =>
    obtain ⟨k, xs, hk, rfl, hown, hxs, hx⟩ := hrel
    have HX := Lib.hid hxs
    clear hxs
    by_cases hlt : k < n
    · obtain ⟨b1, o1, t1, rfl, hb1, hc1, ht1⟩ := (h.below (hx.mono hB)).cell hlt
      obtain ⟨b2, o2, t2, rfl, hb2, hc2, ht2⟩ := (h'.below (hx.mono hB')).cell hlt
      have hHT' : fsub2 L M k = fop .sub .f32 (L.getD k none) (M.getD k none) := rfl
      have HT := Lib.hid hHT'
      clear hHT'
      have hlt' : (k : Int) < (n : Int) := by omega
      go_wp2_with (fail)
      obtain ⟨R, N, hq, hR⟩ := fop_rule (P := Try.prog) (op := .sub) rfl ht1 ht2 29
      rw [← HT.out] at hR
      have HR := Lib.hid hR
      clear hR
      go_region_law (refine step_append_float (by rfl) (.tmp 13) (.tmp 23) 22 (by rfl) 29 i0 (.float .f32 0) 4 Try.underlying22 hi hz0 hz1 hz2 (by rfl) w.heap.size _ k xs (by rfl) _ _ (by rfl) (by rfl) (by exact hown) (by unfold maxLen; omega) (by omega) (by have := hx.size; simp; omega) ?_; intro v' w4 hown' hgrow; have hl' : xs.length = k := (by have := hown.1; omega); have hx' : Ext w w4 := (by refine grown_ext (xs := xs) (n := k) (e := 29) ?_ ?_ hgrow; exact Ext.alloc (Ext.drewN hx _) _; exact World.ownsRow.alloc (w := wr.drewN _) hown _); clear hown hgrow hx)
      all_goals
        go_wp2_with (fail)
        exact ⟨⟨k + 1, _, by omega, by go_num, hown', row_step hl' HX.out (HR.out _), hx'⟩, by simp [intOf]; omega⟩
    · obtain rfl : k = n := by omega
      go_wp2_with (fail)
      go_ret
      exact ⟨_, rfl, ⟨xs, hown, HX.out⟩, hx⟩



set_option maxRecDepth 20000 in
set_option maxHeartbeats 400000 in
theorem c_of_LessTraces {w : World} {x y : Nat} {X Y : Option Nat} (fx : Fl .f32 x X) (fy : Fl .f32 y Y) :
    Calls Try.prog 75 #[.float .f32 x, .float .f32 y] w fun e w' => ∃ r, e = .returned (.float .f32 r) ∧ Fl .f32 r (fop .sub .f32 X Y) ∧ Dr w w' := by
  go_enter Try.func75, Try.ntmps75
  go_wp2_with ((apply upon_fop rfl; (first | assumption | exact Fl.const (of_decide_eq_true (by kernel_rfl))); (first | assumption | exact Fl.const (of_decide_eq_true (by kernel_rfl))); intro r n hr))
  go_ret
  exact ⟨_, rfl, by assumption, _, rfl⟩
set_option maxRecDepth 20000 in
set_option maxHeartbeats 4000000 in
theorem c_join_LessTraces {w : World} {B n c : Nat} {A : Option Addr} {L : List (Option Nat)} (h : RdF w B A n L) (hB : B ≤ w.heap.size) (hn : n ≤ 1048576) {B' n' c' : Nat} {A' : Option Addr} {M : List (Option Nat)} (h' : RdF w B' A' n' M) (hB' : B' ≤ w.heap.size) (_hn' : n' ≤ 1048576) :
    Calls Try.prog 74 #[.slice A n c, .slice A' n' c', .func (.func 75) #[] #[]] w fun e w' => RetL w e w' (tlen n && same2 n n') (lst (fsub2 L M) n) := by
  cases hV : (tlen n && same2 n n')
  · cases hV1 : tlen n
    · go_enter Try.func74, Try.ntmps74
      go_wp2_with (go_at_call 40; refine Calls.mono (c_IsTrace _ _ _ _) ?_; rw [hV1]; rintro e w1 ⟨rfl, rfl⟩)
      go_ret2
      exact retL_no rfl (by repeat (first | assumption | exact Ext.refl _ | apply Ext.drewN | apply Ext.drew | apply Ext.alloc | (refine Ext.trans ?_ (by assumption)) | (refine Ext.set ?_ (by dsimp only; omega) _)))
    · rw [hV1, Bool.true_and] at hV
      have i3 : ((n : Int) != (n' : Int)) = true := by rw [bne_iff_ne]; have := same2_not hV; omega
      clear hV
      go_enter Try.func74, Try.ntmps74
      go_wp2_with (go_at_call 40; refine Calls.mono (c_IsTrace _ _ _ _) ?_; rw [hV1]; rintro e w1 ⟨rfl, rfl⟩)
      go_ret2
      exact retL_no rfl (by repeat (first | assumption | exact Ext.refl _ | apply Ext.drewN | apply Ext.drew | apply Ext.alloc | (refine Ext.trans ?_ (by assumption)) | (refine Ext.set ?_ (by dsimp only; omega) _)))
  have hV2 : tlen n = true ∧ same2 n n' = true := by rw [Bool.and_eq_true] at hV; exact hV
  obtain rfl : n = n' := same2_of hV2.2
  clear hV2
  have i3 : ((n : Int) != (n : Int)) = false := by simp
  have hmk := fun W => run_make_row' (P := Try.prog) 22 29 (.float .f32 0) 4 Try.underlying22 info_f32 rfl .i64 .i64 n (by omega) (by omega) W
  have hV1 : tlen n = true := by rw [Bool.and_eq_true] at hV; exact hV.1
  clear hV
  go_enter Try.func74, Try.ntmps74
  go_wp2_with (go_at_call 40; refine Calls.mono (c_IsTrace _ _ _ _) ?_; rw [hV1]; rintro e w1 ⟨rfl, rfl⟩)
  go_loopw [26] (fun i wr => ∃ (k : Nat) (cs : Array Value), k ≤ n ∧ i = .int .i64 k ∧ wr.heap[w.heap.size]? = some (.cells cs 29 (0, 0)) ∧ cs.size = n ∧ (∀ j, j < k → ∃ r, cs[j]? = some (.float .f32 r) ∧ Fl .f32 r (fsub2 L M j)) ∧ Ext w wr) (fun i _ => n - (intOf i).toNat)
  case atStart => exact ⟨0, _, Nat.zero_le _, rfl, heap_alloc_new _ _, size_madeCells _ _, fun j hj => absurd hj (Nat.not_lt_zero _), (by repeat (first | assumption | exact Ext.refl _ | apply Ext.drewN | apply Ext.drew | apply Ext.alloc | (refine Ext.trans ?_ (by assumption)) | (refine Ext.set ?_ (by dsimp only; omega) _)))⟩
  case round =>
    obtain ⟨k, cs, hk, rfl, hg, hsz, hxs, hx⟩ := hrel
    have HX := Lib.hid hxs
    have HG := Lib.hid hg
    have HS := Lib.hid hsz
    clear hxs hg hsz
    by_cases hlt : k < n
    · obtain ⟨u0, e0, z0⟩ := own_cell HG.out HS.out hlt
      obtain ⟨b1, o1, t1, rfl, hb1, hc1, ht1⟩ := (h.below (hx.mono hB)).cell hlt
      obtain ⟨b2, o2, t2, rfl, hb2, hc2, ht2⟩ := (h'.below (hx.mono hB')).cell hlt
      have hHT' : fsub2 L M k = fop .sub .f32 (L.getD k none) (M.getD k none) := rfl
      have HT := Lib.hid hHT'
      clear hHT'
      have hne2 : b2 ≠ w.heap.size := by omega
      have hlt' : (k : Int) < (n : Int) := by omega
      go_wp2_with (go_at_call 75; refine Calls.mono (c_of_LessTraces ht1 ht2) ?_; rw [← HT.out]; rintro e w_r5 ⟨r5, rfl, hr5, nr5, rfl⟩)
      exact ⟨⟨k + 1, cs.setIfInBounds k (.float .f32 r5), by omega, by go_num, by exact blk_set1 (w := World.drewN wr _) HG.out k _, by rw [Array.size_setIfInBounds]; exact HS.out, pre_setF (F := fsub2 L M) (by have := HS.out; omega) HX.out hr5, (by repeat (first | assumption | exact Ext.refl _ | apply Ext.drewN | apply Ext.drew | apply Ext.alloc | (refine Ext.trans ?_ (by assumption)) | (refine Ext.set ?_ (by dsimp only; omega) _)))⟩, by simp [intOf]; omega⟩
    · obtain rfl : k = n := by omega
      have ho5 := own_lst HG.out HS.out HX.out
      go_wp2_with (fail)
      go_ret2
      exact ⟨_, _, _, rfl, ho5, hx⟩
set_option maxRecDepth 20000 in
set_option maxHeartbeats 4000000 in
theorem c_impl_LessTraces {w : World} {B n c : Nat} {A : Option Addr} {L : List (Option Nat)} (h : RdF w B A n L) (hB : B ≤ w.heap.size) (hn : n ≤ 1048576) {B' n' c' : Nat} {A' : Option Addr} {M : List (Option Nat)} (h' : RdF w B' A' n' M) (hB' : B' ≤ w.heap.size) (_hn' : n' ≤ 1048576) :
    Calls Try.prog 46 #[.slice A n c, .slice A' n' c'] w fun e w' => RetL w e w' (tlen n && same2 n n') (lst (fsub2 L M) n) := by
  go_enter Try.func46, Try.ntmps46
  go_wp2_with (go_at_call 74; refine Calls.mono (c_join_LessTraces h hB hn h' hB' _hn') ?_; rintro e w2 ⟨A2, n2, c2, rfl, ho2, hx2⟩)
  go_ret2
  exact ⟨_, _, _, rfl, ho2, hx2⟩


end Go.Proofs.Ytcjddnkebdjhoaa
