/- Contracts: sums and differences of traces, on both sides. Condition: the lists are read. -/
import Derived.Test.YthgooahifbdaaaaJn
namespace Go.Proofs.Ythgooahifbdaaaa
open Go.RowKit Ieee

set_option maxRecDepth 20000 in
set_option maxHeartbeats 4000000 in
theorem c_spec_AddTraces {w : World} {B n c : Nat} {A : Option Addr} {L : List (Option Nat)} (h : RdF w B A n L) (hB : B ≤ w.heap.size) (hn : n ≤ 1048576) {B' n' c' : Nat} {A' : Option Addr} {M : List (Option Nat)} (h' : RdF w B' A' n' M) (hB' : B' ≤ w.heap.size) (_hn' : n' ≤ 1048576) :
    Calls Try.prog 15 #[.slice A n c, .slice A' n' c'] w fun e w' => RetL w e w' (tlen n && same2 n n') (lst (fadd2 L M) n) := by
  cases hV : (tlen n && same2 n n')
  · go_enter Try.func15, Try.ntmps15
    go_wp2_with (go_at_call 54; refine Calls.mono (c_l03Two _ _ _ _ _ _ _) ?_; rw [hV]; rintro e w1 ⟨rfl, rfl⟩)
    go_ret2
    exact retL_no rfl (by repeat (first | assumption | exact Ext.refl _ | apply Ext.drewN | apply Ext.drew | apply Ext.alloc | (refine Ext.trans ?_ (by assumption)) | (refine Ext.set ?_ (by dsimp only; omega) _)))
  obtain ⟨i0, hi, hz0, hz1, hz2⟩ := info_parts info_f32
  have hV2 : tlen n = true ∧ same2 n n' = true := by rw [Bool.and_eq_true] at hV; exact hV
  obtain rfl : n = n' := same2_of hV2.2
  go_enter Try.func15, Try.ntmps15
  go_wp2_with (go_at_call 54; refine Calls.mono (c_l03Two _ _ _ _ _ _ _) ?_; rw [hV]; rintro e w1 ⟨rfl, rfl⟩)
  go_loopw [6, 15] (fun v  i wr => ∃ (k : Nat) (xs : List Value), k ≤ n ∧ i = .int .i64 k ∧ wr.ownsRow w.heap.size 28 1 v k xs ∧ (∀ j, j < k → ∃ r, xs[j]? = some (.float .f32 r) ∧ Fl .f32 r (fadd2 L M j)) ∧ Ext w wr) (fun _ i _ => n - (intOf i).toNat)
  case atStart => exact ⟨0, [], Nat.zero_le _, rfl, World.ownsRow_made _ _ 0 (Nat.le_refl _) (Nat.zero_le _) rfl, fun j hj => absurd hj (Nat.not_lt_zero _), (by repeat (first | assumption | exact Ext.refl _ | apply Ext.drewN | apply Ext.drew | apply Ext.alloc | (refine Ext.trans ?_ (by assumption)) | (refine Ext.set ?_ (by dsimp only; omega) _)))⟩
  case round =>
    obtain ⟨k, xs, hk, rfl, hown, hxs, hx⟩ := hrel
    have HX := Lib.hid hxs
    clear hxs
    by_cases hlt : k < n
    · obtain ⟨b1, o1, t1, rfl, hb1, hc1, ht1⟩ := (h.below (hx.mono hB)).cell hlt
      obtain ⟨b2, o2, t2, rfl, hb2, hc2, ht2⟩ := (h'.below (hx.mono hB')).cell hlt
      have hHT' : fadd2 L M k = fop .add .f32 (L.getD k none) (M.getD k none) := rfl
      have HT := Lib.hid hHT'
      clear hHT'
      have hlt' : (k : Int) < (n : Int) := by omega
      go_wp2_with (fail)
      obtain ⟨R, N, hq, hR⟩ := fop_rule (P := Try.prog) (op := .add) rfl ht1 ht2 28
      rw [← HT.out] at hR
      have HR := Lib.hid hR
      clear hR
      go_region_law (refine step_append_float (by rfl) (.tmp 18) (.tmp 28) 22 (by rfl) 28 i0 (.float .f32 0) 4 Try.underlying22 hi hz0 hz1 hz2 (by rfl) w.heap.size _ k xs (by rfl) _ _ (by rfl) (by rfl) (by exact hown) (by unfold maxLen; omega) (by omega) (by have := hx.size; simp; omega) ?_; intro v' w4 hown' hgrow; have hl' : xs.length = k := (by have := hown.1; omega); have hx' : Ext w w4 := (by refine grown_ext (xs := xs) (n := k) (e := 28) ?_ ?_ hgrow; exact Ext.alloc (Ext.drewN hx _) _; exact World.ownsRow.alloc (w := wr.drewN _) hown _); clear hown hgrow hx)
      all_goals
        go_wp2_with (fail)
        exact ⟨⟨k + 1, _, by omega, by go_num, hown', row_step hl' HX.out (HR.out _), hx'⟩, by simp [intOf]; omega⟩
    · obtain rfl : k = n := by omega
      have ho4 : OwF wr w.heap.size _ k (fadd2 L M) := ⟨xs, hown, HX.out⟩
      obtain ⟨A4, c4, rfl, ho5⟩ := ho4.owl
      go_wp2_with (fail)
      go_ret2
      exact ⟨_, _, _, rfl, ho5, hx⟩

set_option maxRecDepth 20000 in
set_option maxHeartbeats 4000000 in
theorem c_l03Less {w : World} {B n c : Nat} {A : Option Addr} {L : List (Option Nat)} (h : RdF w B A n L) (hB : B ≤ w.heap.size) (hn : n ≤ 1048576) {B' c' : Nat} {A' : Option Addr} {M : List (Option Nat)} (h' : RdF w B' A' n M) (hB' : B' ≤ w.heap.size) :
    Calls Try.prog 57 #[.slice A n c, .slice A' n c'] w fun e w' => ∃ v, e = .returned v ∧ OwF w' w.heap.size v n (fsub2 L M) ∧ Ext w w' := by
  obtain ⟨i0, hi, hz0, hz1, hz2⟩ := info_parts info_f32
  go_enter Try.func57, Try.ntmps57
  go_wp2_with (fail)
  go_loopw [5, 10] (fun v  i wr => ∃ (k : Nat) (xs : List Value), k ≤ n ∧ i = .int .i64 k ∧ wr.ownsRow w.heap.size 28 1 v k xs ∧ (∀ j, j < k → ∃ r, xs[j]? = some (.float .f32 r) ∧ Fl .f32 r (fsub2 L M j)) ∧ Ext w wr) (fun _ i _ => n - (intOf i).toNat)
  case atStart => exact ⟨0, [], Nat.zero_le _, rfl, World.ownsRow_made _ _ 0 (Nat.le_refl _) (Nat.zero_le _) rfl, fun j hj => absurd hj (Nat.not_lt_zero _), (by repeat (first | assumption | exact Ext.refl _ | apply Ext.drewN | apply Ext.drew | apply Ext.alloc | (refine Ext.trans ?_ (by assumption)) | (refine Ext.set ?_ (by dsimp only; omega) _)))⟩
  case round =>
    obtain ⟨k, xs, hk, rfl, hown, hxs, hx⟩ := hrel
    have HX := Lib.hid hxs
    clear hxs
    by_cases hlt : k < n
    · obtain ⟨b1, o1, t1, rfl, hb1, hc1, ht1⟩ := (h.below (hx.mono hB)).cell hlt
      obtain ⟨b2, o2, t2, rfl, hb2, hc2, ht2⟩ := (h'.below (hx.mono hB')).cell hlt
      have hHT' : fsub2 L M k = fop .sub .f32 (L.getD k none) (M.getD k none) := rfl
      have HT := Lib.hid hHT'
      clear hHT'
      have hlt' : (k : Int) < (n : Int) := by omega
      go_wp2_with (fail)
      obtain ⟨R, N, hq, hR⟩ := fop_rule (P := Try.prog) (op := .sub) rfl ht1 ht2 28
      rw [← HT.out] at hR
      have HR := Lib.hid hR
      clear hR
      go_region_law (refine step_append_float (by rfl) (.tmp 13) (.tmp 23) 22 (by rfl) 28 i0 (.float .f32 0) 4 Try.underlying22 hi hz0 hz1 hz2 (by rfl) w.heap.size _ k xs (by rfl) _ _ (by rfl) (by rfl) (by exact hown) (by unfold maxLen; omega) (by omega) (by have := hx.size; simp; omega) ?_; intro v' w4 hown' hgrow; have hl' : xs.length = k := (by have := hown.1; omega); have hx' : Ext w w4 := (by refine grown_ext (xs := xs) (n := k) (e := 28) ?_ ?_ hgrow; exact Ext.alloc (Ext.drewN hx _) _; exact World.ownsRow.alloc (w := wr.drewN _) hown _); clear hown hgrow hx)
      all_goals
        go_wp2_with (fail)
        exact ⟨⟨k + 1, _, by omega, by go_num, hown', row_step hl' HX.out (HR.out _), hx'⟩, by simp [intOf]; omega⟩
    · obtain rfl : k = n := by omega
      go_wp2_with (fail)
      go_ret
      exact ⟨_, rfl, ⟨xs, hown, HX.out⟩, hx⟩

set_option maxRecDepth 20000 in
set_option maxHeartbeats 4000000 in
theorem c_spec_LessTraces {w : World} {B n c : Nat} {A : Option Addr} {L : List (Option Nat)} (h : RdF w B A n L) (hB : B ≤ w.heap.size) (hn : n ≤ 1048576) {B' n' c' : Nat} {A' : Option Addr} {M : List (Option Nat)} (h' : RdF w B' A' n' M) (hB' : B' ≤ w.heap.size) (_hn' : n' ≤ 1048576) :
    Calls Try.prog 21 #[.slice A n c, .slice A' n' c'] w fun e w' => RetL w e w' (tlen n && same2 n n') (lst (fsub2 L M) n) := by
  cases hV : (tlen n && same2 n n')
  · go_enter Try.func21, Try.ntmps21
    go_wp2_with (go_at_call 54; refine Calls.mono (c_l03Two _ _ _ _ _ _ _) ?_; rw [hV]; rintro e w1 ⟨rfl, rfl⟩)
    go_ret2
    exact retL_no rfl (by repeat (first | assumption | exact Ext.refl _ | apply Ext.drewN | apply Ext.drew | apply Ext.alloc | (refine Ext.trans ?_ (by assumption)) | (refine Ext.set ?_ (by dsimp only; omega) _)))
  have hV2 : tlen n = true ∧ same2 n n' = true := by rw [Bool.and_eq_true] at hV; exact hV
  obtain rfl : n = n' := same2_of hV2.2
  go_enter Try.func21, Try.ntmps21
  go_wp2_with (first | (go_at_call 54; refine Calls.mono (c_l03Two _ _ _ _ _ _ _) ?_; rw [hV]; rintro e w1 ⟨rfl, rfl⟩) | (go_at_call 57; refine Calls.mono (c_l03Less h hB hn h' hB') ?_; rintro e w2 ⟨v, rfl, ho, hx2⟩; obtain ⟨A2, c2, rfl, ho2⟩ := ho.owl))
  go_ret2
  exact ⟨_, _, _, rfl, ho2, hx2⟩

set_option maxRecDepth 20000 in
set_option maxHeartbeats 4000000 in
theorem c_join_AddTraces {w : World} {B n c : Nat} {A : Option Addr} {L : List (Option Nat)} (h : RdF w B A n L) (hB : B ≤ w.heap.size) (hn : n ≤ 1048576) {B' n' c' : Nat} {A' : Option Addr} {M : List (Option Nat)} (h' : RdF w B' A' n' M) (hB' : B' ≤ w.heap.size) (_hn' : n' ≤ 1048576) :
    Calls Try.prog 55 #[.slice A n c, .slice A' n' c', .func (.func 56) #[] #[]] w fun e w' => RetL w e w' (tlen n && same2 n n') (lst (fadd2 L M) n) := by
  cases hV : (tlen n && same2 n n')
  · cases hV1 : tlen n
    · go_enter Try.func55, Try.ntmps55
      go_wp2_with (go_at_call 61; refine Calls.mono (c_IsTrace _ _ _ _) ?_; rw [hV1]; rintro e w1 ⟨rfl, rfl⟩)
      go_ret2
      exact retL_no rfl (by repeat (first | assumption | exact Ext.refl _ | apply Ext.drewN | apply Ext.drew | apply Ext.alloc | (refine Ext.trans ?_ (by assumption)) | (refine Ext.set ?_ (by dsimp only; omega) _)))
    · rw [hV1, Bool.true_and] at hV
      have i3 : ((n : Int) != (n' : Int)) = true := by rw [bne_iff_ne]; have := same2_not hV; omega
      clear hV
      go_enter Try.func55, Try.ntmps55
      go_wp2_with (go_at_call 61; refine Calls.mono (c_IsTrace _ _ _ _) ?_; rw [hV1]; rintro e w1 ⟨rfl, rfl⟩)
      go_ret2
      exact retL_no rfl (by repeat (first | assumption | exact Ext.refl _ | apply Ext.drewN | apply Ext.drew | apply Ext.alloc | (refine Ext.trans ?_ (by assumption)) | (refine Ext.set ?_ (by dsimp only; omega) _)))
  have hV2 : tlen n = true ∧ same2 n n' = true := by rw [Bool.and_eq_true] at hV; exact hV
  obtain rfl : n = n' := same2_of hV2.2
  clear hV2
  have i3 : ((n : Int) != (n : Int)) = false := by simp
  have hV1 : tlen n = true := by rw [Bool.and_eq_true] at hV; exact hV.1
  clear hV
  go_enter Try.func55, Try.ntmps55
  go_wp2_with (first | (go_at_call 61; refine Calls.mono (c_IsTrace _ _ _ _) ?_; rw [hV1]; rintro e w1 ⟨rfl, rfl⟩) | (go_at_call 105; refine Calls.mono (c_join_addNumbers h hB hn h' hB' (Nat.le_refl _) hn) ?_; rintro e w2 ⟨A2, rfl, ho2, hx2⟩))
  go_ret2
  exact ⟨_, _, _, rfl, ho2, hx2⟩
set_option maxRecDepth 20000 in
set_option maxHeartbeats 4000000 in
theorem c_impl_AddTraces {w : World} {B n c : Nat} {A : Option Addr} {L : List (Option Nat)} (h : RdF w B A n L) (hB : B ≤ w.heap.size) (hn : n ≤ 1048576) {B' n' c' : Nat} {A' : Option Addr} {M : List (Option Nat)} (h' : RdF w B' A' n' M) (hB' : B' ≤ w.heap.size) (_hn' : n' ≤ 1048576) :
    Calls Try.prog 17 #[.slice A n c, .slice A' n' c'] w fun e w' => RetL w e w' (tlen n && same2 n n') (lst (fadd2 L M) n) := by
  go_enter Try.func17, Try.ntmps17
  go_wp2_with (go_at_call 55; refine Calls.mono (c_join_AddTraces h hB hn h' hB' _hn') ?_; rintro e w2 ⟨A2, n2, c2, rfl, ho2, hx2⟩)
  go_ret2
  exact ⟨_, _, _, rfl, ho2, hx2⟩

set_option maxRecDepth 20000 in
set_option maxHeartbeats 4000000 in
theorem c_join_LessTraces {w : World} {B n c : Nat} {A : Option Addr} {L : List (Option Nat)} (h : RdF w B A n L) (hB : B ≤ w.heap.size) (hn : n ≤ 1048576) {B' n' c' : Nat} {A' : Option Addr} {M : List (Option Nat)} (h' : RdF w B' A' n' M) (hB' : B' ≤ w.heap.size) (_hn' : n' ≤ 1048576) :
    Calls Try.prog 55 #[.slice A n c, .slice A' n' c', .func (.func 58) #[] #[]] w fun e w' => RetL w e w' (tlen n && same2 n n') (lst (fsub2 L M) n) := by
  cases hV : (tlen n && same2 n n')
  · cases hV1 : tlen n
    · go_enter Try.func55, Try.ntmps55
      go_wp2_with (go_at_call 61; refine Calls.mono (c_IsTrace _ _ _ _) ?_; rw [hV1]; rintro e w1 ⟨rfl, rfl⟩)
      go_ret2
      exact retL_no rfl (by repeat (first | assumption | exact Ext.refl _ | apply Ext.drewN | apply Ext.drew | apply Ext.alloc | (refine Ext.trans ?_ (by assumption)) | (refine Ext.set ?_ (by dsimp only; omega) _)))
    · rw [hV1, Bool.true_and] at hV
      have i3 : ((n : Int) != (n' : Int)) = true := by rw [bne_iff_ne]; have := same2_not hV; omega
      clear hV
      go_enter Try.func55, Try.ntmps55
      go_wp2_with (go_at_call 61; refine Calls.mono (c_IsTrace _ _ _ _) ?_; rw [hV1]; rintro e w1 ⟨rfl, rfl⟩)
      go_ret2
      exact retL_no rfl (by repeat (first | assumption | exact Ext.refl _ | apply Ext.drewN | apply Ext.drew | apply Ext.alloc | (refine Ext.trans ?_ (by assumption)) | (refine Ext.set ?_ (by dsimp only; omega) _)))
  have hV2 : tlen n = true ∧ same2 n n' = true := by rw [Bool.and_eq_true] at hV; exact hV
  obtain rfl : n = n' := same2_of hV2.2
  clear hV2
  have i3 : ((n : Int) != (n : Int)) = false := by simp
  have hV1 : tlen n = true := by rw [Bool.and_eq_true] at hV; exact hV.1
  clear hV
  go_enter Try.func55, Try.ntmps55
  go_wp2_with (first | (go_at_call 61; refine Calls.mono (c_IsTrace _ _ _ _) ?_; rw [hV1]; rintro e w1 ⟨rfl, rfl⟩) | (go_at_call 105; refine Calls.mono (c_join_lessNumbers h hB hn h' hB' (Nat.le_refl _) hn) ?_; rintro e w2 ⟨A2, rfl, ho2, hx2⟩))
  go_ret2
  exact ⟨_, _, _, rfl, ho2, hx2⟩
set_option maxRecDepth 20000 in
set_option maxHeartbeats 4000000 in
theorem c_impl_LessTraces {w : World} {B n c : Nat} {A : Option Addr} {L : List (Option Nat)} (h : RdF w B A n L) (hB : B ≤ w.heap.size) (hn : n ≤ 1048576) {B' n' c' : Nat} {A' : Option Addr} {M : List (Option Nat)} (h' : RdF w B' A' n' M) (hB' : B' ≤ w.heap.size) (_hn' : n' ≤ 1048576) :
    Calls Try.prog 22 #[.slice A n c, .slice A' n' c'] w fun e w' => RetL w e w' (tlen n && same2 n n') (lst (fsub2 L M) n) := by
  go_enter Try.func22, Try.ntmps22
  go_wp2_with (go_at_call 55; refine Calls.mono (c_join_LessTraces h hB hn h' hB' _hn') ?_; rintro e w2 ⟨A2, n2, c2, rfl, ho2, hx2⟩)
  go_ret2
  exact ⟨_, _, _, rfl, ho2, hx2⟩

theorem both_AddTraces {n0 : Nat} {L0 : List (Option Nat)} (_hl0 : L0.length = n0) (hn0 : n0 ≤ 1048576) {n1 : Nat} {L1 : List (Option Nat)} (_hl1 : L1.length = n1) (hn1 : n1 ≤ 1048576) :
    ∃ ok Q q, q ≤ 1048576 ∧ (∀ W : World, ∀ (B0 : Nat) (A0 : Option Addr) (c0 : Nat), RdF W B0 A0 n0 L0 → B0 ≤ W.heap.size → ∀ (B1 : Nat) (A1 : Option Addr) (c1 : Nat), RdF W B1 A1 n1 L1 → B1 ≤ W.heap.size → Calls Try.prog 15 #[.slice A0 n0 c0, .slice A1 n1 c1] W fun e w' => RetQ W e w' ok q Q) ∧
      (∀ W : World, ∀ (B0 : Nat) (A0 : Option Addr) (c0 : Nat), RdF W B0 A0 n0 L0 → B0 ≤ W.heap.size → ∀ (B1 : Nat) (A1 : Option Addr) (c1 : Nat), RdF W B1 A1 n1 L1 → B1 ≤ W.heap.size → Calls Try.prog 17 #[.slice A0 n0 c0, .slice A1 n1 c1] W fun e w' => RetQ W e w' ok q Q) :=
  ⟨tlen n0 && same2 n0 n1, outL (tlen n0 && same2 n0 n1) (lst (fadd2 L0 L1) n0), (outL (tlen n0 && same2 n0 n1) (lst (fadd2 L0 L1) n0)).length, Nat.le_trans (outL_len _ _) (by rw [lst_len]; omega),
    fun W _ _ _ h0 hB0 _ _ _ h1 hB1 => Calls.mono (c_spec_AddTraces (w := W) h0 hB0 hn0 h1 hB1 hn1) (fun _ _ hr => hr.q), fun W _ _ _ h0 hB0 _ _ _ h1 hB1 => Calls.mono (c_impl_AddTraces (w := W) h0 hB0 hn0 h1 hB1 hn1) (fun _ _ hr => hr.q)⟩

theorem both_LessTraces {n0 : Nat} {L0 : List (Option Nat)} (_hl0 : L0.length = n0) (hn0 : n0 ≤ 1048576) {n1 : Nat} {L1 : List (Option Nat)} (_hl1 : L1.length = n1) (hn1 : n1 ≤ 1048576) :
    ∃ ok Q q, q ≤ 1048576 ∧ (∀ W : World, ∀ (B0 : Nat) (A0 : Option Addr) (c0 : Nat), RdF W B0 A0 n0 L0 → B0 ≤ W.heap.size → ∀ (B1 : Nat) (A1 : Option Addr) (c1 : Nat), RdF W B1 A1 n1 L1 → B1 ≤ W.heap.size → Calls Try.prog 21 #[.slice A0 n0 c0, .slice A1 n1 c1] W fun e w' => RetQ W e w' ok q Q) ∧
      (∀ W : World, ∀ (B0 : Nat) (A0 : Option Addr) (c0 : Nat), RdF W B0 A0 n0 L0 → B0 ≤ W.heap.size → ∀ (B1 : Nat) (A1 : Option Addr) (c1 : Nat), RdF W B1 A1 n1 L1 → B1 ≤ W.heap.size → Calls Try.prog 22 #[.slice A0 n0 c0, .slice A1 n1 c1] W fun e w' => RetQ W e w' ok q Q) :=
  ⟨tlen n0 && same2 n0 n1, outL (tlen n0 && same2 n0 n1) (lst (fsub2 L0 L1) n0), (outL (tlen n0 && same2 n0 n1) (lst (fsub2 L0 L1) n0)).length, Nat.le_trans (outL_len _ _) (by rw [lst_len]; omega),
    fun W _ _ _ h0 hB0 _ _ _ h1 hB1 => Calls.mono (c_spec_LessTraces (w := W) h0 hB0 hn0 h1 hB1 hn1) (fun _ _ hr => hr.q), fun W _ _ _ h0 hB0 _ _ _ h1 hB1 => Calls.mono (c_impl_LessTraces (w := W) h0 hB0 hn0 h1 hB1 hn1) (fun _ _ hr => hr.q)⟩
end Go.Proofs.Ythgooahifbdaaaa
