/- Contracts: traces that come later, on both sides. Condition: the list is read. -/
import Derived.Test.YthgmkipifolbfaaTn
namespace Go.Proofs.Ythgmkipifolbfaa
open Go.RowKit Ieee

set_option maxRecDepth 20000 in
set_option maxHeartbeats 4000000 in
theorem c_l03Shift {w : World} {B n c : Nat} {A : Option Addr} {L : List (Option Nat)} (h : RdF w B A n L) (hB : B ≤ w.heap.size) (hn : n ≤ 1048576) {i : Int} (hi0 : -128 ≤ i) (hi1 : i ≤ 128) :
    Calls Try.prog 54 #[.slice A n c, .int .i64 i] w fun e w' => ∃ A' c', e = .returned (.slice A' n c') ∧ OwL w' w.heap.size w'.heap.size A' n (lst (fshift L i) n) ∧ Ext w w' := by
  have hl := Lib.hid h.len
  have hmk := fun W => run_make_row' (P := Try.prog) 22 26 (.float .f32 0) 4 Try.underlying22 info_f32 rfl .i64 .i64 n (by omega) (by omega) W
  go_enter Try.func54, Try.ntmps54
  go_wp2_with (fail)
  go_loopw [13] (fun x wr => ∃ (k : Nat) (cs : Array Value), k ≤ n ∧ x = .int .i64 k ∧ wr.heap[w.heap.size]? = some (.cells cs 26 (0, 0)) ∧ cs.size = n ∧ RowF cs n (fsetK (fshift L i) k) ∧ Ext w wr) (fun x _ => n - (intOf x).toNat)
  case atStart => exact ⟨0, _, Nat.zero_le _, rfl, heap_alloc_new _ _, size_madeCells _ _, RowF.made (fun j _ => fsetK_zero _ _), (by repeat (first | assumption | exact Ext.refl _ | apply Ext.drewN | apply Ext.drew | apply Ext.alloc | (refine Ext.trans ?_ (by assumption)) | (refine Ext.set ?_ (by dsimp only; omega) _)))⟩
  case round =>
    obtain ⟨k, cs, hk, rfl, hg, hsz, hxs, hx⟩ := hrel
    have HX := Lib.hid hxs
    have HG := Lib.hid hg
    have HS := Lib.hid hsz
    clear hxs hg hsz
    by_cases hlt : k < n
    · have hlt' : (k : Int) < (n : Int) := by omega
      have hwr : IntKind.i64.wrap ((k : Int) - i) = (k : Int) - i := IntWalk.i64_in _ (by omega)
      have hwn : IntKind.i64.wrap ((n : Int) - 1) = (n : Int) - 1 := IntWalk.i64_in _ (by omega)
      cases hT : inB ((k : Int) - i) 0 ((n : Int) - 1)
      · have hz : fshift L i k = fz := by unfold fshift; rw [if_neg (by rw [hl.out]; rcases inB_not hT with hh | hh <;> omega)]
        have HZ := Lib.hid hz
        clear hz
        go_wp2_with (go_at_call 46; refine Calls.mono (c_l00In _ _ _ _) ?_; rw [hT]; rintro e w1 ⟨rfl, rfl⟩)
        exact ⟨⟨k + 1, cs, by omega, by go_num, HG.out, HS.out, HX.out.keep (fun j _ => fsetK_skip HZ.out j), hx⟩, by simp [intOf]; omega⟩
      · obtain ⟨q1, q2⟩ := inB_of hT
        obtain ⟨m, hm⟩ : ∃ m : Nat, (k : Int) - i = (m : Int) := ⟨((k : Int) - i).toNat, by omega⟩
        have hmn : m < n := by omega
        obtain ⟨b1, o1, t1, rfl, hb1, hc1, ht1⟩ := (h.below (hx.mono hB)).cell hmn
        obtain ⟨u0, e0, z0, _⟩ := HX.out.cell HG.out hlt
        have hz : fshift L i k = L.getD m none := by unfold fshift; rw [if_pos (by rw [hl.out]; omega), hm, Int.toNat_natCast]
        have HZ := Lib.hid hz
        have hm' : (m : Int) < (n : Int) := by omega
        rw [hm] at hT hwr
        clear hz q1 q2
        go_wp2_with (go_at_call 46; refine Calls.mono (c_l00In _ _ _ _) ?_; (try rw [hm]); rw [hT]; rintro e w1 ⟨rfl, rfl⟩)
        exact ⟨⟨k + 1, cs.setIfInBounds k (.float .f32 t1), by omega, by go_num, by exact blk_set1 HG.out k _, by rw [Array.size_setIfInBounds]; exact HS.out, HX.out.set HS.out (by rw [fsetK_at, HZ.out]; exact ht1) (fun j _ hj => fsetK_other _ hj), (by repeat (first | assumption | exact Ext.refl _ | apply Ext.drewN | apply Ext.drew | apply Ext.alloc | (refine Ext.trans ?_ (by assumption)) | (refine Ext.set ?_ (by dsimp only; omega) _)))⟩, by simp [intOf]; omega⟩
    · obtain rfl : k = n := by omega
      go_wp2_with (fail)
      go_ret
      exact ⟨_, _, rfl, (HX.out.keep (fun j hj => fsetK_all _ hj)).lst HG.out HS.out, hx⟩

set_option maxRecDepth 20000 in
set_option maxHeartbeats 4000000 in
theorem c_spec_ShiftTrace {w : World} {B n c : Nat} {A : Option Addr} {L : List (Option Nat)} (h : RdF w B A n L) (hB : B ≤ w.heap.size) (hn : n ≤ 1048576) {i : Int} (_hi0 : -9223372036854775808 ≤ i) (_hi1 : i ≤ 9223372036854775807) :
    Calls Try.prog 29 #[.slice A n c, .int .i64 i] w fun e w' => RetL w e w' (tlen n && inB i (-128) 128) (lst (fshift L i) n) := by
  cases hV : tlen n
  · go_enter Try.func29, Try.ntmps29
    go_wp2_with (go_at_call 44; refine Calls.mono (c_l03Is _ _ _ _) ?_; rw [hV]; rintro e w1 ⟨rfl, rfl⟩)
    go_ret2
    exact retL_no rfl (by repeat (first | assumption | exact Ext.refl _ | apply Ext.drewN | apply Ext.drew | apply Ext.alloc | (refine Ext.trans ?_ (by assumption)) | (refine Ext.set ?_ (by dsimp only; omega) _)))
  rw [Bool.true_and]
  cases hW : inB i (-128) 128
  · go_enter Try.func29, Try.ntmps29
    go_wp2_with (first | (go_at_call 44; refine Calls.mono (c_l03Is _ _ _ _) ?_; rw [hV]; rintro e w1 ⟨rfl, rfl⟩) | (go_at_call 46; refine Calls.mono (c_l00In _ _ _ _) ?_; rw [hW]; rintro e w1 ⟨rfl, rfl⟩))
    go_ret2
    exact retL_no rfl (by repeat (first | assumption | exact Ext.refl _ | apply Ext.drewN | apply Ext.drew | apply Ext.alloc | (refine Ext.trans ?_ (by assumption)) | (refine Ext.set ?_ (by dsimp only; omega) _)))
  obtain ⟨g1, g2⟩ := inB_of hW
  go_enter Try.func29, Try.ntmps29
  go_wp2_with (first | (go_at_call 44; refine Calls.mono (c_l03Is _ _ _ _) ?_; rw [hV]; rintro e w1 ⟨rfl, rfl⟩) | (go_at_call 46; refine Calls.mono (c_l00In _ _ _ _) ?_; rw [hW]; rintro e w1 ⟨rfl, rfl⟩) | (go_at_call 54; refine Calls.mono (c_l03Shift h hB hn g1 g2) ?_; rintro e w2 ⟨A2, c2, rfl, ho2, hx2⟩))
  go_ret2
  exact ⟨_, _, _, rfl, ho2, hx2⟩

set_option maxRecDepth 20000 in
set_option maxHeartbeats 4000000 in
theorem c_impl_ShiftTrace {w : World} {B n c : Nat} {A : Option Addr} {L : List (Option Nat)} (h : RdF w B A n L) (hB : B ≤ w.heap.size) (hn : n ≤ 1048576) {i : Int} (_hi0 : -9223372036854775808 ≤ i) (_hi1 : i ≤ 9223372036854775807) :
    Calls Try.prog 30 #[.slice A n c, .int .i64 i] w fun e w' => RetL w e w' (tlen n && inB i (-128) 128) (lst (fshift L i) n) := by
  cases hV : tlen n
  · go_enter Try.func30, Try.ntmps30
    go_wp2_with (go_at_call 17; refine Calls.mono (c_IsTrace _ _ _ _) ?_; rw [hV]; rintro e w1 ⟨rfl, rfl⟩)
    go_ret2
    exact retL_no rfl (by repeat (first | assumption | exact Ext.refl _ | apply Ext.drewN | apply Ext.drew | apply Ext.alloc | (refine Ext.trans ?_ (by assumption)) | (refine Ext.set ?_ (by dsimp only; omega) _)))
  rw [Bool.true_and]
  cases hW : inB i (-128) 128
  · rcases inB_not hW with hw | hw
    · go_enter Try.func30, Try.ntmps30
      go_wp2_with (go_at_call 17; refine Calls.mono (c_IsTrace _ _ _ _) ?_; rw [hV]; rintro e w1 ⟨rfl, rfl⟩)
      go_ret2
      exact retL_no rfl (by repeat (first | assumption | exact Ext.refl _ | apply Ext.drewN | apply Ext.drew | apply Ext.alloc | (refine Ext.trans ?_ (by assumption)) | (refine Ext.set ?_ (by dsimp only; omega) _)))
    · have j1 : ¬ i < -128 := by omega
      go_enter Try.func30, Try.ntmps30
      go_wp2_with (go_at_call 17; refine Calls.mono (c_IsTrace _ _ _ _) ?_; rw [hV]; rintro e w1 ⟨rfl, rfl⟩)
      go_ret2
      exact retL_no rfl (by repeat (first | assumption | exact Ext.refl _ | apply Ext.drewN | apply Ext.drew | apply Ext.alloc | (refine Ext.trans ?_ (by assumption)) | (refine Ext.set ?_ (by dsimp only; omega) _)))
  obtain ⟨g1, g2⟩ := inB_of hW
  have j1 : ¬ i < -128 := by omega
  have j2 : ¬ 128 < i := by omega
  have hl := Lib.hid (fshiftK_all (i := i) h.len)
  have hmk := fun W => run_make_row' (P := Try.prog) 22 26 (.float .f32 0) 4 Try.underlying22 info_f32 rfl .i64 .i64 n (by omega) (by omega) W
  go_enter Try.func30, Try.ntmps30
  go_wp2_with (go_at_call 17; refine Calls.mono (c_IsTrace _ _ _ _) ?_; rw [hV]; rintro e w1 ⟨rfl, rfl⟩)
  go_loopw [26] (fun x wr => ∃ (k : Nat) (cs : Array Value), k ≤ n ∧ x = .int .i64 k ∧ wr.heap[w.heap.size]? = some (.cells cs 26 (0, 0)) ∧ cs.size = n ∧ RowF cs n (fshiftK L i k) ∧ Ext w wr) (fun x _ => n - (intOf x).toNat)
  case atStart => exact ⟨0, _, Nat.zero_le _, rfl, heap_alloc_new _ _, size_madeCells _ _, RowF.made (fun j _ => fshiftK_zero _ _ _), (by repeat (first | assumption | exact Ext.refl _ | apply Ext.drewN | apply Ext.drew | apply Ext.alloc | (refine Ext.trans ?_ (by assumption)) | (refine Ext.set ?_ (by dsimp only; omega) _)))⟩
  case round =>
    obtain ⟨k, cs, hk, rfl, hg, hsz, hxs, hx⟩ := hrel
    have HX := Lib.hid hxs
    have HG := Lib.hid hg
    have HS := Lib.hid hsz
    clear hxs hg hsz
    by_cases hlt : k < n
    · have hlt' : (k : Int) < (n : Int) := by omega
      obtain ⟨b1, o1, t1, rfl, hb1, hc1, ht1⟩ := (h.below (hx.mono hB)).cell hlt
      have hne : b1 ≠ w.heap.size := by omega
      by_cases q1 : 0 ≤ (k : Int) + i
      · obtain ⟨m, hm⟩ : ∃ m : Nat, (k : Int) + i = (m : Int) := ⟨((k : Int) + i).toNat, by omega⟩
        by_cases q2 : m < n
        · obtain ⟨u0, e0, z0, _⟩ := HX.out.cell HG.out q2
          have q2' : (m : Int) < (n : Int) := by omega
          have hq : ((m : Nat) : Int) - i = (k : Int) := by omega
          have HQ := Lib.hid hq
          clear hq
          go_wp2_with (fail)
          exact ⟨⟨k + 1, cs.setIfInBounds m (.float .f32 t1), by omega, by go_num, by exact blk_set1 HG.out m _, by rw [Array.size_setIfInBounds]; exact HS.out, HX.out.set HS.out (by rw [fshiftK_at HQ.out]; exact ht1) (fun j _ hj => fshiftK_other (by have := HQ.out; omega)), (by repeat (first | assumption | exact Ext.refl _ | apply Ext.drewN | apply Ext.drew | apply Ext.alloc | (refine Ext.trans ?_ (by assumption)) | (refine Ext.set ?_ (by dsimp only; omega) _)))⟩, by simp [intOf]; omega⟩
        · have q2' : ¬ (m : Int) < (n : Int) := by omega
          have HQ : ∀ j : Nat, j < n → ((j : Int) - i ≠ (k : Int)) := by intro j hj; omega
          have HQ' := Lib.hid HQ
          clear HQ
          go_wp2_with (fail)
          exact ⟨⟨k + 1, cs, by omega, by go_num, HG.out, HS.out, HX.out.keep (fun j hj => fshiftK_other (HQ'.out j hj)), hx⟩, by simp [intOf]; omega⟩
      · have HQ : ∀ j : Nat, j < n → ((j : Int) - i ≠ (k : Int)) := by intro j hj; omega
        have HQ' := Lib.hid HQ
        clear HQ
        go_wp2_with (fail)
        exact ⟨⟨k + 1, cs, by omega, by go_num, HG.out, HS.out, HX.out.keep (fun j hj => fshiftK_other (HQ'.out j hj)), hx⟩, by simp [intOf]; omega⟩
    · obtain rfl : k = n := by omega
      have ho5 := HX.out.lst HG.out HS.out
      go_wp2_with (fail)
      go_ret2
      rw [← hl.out]
      exact ⟨_, _, _, rfl, ho5, hx⟩

theorem both_ShiftTrace {n0 : Nat} {L0 : List (Option Nat)} (_hl0 : L0.length = n0) (hn0 : n0 ≤ 1048576) {i1 : Int} (hi1 : -9223372036854775808 ≤ i1) (hj1 : i1 ≤ 9223372036854775807) :
    ∃ ok Q q, q ≤ 1048576 ∧ (∀ W : World, ∀ (B0 : Nat) (A0 : Option Addr) (c0 : Nat), RdF W B0 A0 n0 L0 → B0 ≤ W.heap.size → Calls Try.prog 29 #[.slice A0 n0 c0, .int .i64 i1] W fun e w' => RetQ W e w' ok q Q) ∧
      (∀ W : World, ∀ (B0 : Nat) (A0 : Option Addr) (c0 : Nat), RdF W B0 A0 n0 L0 → B0 ≤ W.heap.size → Calls Try.prog 30 #[.slice A0 n0 c0, .int .i64 i1] W fun e w' => RetQ W e w' ok q Q) :=
  ⟨tlen n0 && inB i1 (-128) 128, outL (tlen n0 && inB i1 (-128) 128) (lst (fshift L0 i1) n0), (outL (tlen n0 && inB i1 (-128) 128) (lst (fshift L0 i1) n0)).length, Nat.le_trans (outL_len _ _) (by rw [lst_len]; omega),
    fun W _ _ _ h0 hB0 => Calls.mono (c_spec_ShiftTrace (w := W) h0 hB0 hn0 hi1 hj1) (fun _ _ hr => hr.q), fun W _ _ _ h0 hB0 => Calls.mono (c_impl_ShiftTrace (w := W) h0 hB0 hn0 hi1 hj1) (fun _ _ hr => hr.q)⟩
end Go.Proofs.Ythgmkipifolbfaa
