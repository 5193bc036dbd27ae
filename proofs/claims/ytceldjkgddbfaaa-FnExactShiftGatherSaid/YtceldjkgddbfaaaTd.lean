/- Contracts: traces that come later, on both sides. Condition: the list is read. -/
import Derived.Test.YtceldjkgddbfaaaTn
namespace Go.Proofs.Ytceldjkgddbfaaa
open Go.RowKit Ieee



set_option maxRecDepth 20000 in
set_option maxHeartbeats 4000000 in
theorem c_impl_ShiftTrace {w : World} {B n c : Nat} {A : Option Addr} {L : List (Option Nat)} (h : RdF w B A n L) (hB : B ≤ w.heap.size) (hn : n ≤ 1048576) {i : Int} (_hi0 : -9223372036854775808 ≤ i) (_hi1 : i ≤ 9223372036854775807) :
    Calls Try.prog 84 #[.slice A n c, .int .i64 i] w fun e w' => RetL w e w' (tlen n && inB i (-128) 128) (lst (fshift L i) n) := by
  cases hV : tlen n
  · go_enter Try.func84, Try.ntmps84
    go_wp2_with (go_at_call 110; refine Calls.mono (c_IsTrace _ _ _ _) ?_; rw [hV]; rintro e w1 ⟨rfl, rfl⟩)
    go_ret2
    exact retL_no rfl (by repeat (first | assumption | exact Ext.refl _ | apply Ext.drewN | apply Ext.drew | apply Ext.alloc | (refine Ext.trans ?_ (by assumption)) | (refine Ext.set ?_ (by dsimp only; omega) _)))
  rw [Bool.true_and]
  cases hW : inB i (-128) 128
  · rcases inB_not hW with hw | hw
    · go_enter Try.func84, Try.ntmps84
      go_wp2_with (go_at_call 110; refine Calls.mono (c_IsTrace _ _ _ _) ?_; rw [hV]; rintro e w1 ⟨rfl, rfl⟩)
      go_ret2
      exact retL_no rfl (by repeat (first | assumption | exact Ext.refl _ | apply Ext.drewN | apply Ext.drew | apply Ext.alloc | (refine Ext.trans ?_ (by assumption)) | (refine Ext.set ?_ (by dsimp only; omega) _)))
    · have j1 : ¬ i < -128 := by omega
      go_enter Try.func84, Try.ntmps84
      go_wp2_with (go_at_call 110; refine Calls.mono (c_IsTrace _ _ _ _) ?_; rw [hV]; rintro e w1 ⟨rfl, rfl⟩)
      go_ret2
      exact retL_no rfl (by repeat (first | assumption | exact Ext.refl _ | apply Ext.drewN | apply Ext.drew | apply Ext.alloc | (refine Ext.trans ?_ (by assumption)) | (refine Ext.set ?_ (by dsimp only; omega) _)))
  obtain ⟨g1, g2⟩ := inB_of hW
  have j1 : ¬ i < -128 := by omega
  have j2 : ¬ 128 < i := by omega
  have hl := Lib.hid (fshiftK_all (i := i) h.len)
  have hmk := fun W => run_make_row' (P := Try.prog) 22 35 (.float .f32 0) 4 Try.underlying22 info_f32 rfl .i64 .i64 n (by omega) (by omega) W
  go_enter Try.func84, Try.ntmps84
  go_wp2_with (go_at_call 110; refine Calls.mono (c_IsTrace _ _ _ _) ?_; rw [hV]; rintro e w1 ⟨rfl, rfl⟩)
  go_loopw [26] (fun x wr => ∃ (k : Nat) (cs : Array Value), k ≤ n ∧ x = .int .i64 k ∧ wr.heap[w.heap.size]? = some (.cells cs 35 (0, 0)) ∧ cs.size = n ∧ RowF cs n (fshiftK L i k) ∧ Ext w wr) (fun x _ => n - (intOf x).toNat)
  case atStart => exact ⟨0, _, Nat.zero_le _, rfl, heap_alloc_new _ _, size_madeCells _ _, RowF.made (fun j _ => fshiftK_zero _ _ _), (by repeat (first | assumption | exact Ext.refl _ | apply Ext.drewN | apply Ext.drew | apply Ext.alloc | (refine Ext.trans ?_ (by assumption)) | (refine Ext.set ?_ (by dsimp only; omega) _)))⟩
  case round =>
    obtain ⟨k, cs, hk, rfl, hg, hsz, hxs, hx⟩ := hrel
    have HX := Lib.hid hxs
    have HG := Lib.hid hg
    have HS := Lib.hid hsz
    clear hxs hg hsz
    by_cases hlt : k < n
    · have hlt' : (k : Int) < (n : Int) := by omega
      obtain ⟨b1, o1, t1, rfl, hb1, hc1, ht1⟩ := (h.below (hx.mono hB)).cell hlt
      have hne : b1 ≠ w.heap.size := by omega
      by_cases q1 : 0 ≤ (k : Int) + i
      · obtain ⟨m, hm⟩ : ∃ m : Nat, (k : Int) + i = (m : Int) := ⟨((k : Int) + i).toNat, by omega⟩
        by_cases q2 : m < n
        · obtain ⟨u0, e0, z0, _⟩ := HX.out.cell HG.out q2
          have q2' : (m : Int) < (n : Int) := by omega
          have hq : ((m : Nat) : Int) - i = (k : Int) := by omega
          have HQ := Lib.hid hq
          clear hq
          go_wp2_with (fail)
          exact ⟨⟨k + 1, cs.setIfInBounds m (.float .f32 t1), by omega, by go_num, by exact blk_set1 HG.out m _, by rw [Array.size_setIfInBounds]; exact HS.out, HX.out.set HS.out (by rw [fshiftK_at HQ.out]; exact ht1) (fun j _ hj => fshiftK_other (by have := HQ.out; omega)), (by repeat (first | assumption | exact Ext.refl _ | apply Ext.drewN | apply Ext.drew | apply Ext.alloc | (refine Ext.trans ?_ (by assumption)) | (refine Ext.set ?_ (by dsimp only; omega) _)))⟩, by simp [intOf]; omega⟩
        · have q2' : ¬ (m : Int) < (n : Int) := by omega
          have HQ : ∀ j : Nat, j < n → ((j : Int) - i ≠ (k : Int)) := by intro j hj; omega
          have HQ' := Lib.hid HQ
          clear HQ
          go_wp2_with (fail)
          exact ⟨⟨k + 1, cs, by omega, by go_num, HG.out, HS.out, HX.out.keep (fun j hj => fshiftK_other (HQ'.out j hj)), hx⟩, by simp [intOf]; omega⟩
      · have HQ : ∀ j : Nat, j < n → ((j : Int) - i ≠ (k : Int)) := by intro j hj; omega
        have HQ' := Lib.hid HQ
        clear HQ
        go_wp2_with (fail)
        exact ⟨⟨k + 1, cs, by omega, by go_num, HG.out, HS.out, HX.out.keep (fun j hj => fshiftK_other (HQ'.out j hj)), hx⟩, by simp [intOf]; omega⟩
    · obtain rfl : k = n := by omega
      have ho5 := HX.out.lst HG.out HS.out
      go_wp2_with (fail)
      go_ret2
      rw [← hl.out]
      exact ⟨_, _, _, rfl, ho5, hx⟩

end Go.Proofs.Ytceldjkgddbfaaa
