/- Contracts: what the program's shifted gathers are made of (wip/draft/Zp.lean has the rest). Condition: the list is read. -/
import Derived.Test.YtceldjkgddbfaaaZo
namespace Go.Proofs.Ytceldjkgddbfaaa
open Go.RowKit Ieee

theorem gst_row {F : Nat → Nat → Option Nat} {G : Gat} {i : Nat} (hi : i < G.r.length) : (gstS F G i 0).set i (lst (F i) (G.r.getD i []).length) = gstS F G (i + 1) 0 := by
  refine ext_getD (d := []) (by rw [List.length_set, gstS_len, gstS_len]) fun j hj => ?_
  rw [List.length_set, gstS_len] at hj
  by_cases hji : j = i
  · subst hji
    rw [getD_set_at (by rw [gstS_len]; exact hj), gstS_at hj]
    refine ext_getD (d := none) (by rw [lst_len, gst_len]) fun t ht => ?_
    rw [lst_len] at ht
    rw [lst_at ht, gst_at ht, if_pos (by simp)]
  · rw [getD_set_no hji, gstS_at hj, gstS_at hj]
    refine ext_getD (d := none) (by rw [gst_len, gst_len]) fun t ht => ?_
    rw [gst_len] at ht
    rw [gst_at ht, gst_at ht]
    refine congrArg (fun b : Bool => if b then F j t else (G.r.getD j []).getD t none) ?_
    rw [Bool.eq_iff_iff]
    simp only [Bool.or_eq_true, Bool.and_eq_true, decide_eq_true_eq]
    omega
set_option maxRecDepth 20000 in
set_option maxHeartbeats 400000 in
theorem c_isShift (i : Int) (w : World) : Calls Try.prog 83 #[.int .i64 i] w fun e w' => e = .returned (.bool (inB i (-64) 64)) ∧ w = w' := by
  by_cases h1 : i < -64
  · rw [inB_lo h1]
    have i1 : ¬ (-64 : Int) ≤ i := by omega
    clear h1
    go_enter Try.func83, Try.ntmps83
    go_wp2_with (fail)
    go_ret
    exact ⟨rfl, rfl⟩
  by_cases h2 : 64 < i
  · rw [inB_hi h2]
    have i1 : (-64 : Int) ≤ i := by omega
    have i2 : ¬ i ≤ 64 := by omega
    clear h1 h2
    go_enter Try.func83, Try.ntmps83
    go_wp2_with (fail)
    go_ret
    exact ⟨rfl, rfl⟩
  rw [inB_yes (by omega) (by omega)]
  have i1 : (-64 : Int) ≤ i := by omega
  have i2 : i ≤ 64 := by omega
  clear h1 h2
  go_enter Try.func83, Try.ntmps83
  go_wp2_with (fail)
  go_ret
  exact ⟨rfl, rfl⟩
set_option maxRecDepth 20000 in
set_option maxHeartbeats 4000000 in
theorem c_shiftIn {w : World} {B n c : Nat} {A : Option Addr} {L : List (Option Nat)} (h : RdF w B A n L) (hB : B ≤ w.heap.size) (hn : n ≤ 1048576) (hV : tlen n = true) {i : Int} (g1 : -128 ≤ i) (g2 : i ≤ 128) :
    Calls Try.prog 84 #[.slice A n c, .int .i64 i] w fun e w' => e = .returned (.tuple #[.slice (some ⟨w.heap.size, 0, none⟩) n n, .bool true]) ∧ w.heap.size < w'.heap.size ∧ OwL w' w.heap.size (w.heap.size + 1) (some ⟨w.heap.size, 0, none⟩) n (lst (fshift L i) n) ∧ Ext w w' := by
  have j1 : ¬ i < -128 := by omega
  have j2 : ¬ 128 < i := by omega
  have hl := Lib.hid (fshiftK_all (i := i) h.len)
  have hmk := fun W => run_make_row' (P := Try.prog) 22 35 (.float .f32 0) 4 Try.underlying22 info_f32 rfl .i64 .i64 n (by omega) (by omega) W
  go_enter Try.func84, Try.ntmps84
  go_wp2_with (go_at_call 110; refine Calls.mono (c_IsTrace _ _ _ _) ?_; rw [hV]; rintro e w1 ⟨rfl, rfl⟩)
  go_loopw [26] (fun x wr => ∃ (k : Nat) (cs : Array Value), k ≤ n ∧ x = .int .i64 k ∧ wr.heap[w.heap.size]? = some (.cells cs 35 (0, 0)) ∧ cs.size = n ∧ RowF cs n (fshiftK L i k) ∧ Ext w wr) (fun x _ => n - (intOf x).toNat)
  case atStart => exact ⟨0, _, Nat.zero_le _, rfl, heap_alloc_new _ _, size_madeCells _ _, RowF.made (fun j _ => fshiftK_zero _ _ _), (by repeat (first | assumption | exact Ext.refl _ | apply Ext.drewN | apply Ext.drew | apply Ext.alloc | (refine Ext.trans ?_ (by assumption)) | (refine Ext.set ?_ (by dsimp only; omega) _)))⟩
  case round =>
    obtain ⟨k, cs, hk, rfl, hg, hsz, hxs, hx⟩ := hrel
    have HX := Lib.hid hxs
    have HG := Lib.hid hg
    have HS := Lib.hid hsz
    clear hxs hg hsz
    by_cases hlt : k < n
    · have hlt' : (k : Int) < (n : Int) := by omega
      obtain ⟨b1, o1, t1, rfl, hb1, hc1, ht1⟩ := (h.below (hx.mono hB)).cell hlt
      have hne : b1 ≠ w.heap.size := by omega
      by_cases q1 : 0 ≤ (k : Int) + i
      · obtain ⟨m, hm⟩ : ∃ m : Nat, (k : Int) + i = (m : Int) := ⟨((k : Int) + i).toNat, by omega⟩
        by_cases q2 : m < n
        · obtain ⟨u0, e0, z0, _⟩ := HX.out.cell HG.out q2
          have q2' : (m : Int) < (n : Int) := by omega
          have hq : ((m : Nat) : Int) - i = (k : Int) := by omega
          have HQ := Lib.hid hq
          clear hq
          go_wp2_with (fail)
          exact ⟨⟨k + 1, cs.setIfInBounds m (.float .f32 t1), by omega, by go_num, by exact blk_set1 HG.out m _, by rw [Array.size_setIfInBounds]; exact HS.out, HX.out.set HS.out (by rw [fshiftK_at HQ.out]; exact ht1) (fun j _ hj => fshiftK_other (by have := HQ.out; omega)), (by repeat (first | assumption | exact Ext.refl _ | apply Ext.drewN | apply Ext.drew | apply Ext.alloc | (refine Ext.trans ?_ (by assumption)) | (refine Ext.set ?_ (by dsimp only; omega) _)))⟩, by simp [intOf]; omega⟩
        · have q2' : ¬ (m : Int) < (n : Int) := by omega
          have HQ : ∀ j : Nat, j < n → ((j : Int) - i ≠ (k : Int)) := by intro j hj; omega
          have HQ' := Lib.hid HQ
          clear HQ
          go_wp2_with (fail)
          exact ⟨⟨k + 1, cs, by omega, by go_num, HG.out, HS.out, HX.out.keep (fun j hj => fshiftK_other (HQ'.out j hj)), hx⟩, by simp [intOf]; omega⟩
      · have HQ : ∀ j : Nat, j < n → ((j : Int) - i ≠ (k : Int)) := by intro j hj; omega
        have HQ' := Lib.hid HQ
        clear HQ
        go_wp2_with (fail)
        exact ⟨⟨k + 1, cs, by omega, by go_num, HG.out, HS.out, HX.out.keep (fun j hj => fshiftK_other (HQ'.out j hj)), hx⟩, by simp [intOf]; omega⟩
    · obtain rfl : k = n := by omega
      have ho5 := HX.out.lst HG.out HS.out
      go_wp2_with (fail)
      go_ret2
      rw [← hl.out]
      exact ⟨rfl, blk_lt HG.out, ho5.at0, hx⟩
end Go.Proofs.Ytceldjkgddbfaaa
