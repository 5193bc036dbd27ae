/- Contracts: what the laws do with lists of frames: measured, copied, compared. Condition: the list is read. -/
import Derived.Test.YtfmhdnhaaohdjaaQf
import Derived.Test.YtfmhdnhaaohdjaaQx
namespace Go.Proofs.Ytfmhdnhaaohdjaa
open Go.RowKit Go.ChangeShapes Go.WideShapes Go.Deep Ieee
set_option linter.unusedVariables false
set_option linter.unusedSimpArgs false

theorem szOf_m {n T : Nat} {l l2 : Nat} (h : (l : Int) - (n : Int) = (l2 : Int)) : (if n + T ≤ l then ((l - (n + T) : Nat) : Int) else -1) = szOf l2 T := by
  unfold szOf; split <;> split <;> omega
/-- A frame of a list, as one value. -/
theorem RdM.val {w : World} {B n k : Nat} {A : Option Addr} {R : List Sct} (h : RdM w B A n R) (hk : k < n) :
    ∃ b off A' c', A = some ⟨b, off, none⟩ ∧ b < B ∧ FAt w b (off + k * 3) (R.getD k noT).x (R.getD k noT).z A' (R.getD k noT).v.length c' ∧ RdT w B (.agg #[.int .i64 (R.getD k noT).x, .int .i64 (R.getD k noT).z, .slice A' (R.getD k noT).v.length c']) (R.getD k noT) := by
  obtain ⟨b, off, A', c', hA, hb, h1, h2, h3⟩ := h.cell hk
  exact ⟨b, off, A', c', hA, hb, h1, ⟨A', c', rfl, h2, h3⟩⟩
set_option maxRecDepth 20000 in
set_option maxHeartbeats 4000000 in
theorem c_szFrameS {w : World} {B n c : Nat} {A : Option Addr} {R : List Sct} (h : RdM w B A n R) (hB : B ≤ w.heap.size) (hn : n ≤ maxLen) (hr : ∀ j, j < n → (R.getD j noT).v.length ≤ maxLen) {l : Nat} (hll : l ≤ 1048576) :
    Calls Try.prog 20 #[.slice A n c, .int .i64 (l : Int)] w fun e w' => e = .returned (.int .i64 (if n + totM R ≤ l then ((l - (n + totM R) : Nat) : Int) else -1)) ∧ Ext w w' := by
  unfold maxLen at hn
  by_cases hl : n ≤ l
  case neg =>
    rw [if_neg (by omega)]
    have hq : ((l : Int) - (n : Int)) < 0 := by omega
    have hw : IntKind.i64.wrap ((l : Int) - (n : Int)) = (l : Int) - (n : Int) := IntWalk.i64_in _ (by omega)
    go_enter Try.func20, Try.ntmps20
    go_wp2_with (fail)
    go_ret
    exact ⟨rfl, (by repeat (first | assumption | exact Ext.refl _ | apply Ext.drewN | apply Ext.drew | apply Ext.alloc | (refine Ext.trans ?_ (by assumption)) | (refine Ext.set ?_ (by dsimp only; omega) _)))⟩
  obtain ⟨l2, hl2⟩ : ∃ l2 : Nat, (l : Int) - (n : Int) = (l2 : Int) := ⟨l - n, by omega⟩
  have hl3 : l2 ≤ 1048576 := by omega
  have hnl : ¬ ((l2 : Int) < 0) := by omega
  have hwl : IntKind.i64.wrap (l2 : Int) = (l2 : Int) := IntWalk.i64_in _ (by omega)
  rw [szOf_m hl2]
  clear hl
  go_enter Try.func20, Try.ntmps20
  go_wp2_with (fail)
  go_loopw [1, 5] (fun l i wr => ∃ k : Nat, k ≤ n ∧ i = .int .i64 k ∧ totM (R.take k) ≤ l2 ∧ l = .int .i64 ((l2 - totM (R.take k) : Nat) : Int) ∧ Ext w wr) (fun _ i _ => n - (intOf i).toNat)
  case atStart => exact ⟨0, Nat.zero_le _, rfl, by simp [totM], by simp [totM], (by repeat (first | assumption | exact Ext.refl _ | apply Ext.drewN | apply Ext.drew | apply Ext.alloc | (refine Ext.trans ?_ (by assumption)) | (refine Ext.set ?_ (by dsimp only; omega) _)))⟩
  case round =>
    obtain ⟨k, hk, rfl, ht, rfl, hx⟩ := hrel
    by_cases hlt : k < n
    · have hlt' : (k : Int) < (n : Int) := by omega
      have h' := h.below (hx.mono hB)
      obtain ⟨b, off, A', c', rfl, hb, hc, hrd⟩ := h'.val hlt
      have hts := totM_take_succ R k (by rw [h.len]; exact hlt)
      have htl := totM_take_le R (k + 1)
      have hrk := hr k hlt
      have hsz := fun (l : Nat) (hl : l ≤ 1048576) => c_szFrame hrd hrk hl
      obtain ⟨c0, c1, c2⟩ := hc
      generalize hL : (R.getD k noT).v.length = Lk at hts c2 hrk hsz
      generalize (R.getD k noT).x = X at *
      generalize (R.getD k noT).z = Z at *
      by_cases hq : Lk ≤ l2 - totM (R.take k)
      · have hq2 : l2 - totM (R.take k) - Lk = l2 - totM (R.take (k + 1)) := by omega
        have hq3 : ¬ (((l2 - totM (R.take (k + 1)) : Nat) : Int) < 0) := by omega
        have ht2 : totM (R.take (k + 1)) ≤ l2 := by omega
        have hsz := hsz (l2 - totM (R.take k)) (by omega)
        rw [if_pos hq, hq2] at hsz
        have HSZ := Lib.hid hsz
        have HT := Lib.hid ht2
        clear hsz hq hts htl ht ht2 hL hrd h' hr
        generalize l2 - totM (R.take k) = m0 at *
        generalize hm1 : l2 - totM (R.take (k + 1)) = m1 at *
        have HM := Lib.hid hm1
        clear hm1
        go_wp2_with (go_at_call 15; refine Calls.mono HSZ.out ?_; rintro e w2 ⟨rfl, hx2⟩)
        exact ⟨⟨k + 1, by omega, by go_num, HT.out, by rw [HM.out], hx.trans hx2⟩, by simp [intOf]; omega⟩
      · have hsz := hsz (l2 - totM (R.take k)) (by omega)
        rw [if_neg hq] at hsz
        have HSZ := Lib.hid hsz
        have hfin : ¬ totM R ≤ l2 := by omega
        have HFIN := Lib.hid hfin
        clear hsz hq hts htl ht hL hfin hrd h' hr
        generalize l2 - totM (R.take k) = m0 at *
        go_wp2_with (go_at_call 15; refine Calls.mono HSZ.out ?_; rintro e w2 ⟨rfl, hx2⟩)
        go_ret
        exact ⟨by rw [szOf_no HFIN.out]; rfl, hx.trans hx2⟩
    · obtain rfl : k = n := by omega
      rw [totM_all h.len] at ht ⊢
      have HT := Lib.hid ht
      clear ht
      go_wp2_with (fail)
      go_ret
      exact ⟨by rw [szOf_yes HT.out]; rfl, hx⟩
set_option maxRecDepth 20000 in
set_option maxHeartbeats 4000000 in
theorem c_toFrameS {w : World} {B n c : Nat} {A : Option Addr} {R : List Sct} (h : RdM w B A n R) (hB : B ≤ w.heap.size) (hn : n ≤ 1048576) (hr : ∀ j, j < n → (R.getD j noT).v.length ≤ 1048576) :
    Calls Try.prog 22 #[.slice A n c] w fun e w' => e = .returned (.slice (some ⟨w.heap.size, 0, none⟩) n n) ∧ OwM w' w.heap.size w'.heap.size (some ⟨w.heap.size, 0, none⟩) n R ∧ Ext w w' ∧ w.heap.size < w'.heap.size := by
  have hmk := fun W => run_make_frm Try.prog 34 27 Try.underlying34 info_frame n hn W
  go_enter Try.func22, Try.ntmps22
  go_wp2_with (fail)
  go_loopw [4] (fun i wr => ∃ (k : Nat) (cs : Array Value) (f : Nat → Nat), k ≤ n ∧ i = .int .i64 k ∧ wr.heap[w.heap.size]? = some (.cells cs 27 (0, 0)) ∧ cs.size = n * 3 ∧ RowsM wr (w.heap.size + 1) w.heap.size f cs k R ∧ Ext w wr) (fun i _ => n - (intOf i).toNat)
  case atStart => exact ⟨0, _, id, Nat.zero_le _, rfl, heap_alloc_new w _, size_madeCells _ _, RowsM.zero _ _ _ _ _ _, (by repeat (first | assumption | exact Ext.refl _ | apply Ext.drewN | apply Ext.drew | apply Ext.alloc | (refine Ext.trans ?_ (by assumption)) | (refine Ext.set ?_ (by dsimp only; omega) _)))⟩
  case round =>
    obtain ⟨k, cs, f, hk, rfl, hg, hsz, hp, hx⟩ := hrel
    by_cases hlt : k < n
    · obtain ⟨b, off, A', c', rfl, hb, hc, hrd⟩ := (h.below (hx.mono hB)).val hlt
      have hlt' : (k : Int) < (n : Int) := by omega
      have hto := c_toFrame2 hrd (Nat.le_trans hB hx.size) (hr k hlt)
      obtain ⟨c0, c1, c2⟩ := hc
      have HTO := Lib.hid hto
      have HG := Lib.hid hg
      have HP := Lib.hid hp
      have HS := Lib.hid hsz
      clear hg hp hsz hto hrd
      go_wp2_with (go_at_call 17; refine Calls.mono HTO.out ?_; rintro e w2 ⟨u2, rfl, ho2, hx2, hs2⟩; obtain ⟨A2, cc2, rfl, hL2, hcc2⟩ := ho2.ex; have g2 := Lib.hid (hx2.blk HG.out); obtain ⟨u0, u1, u2, e0, e1, e2, z0, z1, z2⟩ := three_of_row g2.out (by rw [HS.out]; exact Nat.le_refl _) hlt)
      obtain ⟨bb, hb1, hb2, hL3⟩ := hL2.one hs2
      have hp2 := (HP.out.ext hx2).push (A' := A2) (c' := cc2) HS.out hlt hL3 hcc2 (by have := blk_lt HG.out; omega) (by have := blk_lt HG.out; omega) hb2 (fun j hj => by
        obtain ⟨_, _, _, _, _, _, _, h6⟩ := HP.out.at_ j hj
        omega)
      exact ⟨⟨k + 1, _, _, by omega, by go_num, blk_set1 (blk_set1 (blk_set1 g2.out _ _) _ _) _ _, by simp only [Array.size_setIfInBounds]; exact HS.out, ((hp2.set _ _).set _ _).set _ _, Ext.set (Ext.set (Ext.set (hx.trans hx2) (Nat.le_refl _) _) (Nat.le_refl _) _) (Nat.le_refl _) _⟩, by simp [intOf]; omega⟩
    · obtain rfl : k = n := by omega
      go_wp2_with (fail)
      go_ret
      exact ⟨rfl, hp.own h.len hg (by omega) (by omega) (Nat.le_refl _), hx, blk_lt hg⟩
set_option maxRecDepth 20000 in
set_option maxHeartbeats 4000000 in
theorem c_eqFrameS {w : World} {B B' n c c' : Nat} {A A' : Option Addr} {R : List Sct} (h : RdM w B A n R) (h' : RdM w B' A' n R) (hB : B ≤ w.heap.size) (hB' : B' ≤ w.heap.size) (hn : n ≤ 1048576) (hr : ∀ j, j < n → (R.getD j noT).v.length ≤ 1048576) :
    Calls Try.prog 24 #[.slice A n c, .slice A' n c'] w fun e w' => e = .returned (.bool true) ∧ Ext w w' := by
  go_enter Try.func24, Try.ntmps24
  go_wp2_with (fail)
  go_loopw [5] (fun i wr => ∃ k : Nat, k ≤ n ∧ i = .int .i64 k ∧ Ext w wr) (fun i _ => n - (intOf i).toNat)
  case atStart => exact ⟨0, Nat.zero_le _, rfl, (by repeat (first | assumption | exact Ext.refl _ | apply Ext.drewN | apply Ext.drew | apply Ext.alloc | (refine Ext.trans ?_ (by assumption)) | (refine Ext.set ?_ (by dsimp only; omega) _)))⟩
  case round =>
    obtain ⟨k, hk, rfl, hx⟩ := hrel
    by_cases hlt : k < n
    · have hq := h.below (hx.mono hB)
      have hq' := h'.below (hx.mono hB')
      obtain ⟨b, off, A1, c1, rfl, hb, hc, hrd⟩ := hq.val hlt
      obtain ⟨b', off', A2, c2, rfl, hb', hc', hrd'⟩ := hq'.val hlt
      have hlt' : (k : Int) < (n : Int) := by omega
      have hh := fun (W : World) (hX : Ext wr W) => c_eqFrame (w := W) (hrd.below (hX.mono (Nat.le_trans hB hx.size))) (hrd'.below (hX.mono (Nat.le_trans hB' hx.size))) (Nat.le_trans (Nat.le_trans hB hx.size) hX.size) (Nat.le_trans (Nat.le_trans hB' hx.size) hX.size) (hr k hlt)
      have HH := Lib.hid hh
      obtain ⟨d0, d1, d2⟩ := hc
      obtain ⟨d0', d1', d2'⟩ := hc'
      clear hrd hrd' hh hq hq'
      generalize (R.getD k noT).v.length = Lk at *
      generalize (R.getD k noT).x = X at *
      generalize (R.getD k noT).z = Z at *
      go_wp2_with (fail)
      go_region_with (first | (go_at_call 19; refine Calls.mono (HH.out _ (by repeat (first | assumption | exact Ext.refl _ | apply Ext.drewN | apply Ext.drew | apply Ext.alloc | (refine Ext.trans ?_ (by assumption)) | (refine Ext.set ?_ (by dsimp only; omega) _)))) ?_; rintro e w1 ⟨rfl, hx1⟩))
      all_goals
        go_wp2_with (fail)
        exact ⟨⟨k + 1, by omega, by go_num, (by repeat (first | assumption | exact Ext.refl _ | apply Ext.drewN | apply Ext.drew | apply Ext.alloc | (refine Ext.trans ?_ (by assumption)) | (refine Ext.set ?_ (by dsimp only; omega) _)))⟩, by simp [intOf]; omega⟩
    · have hkn : k = n := by omega
      go_wp2_with (fail)
      go_ret
      exact ⟨rfl, hx⟩
end Go.Proofs.Ytfmhdnhaaohdjaa
