/- Contracts: traces the other way round, on both sides. Condition: the list is read. -/
import Derived.Test.YthgmkipifolbfaaTg
namespace Go.Proofs.Ythgmkipifolbfaa
open Go.RowKit Ieee

set_option maxRecDepth 20000 in
set_option maxHeartbeats 4000000 in
theorem c_spec_MirrorTrace {w : World} {B n c : Nat} {A : Option Addr} {L : List (Option Nat)} (h : RdF w B A n L) (hB : B ≤ w.heap.size) (hn : n ≤ 1048576) :
    Calls Try.prog 31 #[.slice A n c] w fun e w' => RetL w e w' (tlen n) (lst (fmirror L) n) := by
  cases hV : tlen n
  · go_enter Try.func31, Try.ntmps31
    go_wp2_with (go_at_call 44; refine Calls.mono (c_l03Is _ _ _ _) ?_; rw [hV]; rintro e w1 ⟨rfl, rfl⟩)
    go_ret2
    exact retL_no rfl (by repeat (first | assumption | exact Ext.refl _ | apply Ext.drewN | apply Ext.drew | apply Ext.alloc | (refine Ext.trans ?_ (by assumption)) | (refine Ext.set ?_ (by dsimp only; omega) _)))
  have hl := Lib.hid h.len
  obtain ⟨i0, hi, hz0, hz1, hz2⟩ := info_parts info_f32
  go_enter Try.func31, Try.ntmps31
  go_wp2_with (go_at_call 44; refine Calls.mono (c_l03Is _ _ _ _) ?_; rw [hV]; rintro e w1 ⟨rfl, rfl⟩)
  go_loopw [4, 5] (fun v y wr => ∃ (k : Nat) (xs : List Value), k ≤ n ∧ y = .int .i64 ((n : Int) - 1 - k) ∧ wr.ownsRow w.heap.size 26 1 v k xs ∧ (∀ j, j < k → ∃ r, xs[j]? = some (.float .f32 r) ∧ Fl .f32 r (fmirror L j)) ∧ Ext w wr) (fun _ y _ => (intOf y + 1).toNat)
  case atStart => exact ⟨0, [], Nat.zero_le _, by congr 1; omega, World.ownsRow_made _ _ 0 (Nat.le_refl _) (Nat.zero_le _) rfl, fun j hj => absurd hj (Nat.not_lt_zero _), (by repeat (first | assumption | exact Ext.refl _ | apply Ext.drewN | apply Ext.drew | apply Ext.alloc | (refine Ext.trans ?_ (by assumption)) | (refine Ext.set ?_ (by dsimp only; omega) _)))⟩
  case round =>
    obtain ⟨k, xs, hk, rfl, hown, hxs, hx⟩ := hrel
    have HX := Lib.hid hxs
    clear hxs
    by_cases hlt : k < n
    · obtain ⟨m, hm⟩ : ∃ m : Nat, n = m + k + 1 := ⟨n - 1 - k, by omega⟩
      have hme : (n : Int) - 1 - k = (m : Int) := by omega
      obtain ⟨b1, o1, t1, rfl, hb1, hc1, ht1⟩ := (h.below (hx.mono hB)).cell (show m < n by omega)
      have e1 : fmirror L k = L.getD m none := by unfold fmirror; rw [hl.out, show n - 1 - k = m by omega]
      have HT := Lib.hid e1
      clear e1
      rw [hme]
      have q1 : (m : Int) < (n : Int) := by omega
      have HM := Lib.hid hm
      clear hm hme
      go_wp2_with (at_builtin; refine wpList_append_own _ rfl _ _ 22 rfl w.heap.size 26 i0 (.float .f32 0) 1 4 Try.underlying22 hi hz0 hz1 hz2 rfl (by decide) _ _ _ rfl (World.ownsRow.alloc (w := wr) hown _) ⟨wr.heap.size, 0, none⟩ 1 1 [.float .f32 t1] rfl rfl ?_ ?_ ?_ ?_ ?_ ?_)
      all_goals first
        | exact one_new (w := wr)
        | (intro u hu; simp at hu; subst hu; rfl)
        | (unfold maxLen; omega)
        | omega
        | (have := hx.size; simp; omega)
        | (intro v' w4 hown' hgrow _
           have hl' : xs.length = k := by have := hown.1; omega
           have hx' : Ext w w4 := grown_ext (Ext.alloc (hx) _) (World.ownsRow.alloc (w := wr) hown _) hgrow
           have HXX := Lib.hid (row_step hl' HX.out (by rw [HT.out]; exact ht1))
           clear hown hgrow hx
           go_wp2_with (fail)
           exact ⟨⟨k + 1, _, by omega, by have := HM.out; congr 1; omega, hown', HXX.out, hx'⟩, by have := HM.out; first | (simp [intOf]; omega) | (simp [intOf]; done)⟩)
    · obtain rfl : k = n := by omega
      have ho4 : OwF wr w.heap.size _ k (fmirror L) := ⟨xs, hown, HX.out⟩
      obtain ⟨A4, c4, rfl, ho5⟩ := ho4.owl
      go_wp2_with (fail)
      go_ret2
      exact ⟨_, _, _, rfl, ho5, hx⟩

set_option maxRecDepth 20000 in
set_option maxHeartbeats 4000000 in
theorem c_impl_MirrorTrace {w : World} {B n c : Nat} {A : Option Addr} {L : List (Option Nat)} (h : RdF w B A n L) (hB : B ≤ w.heap.size) (hn : n ≤ 1048576) :
    Calls Try.prog 32 #[.slice A n c] w fun e w' => RetL w e w' (tlen n) (lst (fmirror L) n) := by
  cases hV : tlen n
  · go_enter Try.func32, Try.ntmps32
    go_wp2_with (go_at_call 17; refine Calls.mono (c_IsTrace _ _ _ _) ?_; rw [hV]; rintro e w1 ⟨rfl, rfl⟩)
    go_ret2
    exact retL_no rfl (by repeat (first | assumption | exact Ext.refl _ | apply Ext.drewN | apply Ext.drew | apply Ext.alloc | (refine Ext.trans ?_ (by assumption)) | (refine Ext.set ?_ (by dsimp only; omega) _)))
  have hl := Lib.hid h.len
  have hpos : 0 < n := (tlen_of hV).1
  go_enter Try.func32, Try.ntmps32
  go_wp2_with (first | (go_at_call 17; refine Calls.mono (c_IsTrace _ _ _ _) ?_; rw [hV]; rintro e w1 ⟨rfl, rfl⟩) | (go_at_call 55; refine Calls.mono (c_cloneF h hB hn hpos) ?_; rintro e w2 ⟨g, cs, c2, rfl, hg1, hg2, hg3, hg4, hx2⟩) | (go_at_call 56; refine Calls.mono (c_revF hg2 hg3 hg4 hn hpos) ?_; rintro e w3 ⟨rfl, cs3, hh2, hh3, hh4, hk3⟩))
  go_ret2
  have hx3 := hk3.ext hx2 hg1
  refine ⟨_, _, _, rfl, (rowF_lst' (hh4.keep (G := fmirror L) (fun j hj => ?_)) hh2 hh3).more hg1 (Nat.le_refl _), hx3⟩
  unfold fmirror; rw [hl.out]

theorem both_MirrorTrace {n0 : Nat} {L0 : List (Option Nat)} (_hl0 : L0.length = n0) (hn0 : n0 ≤ 1048576) :
    ∃ ok Q q, q ≤ 1048576 ∧ (∀ W : World, ∀ (B0 : Nat) (A0 : Option Addr) (c0 : Nat), RdF W B0 A0 n0 L0 → B0 ≤ W.heap.size → Calls Try.prog 31 #[.slice A0 n0 c0] W fun e w' => RetQ W e w' ok q Q) ∧
      (∀ W : World, ∀ (B0 : Nat) (A0 : Option Addr) (c0 : Nat), RdF W B0 A0 n0 L0 → B0 ≤ W.heap.size → Calls Try.prog 32 #[.slice A0 n0 c0] W fun e w' => RetQ W e w' ok q Q) :=
  ⟨tlen n0, outL (tlen n0) (lst (fmirror L0) n0), (outL (tlen n0) (lst (fmirror L0) n0)).length, Nat.le_trans (outL_len _ _) (by rw [lst_len]; omega),
    fun W _ _ _ h0 hB0 => Calls.mono (c_spec_MirrorTrace (w := W) h0 hB0 hn0) (fun _ _ hr => hr.q), fun W _ _ _ h0 hB0 => Calls.mono (c_impl_MirrorTrace (w := W) h0 hB0 hn0) (fun _ _ hr => hr.q)⟩
end Go.Proofs.Ythgmkipifolbfaa
