/- Contracts: traces times a number, and less with time, on both sides. Condition: the list is read. -/
import Derived.Test.YthgooahifbdaaaaJn
namespace Go.Proofs.Ythgooahifbdaaaa
open Go.RowKit Ieee

set_option maxRecDepth 20000 in
set_option maxHeartbeats 4000000 in
theorem c_l03Scale {w : World} {B n c : Nat} {A : Option Addr} {L : List (Option Nat)} (h : RdF w B A n L) (hB : B ≤ w.heap.size) (hn : n ≤ 1048576) {p : Nat} {P : Option Nat} (fp : Fl .f32 p P) :
    Calls Try.prog 60 #[.slice A n c, .float .f32 p] w fun e w' => ∃ v, e = .returned v ∧ OwF w' w.heap.size v n (fscale L P) ∧ Ext w w' := by
  obtain ⟨i0, hi, hz0, hz1, hz2⟩ := info_parts info_f32
  go_enter Try.func60, Try.ntmps60
  go_wp2_with (fail)
  go_loopw [5, 10] (fun v  i wr => ∃ (k : Nat) (xs : List Value), k ≤ n ∧ i = .int .i64 k ∧ wr.ownsRow w.heap.size 28 1 v k xs ∧ (∀ j, j < k → ∃ r, xs[j]? = some (.float .f32 r) ∧ Fl .f32 r (fscale L P j)) ∧ Ext w wr) (fun _ i _ => n - (intOf i).toNat)
  case atStart => exact ⟨0, [], Nat.zero_le _, rfl, World.ownsRow_made _ _ 0 (Nat.le_refl _) (Nat.zero_le _) rfl, fun j hj => absurd hj (Nat.not_lt_zero _), (by repeat (first | assumption | exact Ext.refl _ | apply Ext.drewN | apply Ext.drew | apply Ext.alloc | (refine Ext.trans ?_ (by assumption)) | (refine Ext.set ?_ (by dsimp only; omega) _)))⟩
  case round =>
    obtain ⟨k, xs, hk, rfl, hown, hxs, hx⟩ := hrel
    have HX := Lib.hid hxs
    clear hxs
    by_cases hlt : k < n
    · obtain ⟨b1, o1, t1, rfl, hb1, hc1, ht1⟩ := (h.below (hx.mono hB)).cell hlt
      have hHT' : fscale L P k = fop .mul .f32 (L.getD k none) P := rfl
      have HT := Lib.hid hHT'
      clear hHT'
      have hlt' : (k : Int) < (n : Int) := by omega
      go_wp2_with (first | (apply upon_fop rfl; (exact ht1); (exact fp); intro r5 nr5 hr5; rw [← HT.out] at hr5) | (at_builtin; refine wpList_append_own _ rfl _ _ 22 rfl w.heap.size 28 i0 (.float .f32 0) 1 4 Try.underlying22 hi hz0 hz1 hz2 rfl (by decide) _ _ _ rfl (World.ownsRow.alloc (w := wr.drewN _) hown _) ⟨wr.heap.size, 0, none⟩ 1 1 [.float .f32 r5] rfl rfl ?_ ?_ ?_ ?_ ?_ ?_))
      all_goals first
        | exact one_new (w := wr.drewN _)
        | (intro u hu; simp at hu; subst hu; rfl)
        | (unfold maxLen; omega)
        | omega
        | (have := hx.size; simp; omega)
        | (intro v' w4 hown' hgrow _
           have hl' : xs.length = k := by have := hown.1; omega
           have hx' : Ext w w4 := grown_ext (Ext.alloc (Ext.drewN hx _) _) (World.ownsRow.alloc (w := wr.drewN _) hown _) hgrow
           have HXX := Lib.hid (row_step hl' HX.out hr5)
           clear hown hgrow hx
           go_wp2_with (fail)
           exact ⟨⟨k + 1, _, by omega, by go_num, hown', HXX.out, hx'⟩, by simp [intOf]; omega⟩)
    · obtain rfl : k = n := by omega
      go_wp2_with (fail)
      go_ret
      exact ⟨_, rfl, ⟨xs, hown, HX.out⟩, hx⟩

set_option maxRecDepth 20000 in
set_option maxHeartbeats 4000000 in
theorem c_spec_ScaleTrace {w : World} {B n c : Nat} {A : Option Addr} {L : List (Option Nat)} (h : RdF w B A n L) (hB : B ≤ w.heap.size) (hn : n ≤ 1048576) {p : Nat} {P : Option Nat} (fp : Fl .f32 p P) :
    Calls Try.prog 23 #[.slice A n c, .float .f32 p] w fun e w' => RetL w e w' (tlen n) (lst (fscale L P) n) := by
  cases hV : tlen n
  · go_enter Try.func23, Try.ntmps23
    go_wp2_with (go_at_call 59; refine Calls.mono (c_l03Is _ _ _ _) ?_; rw [hV]; rintro e w1 ⟨rfl, rfl⟩)
    go_ret2
    exact retL_no rfl (by repeat (first | assumption | exact Ext.refl _ | apply Ext.drewN | apply Ext.drew | apply Ext.alloc | (refine Ext.trans ?_ (by assumption)) | (refine Ext.set ?_ (by dsimp only; omega) _)))
  go_enter Try.func23, Try.ntmps23
  go_wp2_with (first | (go_at_call 59; refine Calls.mono (c_l03Is _ _ _ _) ?_; rw [hV]; rintro e w1 ⟨rfl, rfl⟩) | (go_at_call 60; refine Calls.mono (c_l03Scale h hB hn fp) ?_; rintro e w2 ⟨v, rfl, ho, hx2⟩; obtain ⟨A2, c2, rfl, ho2⟩ := ho.owl))
  go_ret2
  exact ⟨_, _, _, rfl, ho2, hx2⟩

set_option maxRecDepth 20000 in
set_option maxHeartbeats 4000000 in
theorem c_impl_ScaleTrace {w : World} {B n c : Nat} {A : Option Addr} {L : List (Option Nat)} (h : RdF w B A n L) (hB : B ≤ w.heap.size) (hn : n ≤ 1048576) {p : Nat} {P : Option Nat} (fp : Fl .f32 p P) :
    Calls Try.prog 24 #[.slice A n c, .float .f32 p] w fun e w' => RetL w e w' (tlen n) (lst (fscale L P) n) := by
  cases hV : tlen n
  · go_enter Try.func24, Try.ntmps24
    go_wp2_with (go_at_call 61; refine Calls.mono (c_IsTrace _ _ _ _) ?_; rw [hV]; rintro e w1 ⟨rfl, rfl⟩)
    go_ret2
    exact retL_no rfl (by repeat (first | assumption | exact Ext.refl _ | apply Ext.drewN | apply Ext.drew | apply Ext.alloc | (refine Ext.trans ?_ (by assumption)) | (refine Ext.set ?_ (by dsimp only; omega) _)))
  go_enter Try.func24, Try.ntmps24
  go_wp2_with (first | (go_at_call 61; refine Calls.mono (c_IsTrace _ _ _ _) ?_; rw [hV]; rintro e w1 ⟨rfl, rfl⟩) | (go_at_call 62; refine Calls.mono (c_scaleList h hB hn fp) ?_; rintro e w2 ⟨A2, rfl, ho2, hx2⟩))
  go_ret2
  exact ⟨_, _, _, rfl, ho2, hx2⟩



theorem both_ScaleTrace {n0 : Nat} {L0 : List (Option Nat)} (_hl0 : L0.length = n0) (hn0 : n0 ≤ 1048576) {p1 : Nat} {P1 : Option Nat} (fp1 : Fl .f32 p1 P1) :
    ∃ ok Q q, q ≤ 1048576 ∧ (∀ W : World, ∀ (B0 : Nat) (A0 : Option Addr) (c0 : Nat), RdF W B0 A0 n0 L0 → B0 ≤ W.heap.size → Calls Try.prog 23 #[.slice A0 n0 c0, .float .f32 p1] W fun e w' => RetQ W e w' ok q Q) ∧
      (∀ W : World, ∀ (B0 : Nat) (A0 : Option Addr) (c0 : Nat), RdF W B0 A0 n0 L0 → B0 ≤ W.heap.size → Calls Try.prog 24 #[.slice A0 n0 c0, .float .f32 p1] W fun e w' => RetQ W e w' ok q Q) :=
  ⟨tlen n0, outL (tlen n0) (lst (fscale L0 P1) n0), (outL (tlen n0) (lst (fscale L0 P1) n0)).length, Nat.le_trans (outL_len _ _) (by rw [lst_len]; omega),
    fun W _ _ _ h0 hB0 => Calls.mono (c_spec_ScaleTrace (w := W) h0 hB0 hn0 fp1) (fun _ _ hr => hr.q), fun W _ _ _ h0 hB0 => Calls.mono (c_impl_ScaleTrace (w := W) h0 hB0 hn0 fp1) (fun _ _ hr => hr.q)⟩

end Go.Proofs.Ythgooahifbdaaaa
