/- Contracts: autos and crosses, the reference. Condition: the lists are read. -/
import Derived.Test.YtceldjkgddbfaabRa
namespace Go.Proofs.Ytceldjkgddbfaab
open Go.RowKit Ieee

set_option maxRecDepth 20000 in
set_option maxHeartbeats 8000000 in
theorem c_l05Auto {w : World} {B n c : Nat} {A : Option Addr} {L : List (Option Nat)} (h : RdF w B A n L) (hB : B ≤ w.heap.size) (hn : n ≤ 1048576) {N : Nat} (hN : N ≤ 24) :
    Calls Try.prog 108 #[.slice A n c, .int .i64 (N : Int)] w fun e w' => ∃ v, e = .returned v ∧ OwF w' w.heap.size v N (fun k => fcr L L (k : Int) n) ∧ Ext w w' := by
  have hl := Lib.hid h.len
  obtain ⟨i0, hi, hz0, hz1, hz2⟩ := info_parts info_f32
  go_enter Try.func108, Try.ntmps108
  go_wp2_with (fail)
  go_loopw [5, 6] (fun v y wr => ∃ (k : Nat) (xs : List Value), k ≤ N ∧ y = .int .i64 k ∧ wr.ownsRow w.heap.size 28 1 v k xs ∧ (∀ j, j < k → ∃ r, xs[j]? = some (.float .f32 r) ∧ Fl .f32 r ((fun k : Nat => fcr L L (k : Int) n) j)) ∧ Ext w wr) (fun _ y _ => N - (intOf y).toNat)
  case atStart => exact ⟨0, [], Nat.zero_le _, rfl, World.ownsRow_made _ _ 0 (Nat.le_refl _) (Nat.zero_le _) rfl, fun j hj => absurd hj (Nat.not_lt_zero _), (by repeat (first | assumption | exact Ext.refl _ | apply Ext.drewN | apply Ext.drew | apply Ext.alloc | (refine Ext.trans ?_ (by assumption)) | (refine Ext.set ?_ (by dsimp only; omega) _)))⟩
  case round =>
    obtain ⟨k, xs, hk, rfl, hown, hxs, hx⟩ := hrel
    have HX : Hid (∀ j, j < k → ∃ r, xs[j]? = some (.float .f32 r) ∧ Fl .f32 r ((fun k : Nat => fcr L L (k : Int) n) j)) := Lib.hid hxs
    have HO := Lib.hid hown
    clear hxs hown
    by_cases hlt : k < N
    · have hlt' : (k : Int) < (N : Int) := by omega
      go_wp2_with (fail)
      go_loopw [7, 8] (fun x z wq => ∃ (i r q : Nat), i ≤ n ∧ z = .int .i64 i ∧ x = .float .f32 r ∧ Fl .f32 r (fcr L L (k : Int) i) ∧ wq = wr.drewN q) (fun _ z _ => n - (intOf z).toNat)
      case atStart => exact ⟨0, 0, 0, Nat.zero_le _, rfl, rfl, fl_fz, rfl⟩
      case round =>
        obtain ⟨i, r, q, hi2, rfl, rfl, hr, rfl⟩ := hrel
        obtain ⟨d, hd⟩ : ∃ d, d = i + k := ⟨_, rfl⟩
        have hdI : (i : Int) + (k : Int) = (d : Int) := by omega
        have hwd : IntKind.i64.wrap (d : Int) = (d : Int) := IntWalk.i64_in _ (by omega)
        by_cases h1 : d < n
        · have h1' : (d : Int) < (n : Int) := by omega
          have h2' : (i : Int) < (n : Int) := by omega
          obtain ⟨b1, o1, t1, rfl, hb1, hc1, ht1⟩ := (h.below (hx.mono hB)).cell (show i < n by omega)
          obtain ⟨b2, o2, t2, hA2, hb2, hc2, ht2⟩ := (h.below (hx.mono hB)).cell h1
          simp only [Option.some.injEq, Addr.mk.injEq, and_true] at hA2
          obtain ⟨rfl, rfl⟩ := hA2
          have HT := Lib.hid (fcr_in (P := L) (T := L) (k := i) (v := (k : Int)) hdI (by rw [hl.out]; exact h1))
          clear hd
          go_wp2_with (fail)
          refine wp_region_loose 13 (by kernel_rfl) (by kernel_rfl) ?_
          simp only [List.take_succ_cons, List.take_zero, List.drop_succ_cons, List.drop_zero]
          refine la_start ?_
          refine la_fix _ (by rfl) (by intros; go_simp; rfl) ?_
          try simp only [Act.put, List.setIfInBounds_toArray, List.set_cons_zero, List.set_cons_succ]
          refine la_fix _ (by rfl) (by intros; go_simp; rfl) ?_
          try simp only [Act.put, List.setIfInBounds_toArray, List.set_cons_zero, List.set_cons_succ]
          refine la_fix _ (by rfl) (by intros; go_simp; rfl) ?_
          try simp only [Act.put, List.setIfInBounds_toArray, List.set_cons_zero, List.set_cons_succ]
          refine la_fix _ (by rfl) (by intros; go_simp; rfl) ?_
          try simp only [Act.put, List.setIfInBounds_toArray, List.set_cons_zero, List.set_cons_succ]
          refine la_fix _ (by rfl) (by intros; go_simp; rfl) ?_
          try simp only [Act.put, List.setIfInBounds_toArray, List.set_cons_zero, List.set_cons_succ]
          refine la_fix _ (by rfl) (by intros; go_simp; rfl) ?_
          try simp only [Act.put, List.setIfInBounds_toArray, List.set_cons_zero, List.set_cons_succ]
          refine la_fix _ (by rfl) (by intros; go_simp; rfl) ?_
          try simp only [Act.put, List.setIfInBounds_toArray, List.set_cons_zero, List.set_cons_succ]
          refine la_fix _ (by rfl) (by intros; go_simp; rfl) ?_
          try simp only [Act.put, List.setIfInBounds_toArray, List.set_cons_zero, List.set_cons_succ]
          refine la_fix _ (by rfl) (by intros; go_simp; rfl) ?_
          try simp only [Act.put, List.setIfInBounds_toArray, List.set_cons_zero, List.set_cons_succ]
          refine la_fix _ (by rfl) (by intros; go_simp; rfl) ?_
          try simp only [Act.put, List.setIfInBounds_toArray, List.set_cons_zero, List.set_cons_succ]
          refine la_fix _ (by rfl) (by intros; go_simp; rfl) ?_
          try simp only [Act.put, List.setIfInBounds_toArray, List.set_cons_zero, List.set_cons_succ]
          refine la_fop (op := .mul) (by rfl) (by rfl) (by intros; refine ⟨_, _, ?_, ?_, fun q => (by go_simp; rfl)⟩ <;> (first | assumption | exact fl_fu | exact fl_fz)) ?_
          try simp only [Act.put, List.setIfInBounds_toArray, List.set_cons_zero, List.set_cons_succ]
          refine la_fop (op := .add) (by rfl) (by rfl) (by intros; refine ⟨_, _, ?_, ?_, fun q => (by go_simp; rfl)⟩ <;> (first | assumption | exact fl_fu | exact fl_fz)) ?_
          try simp only [Act.put, List.setIfInBounds_toArray, List.set_cons_zero, List.set_cons_succ]
          refine la_end ?_
          intro r5 hr5 r6 hr6 q2
          rw [← HT.out] at hr6
          go_wp2_with (fail)
          exact ⟨⟨i + 1, r6, _, by omega, by go_num, rfl, hr6, by first | rfl | exact World.drewN_drewN _ _ _⟩, by simp [intOf]; omega⟩
        · have h1' : ¬ (d : Int) < (n : Int) := by omega
          have hr' : Fl .f32 r (fcr L L (k : Int) n) := by
            rw [fcr_stop hi2 fun j j1 _ => .inr (by rw [hl.out]; omega)]; exact hr
          have hown := HO.out
          clear hr hd
          go_wp2_with (at_builtin; refine wpList_append_own _ rfl _ _ 22 rfl w.heap.size 28 i0 (.float .f32 0) 1 4 Try.underlying22 hi hz0 hz1 hz2 rfl (by decide) _ _ _ rfl (World.ownsRow.alloc (w := wr.drewN q) hown _) ⟨wr.heap.size, 0, none⟩ 1 1 [.float .f32 r] rfl rfl ?_ ?_ ?_ ?_ ?_ ?_)
          all_goals first
            | exact one_new (w := wr.drewN q)
            | (intro j0 u hj0; have h0 := one_new (w := wr.drewN q) j0 u hj0; have e0 : (⟨(wr.drewN q).heap.size, 0, none⟩ : Addr).add j0 = ⟨wr.heap.size, j0, none⟩ := (by rw [show (wr.drewN q).heap.size = wr.heap.size from rfl]; simp [Addr.add]; first | done | (intros; omega)); rw [e0] at h0; exact h0)
            | rfl
            | (intro u hu; simp at hu; subst hu; rfl)
            | (unfold maxLen; omega)
            | omega
            | (have := hx.size; simp; omega)
            | (intro v' w4 hown' hgrow _
               have hl' : xs.length = k := by have := hown.1; omega
               have hx' : Ext w w4 := grown_ext (Ext.alloc (Ext.drewN hx _) _) (World.ownsRow.alloc (w := wr.drewN q) hown _) hgrow
               have HXX := Lib.hid (row_step hl' HX.out hr')
               clear hown hgrow hx
               go_wp2_with (fail)
               exact ⟨⟨k + 1, _, by omega, by go_num, hown', HXX.out, hx'⟩, by simp [intOf]; omega⟩)
    · obtain rfl : k = N := by omega
      have hown := HO.out
      go_wp2_with (fail)
      go_ret
      exact ⟨_, rfl, ⟨xs, hown, HX.out⟩, hx⟩
set_option maxRecDepth 20000 in
set_option maxHeartbeats 8000000 in
theorem c_l05Cross {w : World} {B n c : Nat} {A : Option Addr} {L : List (Option Nat)} (h : RdF w B A n L) (hB : B ≤ w.heap.size) (_hn : n ≤ 1048576) {B' m c' : Nat} {A' : Option Addr} {M : List (Option Nat)} (h' : RdF w B' A' m M) (hB' : B' ≤ w.heap.size) (hm : m ≤ 1048576) {N : Nat} (hN : N ≤ 24) :
    Calls Try.prog 111 #[.slice A n c, .slice A' m c', .int .i64 (N : Int)] w fun e w' => ∃ v, e = .returned v ∧ OwF w' w.heap.size v N (fun k => fcr M L (k : Int) m) ∧ Ext w w' := by
  have hl := Lib.hid h.len
  obtain ⟨i0, hi, hz0, hz1, hz2⟩ := info_parts info_f32
  go_enter Try.func111, Try.ntmps111
  go_wp2_with (fail)
  go_loopw [7, 8] (fun v y wr => ∃ (k : Nat) (xs : List Value), k ≤ N ∧ y = .int .i64 k ∧ wr.ownsRow w.heap.size 28 1 v k xs ∧ (∀ j, j < k → ∃ r, xs[j]? = some (.float .f32 r) ∧ Fl .f32 r ((fun k : Nat => fcr M L (k : Int) m) j)) ∧ Ext w wr) (fun _ y _ => N - (intOf y).toNat)
  case atStart => exact ⟨0, [], Nat.zero_le _, rfl, World.ownsRow_made _ _ 0 (Nat.le_refl _) (Nat.zero_le _) rfl, fun j hj => absurd hj (Nat.not_lt_zero _), (by repeat (first | assumption | exact Ext.refl _ | apply Ext.drewN | apply Ext.drew | apply Ext.alloc | (refine Ext.trans ?_ (by assumption)) | (refine Ext.set ?_ (by dsimp only; omega) _)))⟩
  case round =>
    obtain ⟨k, xs, hk, rfl, hown, hxs, hx⟩ := hrel
    have HX : Hid (∀ j, j < k → ∃ r, xs[j]? = some (.float .f32 r) ∧ Fl .f32 r ((fun k : Nat => fcr M L (k : Int) m) j)) := Lib.hid hxs
    have HO := Lib.hid hown
    clear hxs hown
    by_cases hlt : k < N
    · have hlt' : (k : Int) < (N : Int) := by omega
      go_wp2_with (fail)
      go_loopw [9, 10] (fun x z wq => ∃ (i r q : Nat), i ≤ m ∧ z = .int .i64 i ∧ x = .float .f32 r ∧ Fl .f32 r (fcr M L (k : Int) i) ∧ wq = wr.drewN q) (fun _ z _ => m - (intOf z).toNat)
      case atStart => exact ⟨0, 0, 0, Nat.zero_le _, rfl, rfl, fl_fz, rfl⟩
      case round =>
        obtain ⟨i, r, q, hi2, rfl, rfl, hr, rfl⟩ := hrel
        obtain ⟨d, hd⟩ : ∃ d, d = i + k := ⟨_, rfl⟩
        have hdI : (i : Int) + (k : Int) = (d : Int) := by omega
        have hwd : IntKind.i64.wrap (d : Int) = (d : Int) := IntWalk.i64_in _ (by omega)
        by_cases h1 : d < n
        · have h1' : (d : Int) < (n : Int) := by omega
          by_cases h2 : i < m
          · have h2' : (i : Int) < (m : Int) := by omega
            obtain ⟨b1, o1, t1, rfl, hb1, hc1, ht1⟩ := (h'.below (hx.mono hB')).cell h2
            obtain ⟨b2, o2, t2, rfl, hb2, hc2, ht2⟩ := (h.below (hx.mono hB)).cell h1
            have hT := fcr_in (P := M) (T := L) (k := i) (v := (k : Int)) hdI (by rw [hl.out]; exact h1)
            rw [mul_comm32] at hT
            have HT := Lib.hid hT
            clear hd hT
            go_wp2_with (fail)
            refine wp_region_loose 13 (by kernel_rfl) (by kernel_rfl) ?_
            simp only [List.take_succ_cons, List.take_zero, List.drop_succ_cons, List.drop_zero]
            refine la_start ?_
            refine la_fix _ (by rfl) (by intros; go_simp; rfl) ?_
            try simp only [Act.put, List.setIfInBounds_toArray, List.set_cons_zero, List.set_cons_succ]
            refine la_fix _ (by rfl) (by intros; go_simp; rfl) ?_
            try simp only [Act.put, List.setIfInBounds_toArray, List.set_cons_zero, List.set_cons_succ]
            refine la_fix _ (by rfl) (by intros; go_simp; rfl) ?_
            try simp only [Act.put, List.setIfInBounds_toArray, List.set_cons_zero, List.set_cons_succ]
            refine la_fix _ (by rfl) (by intros; go_simp; rfl) ?_
            try simp only [Act.put, List.setIfInBounds_toArray, List.set_cons_zero, List.set_cons_succ]
            refine la_fix _ (by rfl) (by intros; go_simp; rfl) ?_
            try simp only [Act.put, List.setIfInBounds_toArray, List.set_cons_zero, List.set_cons_succ]
            refine la_fix _ (by rfl) (by intros; go_simp; rfl) ?_
            try simp only [Act.put, List.setIfInBounds_toArray, List.set_cons_zero, List.set_cons_succ]
            refine la_fix _ (by rfl) (by intros; go_simp; rfl) ?_
            try simp only [Act.put, List.setIfInBounds_toArray, List.set_cons_zero, List.set_cons_succ]
            refine la_fix _ (by rfl) (by intros; go_simp; rfl) ?_
            try simp only [Act.put, List.setIfInBounds_toArray, List.set_cons_zero, List.set_cons_succ]
            refine la_fix _ (by rfl) (by intros; go_simp; rfl) ?_
            try simp only [Act.put, List.setIfInBounds_toArray, List.set_cons_zero, List.set_cons_succ]
            refine la_fix _ (by rfl) (by intros; go_simp; rfl) ?_
            try simp only [Act.put, List.setIfInBounds_toArray, List.set_cons_zero, List.set_cons_succ]
            refine la_fix _ (by rfl) (by intros; go_simp; rfl) ?_
            try simp only [Act.put, List.setIfInBounds_toArray, List.set_cons_zero, List.set_cons_succ]
            refine la_fop (op := .mul) (by rfl) (by rfl) (by intros; refine ⟨_, _, ?_, ?_, fun q => (by go_simp; rfl)⟩ <;> (first | assumption | exact fl_fu | exact fl_fz)) ?_
            try simp only [Act.put, List.setIfInBounds_toArray, List.set_cons_zero, List.set_cons_succ]
            refine la_fop (op := .add) (by rfl) (by rfl) (by intros; refine ⟨_, _, ?_, ?_, fun q => (by go_simp; rfl)⟩ <;> (first | assumption | exact fl_fu | exact fl_fz)) ?_
            try simp only [Act.put, List.setIfInBounds_toArray, List.set_cons_zero, List.set_cons_succ]
            refine la_end ?_
            intro r5 hr5 r6 hr6 q2
            rw [← HT.out] at hr6
            go_wp2_with (fail)
            exact ⟨⟨i + 1, r6, _, by omega, by go_num, rfl, hr6, by first | rfl | exact World.drewN_drewN _ _ _⟩, by simp [intOf]; omega⟩
          · obtain rfl : i = m := by omega
            have hown := HO.out
            clear hd
            go_wp2_with (at_builtin; refine wpList_append_own _ rfl _ _ 22 rfl w.heap.size 28 i0 (.float .f32 0) 1 4 Try.underlying22 hi hz0 hz1 hz2 rfl (by decide) _ _ _ rfl (World.ownsRow.alloc (w := wr.drewN q) hown _) ⟨wr.heap.size, 0, none⟩ 1 1 [.float .f32 r] rfl rfl ?_ ?_ ?_ ?_ ?_ ?_)
            all_goals first
              | exact one_new (w := wr.drewN q)
              | (intro j0 u hj0; have h0 := one_new (w := wr.drewN q) j0 u hj0; have e0 : (⟨(wr.drewN q).heap.size, 0, none⟩ : Addr).add j0 = ⟨wr.heap.size, j0, none⟩ := (by rw [show (wr.drewN q).heap.size = wr.heap.size from rfl]; simp [Addr.add]; first | done | (intros; omega)); rw [e0] at h0; exact h0)
              | rfl
              | (intro u hu; simp at hu; subst hu; rfl)
              | (unfold maxLen; omega)
              | omega
              | (have := hx.size; simp; omega)
              | (intro v' w4 hown' hgrow _
                 have hl' : xs.length = k := by have := hown.1; omega
                 have hx' : Ext w w4 := grown_ext (Ext.alloc (Ext.drewN hx _) _) (World.ownsRow.alloc (w := wr.drewN q) hown _) hgrow
                 have HXX := Lib.hid (row_step hl' HX.out hr)
                 clear hown hgrow hx
                 go_wp2_with (fail)
                 exact ⟨⟨k + 1, _, by omega, by go_num, hown', HXX.out, hx'⟩, by simp [intOf]; omega⟩)
        · have h1' : ¬ (d : Int) < (n : Int) := by omega
          have hr' : Fl .f32 r (fcr M L (k : Int) m) := by
            rw [fcr_stop hi2 fun j j1 _ => .inr (by rw [hl.out]; omega)]; exact hr
          have hown := HO.out
          clear hr hd
          go_wp2_with (at_builtin; refine wpList_append_own _ rfl _ _ 22 rfl w.heap.size 28 i0 (.float .f32 0) 1 4 Try.underlying22 hi hz0 hz1 hz2 rfl (by decide) _ _ _ rfl (World.ownsRow.alloc (w := wr.drewN q) hown _) ⟨wr.heap.size, 0, none⟩ 1 1 [.float .f32 r] rfl rfl ?_ ?_ ?_ ?_ ?_ ?_)
          all_goals first
            | exact one_new (w := wr.drewN q)
            | (intro j0 u hj0; have h0 := one_new (w := wr.drewN q) j0 u hj0; have e0 : (⟨(wr.drewN q).heap.size, 0, none⟩ : Addr).add j0 = ⟨wr.heap.size, j0, none⟩ := (by rw [show (wr.drewN q).heap.size = wr.heap.size from rfl]; simp [Addr.add]; first | done | (intros; omega)); rw [e0] at h0; exact h0)
            | rfl
            | (intro u hu; simp at hu; subst hu; rfl)
            | (unfold maxLen; omega)
            | omega
            | (have := hx.size; simp; omega)
            | (intro v' w4 hown' hgrow _
               have hl' : xs.length = k := by have := hown.1; omega
               have hx' : Ext w w4 := grown_ext (Ext.alloc (Ext.drewN hx _) _) (World.ownsRow.alloc (w := wr.drewN q) hown _) hgrow
               have HXX := Lib.hid (row_step hl' HX.out hr')
               clear hown hgrow hx
               go_wp2_with (fail)
               exact ⟨⟨k + 1, _, by omega, by go_num, hown', HXX.out, hx'⟩, by simp [intOf]; omega⟩)
    · obtain rfl : k = N := by omega
      have hown := HO.out
      go_wp2_with (fail)
      go_ret
      exact ⟨_, rfl, ⟨xs, hown, HX.out⟩, hx⟩
end Go.Proofs.Ytceldjkgddbfaab
