/- Contracts: shapes of traces, the reference. Condition: the list is read. -/
import Derived.Test.YtcjddnkebdjhoaaFe
import Derived.Test.YtcjddnkebdjhoaaLo3
namespace Go.Proofs.Ytcjddnkebdjhoaa
open Go.RowKit Ieee

theorem own_one {w : World} {base r : Nat} (hb : base ≤ w.heap.size) : (w.alloc (.cells #[.float .f32 r] 29)).ownsRow base 29 1 (.slice (some ⟨w.heap.size, 0, none⟩) 1 1) 1 [.float .f32 r] :=
  ⟨rfl, .inr ⟨w.heap.size, 1, #[.float .f32 r], rfl, hb, heap_alloc_new w _, Nat.le_refl _, by unfold maxLen; omega, rfl, rfl⟩⟩
theorem fdiff_0 {L : List (Option Nat)} {r : Nat} (h : Fl .f32 r (L.getD 0 none)) : fdiff L 0 = L.getD 0 none := by
  unfold fdiff; rw [fatI_out (.inl (by omega))]; exact sub_fz h
theorem fdiff_s {L : List (Option Nat)} {m : Nat} (h : m < L.length) : fdiff L (m + 1) = fop .sub .f32 (L.getD (m + 1) none) (L.getD m none) := by
  unfold fdiff; rw [fatI_in (d := m) (by omega) h]
set_option maxRecDepth 20000 in
set_option maxHeartbeats 4000000 in
theorem c_spec_DifferTrace {w : World} {B n c : Nat} {A : Option Addr} {L : List (Option Nat)} (h : RdF w B A n L) (hB : B ≤ w.heap.size) (hn : n ≤ 1048576) :
    Calls Try.prog 23 #[.slice A n c] w fun e w' => RetL w e w' (tlen n) (lst (fdiff L) n) := by
  cases hV : tlen n
  · go_enter Try.func23, Try.ntmps23
    go_wp2_with (go_at_call 37; refine Calls.mono (c_l03Is _ _ _ _) ?_; rw [hV]; rintro e w1 ⟨rfl, rfl⟩)
    go_ret2
    exact retL_no rfl (by repeat (first | assumption | exact Ext.refl _ | apply Ext.drewN | apply Ext.drew | apply Ext.alloc | (refine Ext.trans ?_ (by assumption)) | (refine Ext.set ?_ (by dsimp only; omega) _)))
  have hl := Lib.hid h.len
  have hpos : 0 < n := (tlen_of hV).1
  obtain ⟨i0, hi, hz0, hz1, hz2⟩ := info_parts info_f32
  obtain ⟨b0, o0, t0, rfl, hb0, hc0, ht0⟩ := h.cell hpos
  have hc00 : w.cell? ⟨b0, o0, none⟩ = some (.float .f32 t0) := by simpa using hc0
  have hposI : (0 : Int) < (n : Int) := by omega
  have hF0 := Lib.hid (fdiff_0 ht0)
  go_enter Try.func23, Try.ntmps23
  go_wp2_with (go_at_call 37; refine Calls.mono (c_l03Is _ _ _ _) ?_; rw [hV]; rintro e w1 ⟨rfl, rfl⟩)
  go_loopw [4, 5] (fun v y wr => 1 ≤ (intOf y) ∧ ∃ (k : Nat) (xs : List Value), k ≤ n ∧ y = .int .i64 k ∧ wr.ownsRow w.heap.size 29 1 v k xs ∧ (∀ j, j < k → ∃ r, xs[j]? = some (.float .f32 r) ∧ Fl .f32 r ((fdiff L) j)) ∧ Ext w wr) (fun _ y _ => n - (intOf y).toNat)
  case atStart => exact ⟨by simp [intOf], 1, [.float .f32 t0], hpos, rfl, own_one (Nat.le_refl _), fun j hj => ⟨t0, by (obtain rfl : j = 0 := by omega); rfl, by (obtain rfl : j = 0 := by omega); rw [hF0.out]; exact ht0⟩, (by repeat (first | assumption | exact Ext.refl _ | apply Ext.drewN | apply Ext.drew | apply Ext.alloc | (refine Ext.trans ?_ (by assumption)) | (refine Ext.set ?_ (by dsimp only; omega) _)))⟩
  case round =>
    obtain ⟨hy1, k, xs, hk, rfl, hown, hxs, hx⟩ := hrel
    have hk1 : 1 ≤ k := by simp [intOf] at hy1; omega
    clear hy1
    have HX : Hid (∀ j, j < k → ∃ r, xs[j]? = some (.float .f32 r) ∧ Fl .f32 r (fdiff L j)) := Lib.hid hxs
    clear hxs
    by_cases hlt : k < n
    · have hlt' : (k : Int) < (n : Int) := by omega
      obtain ⟨m, hm⟩ : ∃ m, k = m + 1 := ⟨k - 1, by omega⟩
      obtain ⟨b1, o1, t1, hA1, hb1, hc1, ht1⟩ := (h.below (hx.mono hB)).cell hlt
      obtain ⟨b2, o2, t2, hA2, hb2, hc2, ht2⟩ := (h.below (hx.mono hB)).cell (show m < n by omega)
      obtain ⟨rfl, rfl⟩ : b0 = b1 ∧ o0 = o1 := by simpa using hA1
      obtain ⟨rfl, rfl⟩ : b0 = b2 ∧ o0 = o2 := by simpa using hA2
      have hT : fdiff L k = fop .sub .f32 (L.getD k none) (L.getD m none) := by rw [hm]; exact fdiff_s (by rw [hl.out]; omega)
      have HT := Lib.hid hT
      have hmi : (k : Int) - 1 = (m : Int) := by omega
      have hmn : (m : Int) < (n : Int) := by omega
      have hwm : IntKind.i64.wrap (m : Int) = (m : Int) := IntWalk.i64_in _ (by omega)
      have HM := Lib.hid hm
      clear hT hm
      go_wp2_with (fail)
      refine wp_region_loose1 (v := ?v0) 10 (by kernel_rfl) (by kernel_rfl) (fun _ _ _ h => h) (Or.inl ⟨by rfl, ?hy0⟩) ?rest0
      case hy0 => intro w; go_simp; first | done | with_reducible rfl
      try simp only [Act.put, List.setIfInBounds_toArray, List.set_cons_zero, List.set_cons_succ]
      simp only [List.take_succ_cons, List.take_zero, List.drop_succ_cons, List.drop_zero]
      refine la_start ?_
      refine la_fix _ (by rfl) (by intros; go_simp; rfl) ?_
      try simp only [Act.put, List.setIfInBounds_toArray, List.set_cons_zero, List.set_cons_succ]
      refine la_fix _ (by rfl) (by intros; go_simp; rfl) ?_
      try simp only [Act.put, List.setIfInBounds_toArray, List.set_cons_zero, List.set_cons_succ]
      refine la_fix _ (by rfl) (by intros; go_simp; rfl) ?_
      try simp only [Act.put, List.setIfInBounds_toArray, List.set_cons_zero, List.set_cons_succ]
      refine la_fix _ (by rfl) (by intros; go_simp; rfl) ?_
      try simp only [Act.put, List.setIfInBounds_toArray, List.set_cons_zero, List.set_cons_succ]
      refine la_fix _ (by rfl) (by intros; go_simp; rfl) ?_
      try simp only [Act.put, List.setIfInBounds_toArray, List.set_cons_zero, List.set_cons_succ]
      refine la_fix _ (by rfl) (by intros; go_simp; rfl) ?_
      try simp only [Act.put, List.setIfInBounds_toArray, List.set_cons_zero, List.set_cons_succ]
      refine la_fix _ (by rfl) (by intros; go_simp; rfl) ?_
      try simp only [Act.put, List.setIfInBounds_toArray, List.set_cons_zero, List.set_cons_succ]
      refine la_fix _ (by rfl) (by intros; go_simp; rfl) ?_
      try simp only [Act.put, List.setIfInBounds_toArray, List.set_cons_zero, List.set_cons_succ]
      refine la_fix _ (by rfl) (by intros; go_simp; rfl) ?_
      try simp only [Act.put, List.setIfInBounds_toArray, List.set_cons_zero, List.set_cons_succ]
      refine la_fop (op := .sub) (by rfl) (by rfl) (by intros; refine ⟨_, _, ?_, ?_, fun q => (by go_simp; rfl)⟩ <;> (first | assumption | exact fl_fu | exact fl_fz)) ?_
      try simp only [Act.put, List.setIfInBounds_toArray, List.set_cons_zero, List.set_cons_succ]
      refine la_end ?_
      intro r5 hr5 q
      rw [← HT.out] at hr5
      go_wp2_with (at_builtin; refine wpList_append_own _ rfl _ _ 22 rfl w.heap.size 29 i0 (.float .f32 0) 1 4 Try.underlying22 hi hz0 hz1 hz2 rfl (by decide) _ _ _ rfl (World.ownsRow.alloc (w := wr.drewN q) hown _) ⟨wr.heap.size, 0, none⟩ 1 1 [.float .f32 r5] rfl rfl ?_ ?_ ?_ ?_ ?_ ?_)
      all_goals first
        | exact one_new (w := wr.drewN q)
        | (intro j0 u hj0; have h0 := one_new (w := wr.drewN q) j0 u hj0; have e0 : (⟨(wr.drewN q).heap.size, 0, none⟩ : Addr).add j0 = ⟨wr.heap.size, j0, none⟩ := (by rw [show (wr.drewN q).heap.size = wr.heap.size from rfl]; simp [Addr.add]; first | done | (intros; omega)); rw [e0] at h0; exact h0)
        | rfl
        | (intro u hu; simp at hu; subst hu; rfl)
        | (unfold maxLen; omega)
        | omega
        | (have := hx.size; simp; omega)
        | (intro v' w4 hown' hgrow _
           have hl' : xs.length = k := by have := hown.1; omega
           have hx' : Ext w w4 := grown_ext (Ext.alloc (Ext.drewN hx _) _) (World.ownsRow.alloc (w := wr.drewN q) hown _) hgrow
           have HXX := Lib.hid (row_step hl' HX.out hr5)
           clear hown hgrow hx
           go_wp2_with (fail)
           exact ⟨⟨by simp [intOf]; omega, k + 1, _, by omega, by go_num, hown', HXX.out, hx'⟩, by simp [intOf]; omega⟩)
    · obtain rfl : k = n := by omega
      have ho4 : OwF wr w.heap.size _ k (fdiff L) := ⟨xs, hown, HX.out⟩
      obtain ⟨A4, c4, rfl, ho5⟩ := ho4.owl
      go_wp2_with (fail)
      go_ret2
      exact ⟨_, _, _, rfl, ho5, hx⟩
theorem both_DifferTrace {n0 : Nat} {L0 : List (Option Nat)} (_hl0 : L0.length = n0) (hn0 : n0 ≤ 1048576) :
    ∃ ok Q q, q ≤ 1048576 ∧ (∀ W : World, ∀ (B0 : Nat) (A0 : Option Addr) (c0 : Nat), RdF W B0 A0 n0 L0 → B0 ≤ W.heap.size → Calls Try.prog 23 #[.slice A0 n0 c0] W fun e w' => RetQ W e w' ok q Q) ∧
      (∀ W : World, ∀ (B0 : Nat) (A0 : Option Addr) (c0 : Nat), RdF W B0 A0 n0 L0 → B0 ≤ W.heap.size → Calls Try.prog 24 #[.slice A0 n0 c0] W fun e w' => RetQ W e w' ok q Q) :=
  ⟨tlen n0, outL (tlen n0) (lst (fdiff L0) n0), (outL (tlen n0) (lst (fdiff L0) n0)).length, Nat.le_trans (outL_len _ _) (by rw [lst_len]; omega),
    fun W _ _ _ h0 hB0 => Calls.mono (c_spec_DifferTrace (w := W) h0 hB0 hn0) (fun _ _ hr => hr.q), fun W _ _ _ h0 hB0 => Calls.mono (c_impl_DifferTrace (w := W) h0 hB0 hn0) (fun _ _ hr => hr.q)⟩

theorem fintg_s {L : List (Option Nat)} {k : Nat} (h : k < L.length) : fintg L k = fop .add .f32 (fsum .f32 (L.take k)) (L.getD k none) := by unfold fintg; exact fsum_succ .f32 L k h
set_option maxRecDepth 20000 in
set_option maxHeartbeats 4000000 in
theorem c_spec_IntegrateTrace {w : World} {B n c : Nat} {A : Option Addr} {L : List (Option Nat)} (h : RdF w B A n L) (hB : B ≤ w.heap.size) (hn : n ≤ 1048576) (_hcap : n ≤ c) :
    Calls Try.prog 25 #[.slice A n c] w fun e w' => RetL w e w' (tlen n) (lst (fintg L) n) := by
  cases hV : tlen n
  · go_enter Try.func25, Try.ntmps25
    go_wp2_with (go_at_call 37; refine Calls.mono (c_l03Is _ _ _ _) ?_; rw [hV]; rintro e w1 ⟨rfl, rfl⟩)
    go_ret2
    exact retL_no rfl (by repeat (first | assumption | exact Ext.refl _ | apply Ext.drewN | apply Ext.drew | apply Ext.alloc | (refine Ext.trans ?_ (by assumption)) | (refine Ext.set ?_ (by dsimp only; omega) _)))
  have hl := Lib.hid h.len
  obtain ⟨i0, hi, hz0, hz1, hz2⟩ := info_parts info_f32
  go_enter Try.func25, Try.ntmps25
  go_wp2_with (go_at_call 37; refine Calls.mono (c_l03Is _ _ _ _) ?_; rw [hV]; rintro e w1 ⟨rfl, rfl⟩)
  go_loopw [4, 5, 13] (fun v s y wr => ∃ (k z : Nat) (xs : List Value), k ≤ n ∧ y = .int .i64 k ∧ s = .float .f32 z ∧ Fl .f32 z (fsum .f32 (L.take k)) ∧ wr.ownsRow w.heap.size 29 1 v k xs ∧ (∀ j, j < k → ∃ r, xs[j]? = some (.float .f32 r) ∧ Fl .f32 r (fintg L j)) ∧ Ext w wr) (fun _ _ y _ => n - (intOf y).toNat)
  case atStart => exact ⟨0, 0, [], Nat.zero_le _, rfl, rfl, ⟨fl32_zero, by decide⟩, World.ownsRow_made _ _ 0 (Nat.le_refl _) (Nat.zero_le _) rfl, fun j hj => absurd hj (Nat.not_lt_zero _), (by repeat (first | assumption | exact Ext.refl _ | apply Ext.drewN | apply Ext.drew | apply Ext.alloc | (refine Ext.trans ?_ (by assumption)) | (refine Ext.set ?_ (by dsimp only; omega) _)))⟩
  case round =>
    obtain ⟨k, z, xs, hk, rfl, rfl, hz, hown, hxs, hx⟩ := hrel
    have HX : Hid (∀ j, j < k → ∃ r, xs[j]? = some (.float .f32 r) ∧ Fl .f32 r (fintg L j)) := Lib.hid hxs
    clear hxs
    by_cases hlt : k < n
    · have hlt' : (k : Int) < (n : Int) := by omega
      obtain ⟨b1, o1, t1, rfl, hb1, hc1, ht1⟩ := (h.below (hx.mono hB)).cell hlt
      have HT := Lib.hid (fintg_s (show k < L.length by rw [hl.out]; exact hlt))
      have HU : Hid (fintg L k = fsum .f32 (L.take (k + 1))) := Lib.hid rfl
      go_wp2_with (first | (apply upon_fop rfl; (exact hz); (exact ht1); intro r5 n5 hr5; rw [← HT.out] at hr5) | (at_builtin; refine wpList_append_own _ rfl _ _ 22 rfl w.heap.size 29 i0 (.float .f32 0) 1 4 Try.underlying22 hi hz0 hz1 hz2 rfl (by decide) _ _ _ rfl (World.ownsRow.alloc (w := wr.drewN _) hown _) ⟨wr.heap.size, 0, none⟩ 1 1 [.float .f32 r5] rfl rfl ?_ ?_ ?_ ?_ ?_ ?_))
      all_goals first
        | exact one_new (w := wr.drewN _)
        | (intro j0 u hj0; have h0 := one_new (w := wr.drewN _) j0 u hj0; have e0 : (⟨(wr.drewN _).heap.size, 0, none⟩ : Addr).add j0 = ⟨wr.heap.size, j0, none⟩ := (by rw [show (wr.drewN _).heap.size = wr.heap.size from rfl]; simp [Addr.add]; first | done | (intros; omega)); rw [e0] at h0; exact h0)
        | rfl
        | (intro u hu; simp at hu; subst hu; rfl)
        | (unfold maxLen; omega)
        | omega
        | (have := hx.size; simp; omega)
        | (intro v' w4 hown' hgrow _
           have hl' : xs.length = k := by have := hown.1; omega
           have hx' : Ext w w4 := grown_ext (Ext.alloc (Ext.drewN hx _) _) (World.ownsRow.alloc (w := wr.drewN _) hown _) hgrow
           have HXX := Lib.hid (row_step hl' HX.out hr5)
           clear hown hgrow hx
           rw [HU.out] at hr5
           go_wp2_with (fail)
           exact ⟨⟨k + 1, r5, _, by omega, by go_num, rfl, hr5, hown', HXX.out, hx'⟩, by simp [intOf]; omega⟩)
    · obtain rfl : k = n := by omega
      have ho4 : OwF wr w.heap.size _ k (fintg L) := ⟨xs, hown, HX.out⟩
      obtain ⟨A4, c4, rfl, ho5⟩ := ho4.owl
      go_wp2_with (fail)
      go_ret2
      exact ⟨_, _, _, rfl, ho5, hx⟩
theorem both_IntegrateTrace {n0 : Nat} {L0 : List (Option Nat)} (_hl0 : L0.length = n0) (hn0 : n0 ≤ 1048576) :
    ∃ ok Q q, q ≤ 1048576 ∧ (∀ W : World, ∀ (B0 : Nat) (A0 : Option Addr) (c0 : Nat), RdF W B0 A0 n0 L0 → B0 ≤ W.heap.size → n0 ≤ c0 → Calls Try.prog 25 #[.slice A0 n0 c0] W fun e w' => RetQ W e w' ok q Q) ∧
      (∀ W : World, ∀ (B0 : Nat) (A0 : Option Addr) (c0 : Nat), RdF W B0 A0 n0 L0 → B0 ≤ W.heap.size → n0 ≤ c0 → Calls Try.prog 26 #[.slice A0 n0 c0] W fun e w' => RetQ W e w' ok q Q) :=
  ⟨tlen n0, outL (tlen n0) (lst (fintg L0) n0), (outL (tlen n0) (lst (fintg L0) n0)).length, Nat.le_trans (outL_len _ _) (by rw [lst_len]; omega),
    fun W _ _ _ h0 hB0 hc0 => Calls.mono (c_spec_IntegrateTrace (w := W) h0 hB0 hn0 hc0) (fun _ _ hr => hr.q), fun W _ _ _ h0 hB0 hc0 => Calls.mono (c_impl_IntegrateTrace (w := W) h0 hB0 hn0 hc0) (fun _ _ hr => hr.q)⟩

end Go.Proofs.Ytcjddnkebdjhoaa
