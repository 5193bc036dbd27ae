/- Contracts: inverses of filters, the program. Condition: the list is read. -/
import Derived.Test.YtcjddnkebdjhoabKd
import Derived.Test.YtcjddnkebdjhoabWn
namespace Go.Proofs.Ytcjddnkebdjhoab
open Go.RowKit Ieee

set_option maxRecDepth 20000 in
set_option maxHeartbeats 8000000 in
theorem c_impl_InverseOf {w : World} {B n c : Nat} {A : Option Addr} {L : List (Option Nat)} (h : RdF w B A n L) (hB : B ≤ w.heap.size) (hn : n ≤ 1048576) (hcap : n ≤ c) {i : Int} (_hi : -9223372036854775808 ≤ i) (_hj : i ≤ 9223372036854775807) :
    Calls Try.prog 37 #[.slice A n c, .int .i64 i] w fun e w' => RetL w e w' (okIv n (L.getD 0 none) i) (lst (glF (finv L (ftail L (n - 1)) (n - 1))) i.toNat) := by
  unfold okIv
  cases hV : tlen n
  · go_enter Try.func37, Try.ntmps37
    go_wp2_with (go_at_call 45; refine Calls.mono (c_IsTrace _ _ _ _) ?_; rw [hV]; rintro e w1 ⟨rfl, rfl⟩)
    go_ret2
    exact retL_no rfl (by repeat (first | assumption | exact Ext.refl _ | apply Ext.drewN | apply Ext.drew | apply Ext.alloc | (refine Ext.trans ?_ (by assumption)) | (refine Ext.set ?_ (by dsimp only; omega) _)))
  rw [Bool.true_and]
  have hpos : 0 < n := (tlen_of hV).1
  have hposI : (0 : Int) < (n : Int) := by omega
  obtain ⟨b0, o0, t0, rfl, hb0, hc0, ht0⟩ := h.cell hpos
  have hc00 : w.cell? ⟨b0, o0, none⟩ = some (.float .f32 t0) := by simpa using hc0
  have hz := zero32 t0
  rw [ht0.eq] at hz
  cases hZ : fzero32 (L.getD 0 none)
  case true =>
    rw [hZ] at hz
    go_enter Try.func37, Try.ntmps37
    go_wp2_with (go_at_call 45; refine Calls.mono (c_IsTrace _ _ _ _) ?_; rw [hV]; rintro e w1 ⟨rfl, rfl⟩)
    go_ret2
    exact retL_no rfl (by repeat (first | assumption | exact Ext.refl _ | apply Ext.drewN | apply Ext.drew | apply Ext.alloc | (refine Ext.trans ?_ (by assumption)) | (refine Ext.set ?_ (by dsimp only; omega) _)))
  rw [hZ] at hz
  cases hI : inB i 1 128
  · go_enter Try.func37, Try.ntmps37
    go_wp2_with (first | (go_at_call 45; refine Calls.mono (c_IsTrace _ _ _ _) ?_; rw [hV]; rintro e w1 ⟨rfl, rfl⟩) | (go_at_call 67; refine Calls.mono (c_isTraceLength _ _) ?_; rw [hI]; rintro e w1 ⟨rfl, rfl⟩))
    go_ret2
    exact retL_no rfl (by repeat (first | assumption | exact Ext.refl _ | apply Ext.drewN | apply Ext.drew | apply Ext.alloc | (refine Ext.trans ?_ (by assumption)) | (refine Ext.set ?_ (by dsimp only; omega) _)))
  obtain ⟨p1, p2⟩ := inB_of hI
  obtain ⟨N, rfl⟩ : ∃ N : Nat, i = (N : Int) := ⟨i.toNat, by omega⟩
  rw [Int.toNat_natCast]
  have hN : 1 ≤ N := by omega
  have hN8 : N ≤ 128 := by omega
  obtain ⟨N1, hN1⟩ : ∃ N1, N = N1 + 1 := ⟨N - 1, by omega⟩
  have hNI : (N : Int) - 1 = (N1 : Int) := by omega
  obtain ⟨m, hm⟩ : ∃ m, n = m + 1 := ⟨n - 1, by omega⟩
  have hmn : n - 1 = m := by omega
  have hmnI : (n : Int) - 1 = (m : Int) := by omega
  rw [hmn]
  obtain ⟨T, hT⟩ : ∃ T, ftail L m = T := ⟨_, rfl⟩
  rw [hT]
  -- the part behind the first number, wherever it lies
  have hsub : ∃ A1 c1, (∀ W : World, Ext w W → RdF W B A1 m T) ∧ (c = 1 ∧ m = 0 ∧ A1 = some ⟨b0, o0, none⟩ ∧ c1 = 0 ∨ 1 < c ∧ A1 = some ⟨b0, o0 + 1, none⟩ ∧ c1 = c - 1) := by
    have hRm : ∀ W : World, Ext w W → RdF W B (some ⟨b0, o0 + 1, none⟩) m T := fun W hW => by
      have := (h.below (hW.mono hB)).sub (lo := 1) (d := m) (by omega)
      rw [show lst (fun j => L.getD (1 + j) none) m = T from hT] at this
      exact this
    by_cases h1 : c = 1
    · have hm0 : m = 0 := by omega
      refine ⟨_, _, fun W hW => ?_, .inl ⟨h1, hm0, rfl, rfl⟩⟩
      have := (hRm W hW).len
      subst hm0
      exact ⟨this, fun k hk => absurd hk (Nat.not_lt_zero _)⟩
    · exact ⟨_, _, hRm, .inr ⟨by omega, rfl, rfl⟩⟩
  obtain ⟨A1, c1, hRT, hcases⟩ := hsub
  have HRT := Lib.hid hRT
  have HM := Lib.hid hm
  have HN1 := Lib.hid hN1
  have HCA := Lib.hid hcases
  clear hcases
  clear hm hT hc0 p1 p2 hRT hN1
  have hw1 : IntKind.i64.wrap (N1 : Int) = (N1 : Int) := IntWalk.i64_in _ (by omega)
  obtain ⟨i0, hi, hz0, hz1, hz2⟩ := info_parts info_f32
  go_enter Try.func37, Try.ntmps37
  go_wp2_with (first | (go_at_call 45; refine Calls.mono (c_IsTrace _ _ _ _) ?_; rw [hV]; rintro e w1 ⟨rfl, rfl⟩) | (go_at_call 67; refine Calls.mono (c_isTraceLength _ _) ?_; rw [hI]; rintro e w1 ⟨rfl, rfl⟩) | (apply upon_fop rfl; (exact fl_fu); (exact ht0); intro r1 n1 hr1))
  have HR1 : Hid (Fl .f32 r1 (glF (finv L T m) 0)) := Lib.hid (by rw [glF_0]; exact hr1)
  clear hr1
  go_loopw [6, 29] (fun v y wr => ∃ (k : Nat) (xs : List Value), k ≤ N1 ∧ y = .int .i64 k ∧ wr.ownsRow w.heap.size 34 1 v (k + 1) xs ∧ (∀ j, j < k + 1 → ∃ r, xs[j]? = some (.float .f32 r) ∧ Fl .f32 r (glF (finv L T m) j)) ∧ Ext w wr) (fun _ y _ => N1 - (intOf y).toNat)
  case atStart => exact ⟨0, [.float .f32 r1], Nat.zero_le _, rfl, own_one' (by simp), fun j hj => ⟨r1, by (obtain rfl : j = 0 := by omega); rfl, by (obtain rfl : j = 0 := by omega); exact HR1.out⟩, (by repeat (first | assumption | exact Ext.refl _ | apply Ext.drewN | apply Ext.drew | apply Ext.alloc | (refine Ext.trans ?_ (by assumption)) | (refine Ext.set ?_ (by dsimp only; omega) _)))⟩
  case round =>
    obtain ⟨k0, xs, hk, rfl, hown, hxs, hx⟩ := hrel
    obtain ⟨k, hkk⟩ : ∃ k, k = k0 + 1 := ⟨_, rfl⟩
    rw [← hkk] at hown hxs
    have hk9 : k ≤ N := by have := HN1.out; omega
    have hk1 : 1 ≤ k := by omega
    have HX : Hid (∀ j, j < k → ∃ r, xs[j]? = some (.float .f32 r) ∧ Fl .f32 r (glF (finv L T m) j)) := Lib.hid hxs
    clear hxs
    have ho4 : OwF wr w.heap.size _ k (glF (finv L T m)) := ⟨xs, hown, HX.out⟩
    obtain ⟨A4, c4, rfl, ho5⟩ := ho4.owl
    by_cases hlt : k0 < N1
    · have hlt' : (k0 : Int) < (N1 : Int) := by omega
      rw [gl_lst] at ho5
      obtain ⟨X, hX⟩ : ∃ X, gl (finv L T m) k = X := ⟨_, rfl⟩
      have hGF := glF_s (L := L) (T := T) (m := m) hk1
      rw [hX, show (k : Int) - 1 = (k0 : Int) by omega] at hGF
      rw [hX] at ho5
      have HGF := Lib.hid hGF
      have HKK := Lib.hid hkk
      have hRX := ho5.rd
      have hF := fun W (hW : Dr wr W) => c_foldAtH (w := W) (k := (k0 : Int)) (c := c1) (c' := c4) (HRT.out W (Ext.dr hx hW)) (by omega) (hRX.below (Dr.below hW)) (by omega) (by omega) (by omega)
      have HF := Lib.hid hF
      have hcw : wr.cell? ⟨b0, o0, none⟩ = some (.float .f32 t0) := (hx.cell (p := ⟨b0, o0, none⟩) (by show b0 < _; omega)).trans hc00
      have hcI : (1 : Int) ≤ (n : Int) := by omega
      have hnI : (n : Int) ≤ (c : Int) := by omega
      have hn1 : 1 ≤ n := by omega
      clear ho4 ho5 hX hGF hF hkk
      rcases HCA.out with ⟨q1, q2, rfl, rfl⟩ | ⟨q1, rfl, rfl⟩
      · subst q1
        have hn11 : n = 1 := by omega
        subst hn11
        subst q2
        go_wp2_with (fail)
        refine wp_region_loose1 (v := ?v0_1) 10 (by kernel_rfl) (by kernel_rfl) (fun _ _ _ h => h) (Or.inl ⟨by rfl, ?hy0_1⟩) ?rest0_1
        case hy0_1 => intro w; go_simp; first | done | with_reducible rfl
        try simp only [Act.put, List.setIfInBounds_toArray, List.set_cons_zero, List.set_cons_succ]
        simp only [List.take_succ_cons, List.take_zero, List.drop_succ_cons, List.drop_zero]
        refine la_start ?_
        refine la_fix _ (by rfl) (by intros; go_simp; rfl) ?_
        try simp only [Act.put, List.setIfInBounds_toArray, List.set_cons_zero, List.set_cons_succ]
        refine la_fix _ (by rfl) (by intros; go_simp; rfl) ?_
        try simp only [Act.put, List.setIfInBounds_toArray, List.set_cons_zero, List.set_cons_succ]
        refine la_fix _ (by rfl) (by intros; go_simp; rfl) ?_
        try simp only [Act.put, List.setIfInBounds_toArray, List.set_cons_zero, List.set_cons_succ]
        refine la_fix _ (by rfl) (by intros; go_simp; rfl) ?_
        try simp only [Act.put, List.setIfInBounds_toArray, List.set_cons_zero, List.set_cons_succ]
        refine la_callF (k := .f32) (by rfl) (by intros; refine ⟨_, fun q => (by go_simp; first | rfl | exact ⟨rfl, rfl⟩), fun q => ?_⟩; exact HF.out _ ⟨_, rfl⟩) ?_
        try simp only [Act.put, List.setIfInBounds_toArray, List.set_cons_zero, List.set_cons_succ]
        refine la_neg (by rfl) (by intros; refine ⟨_, ?_, fun q => (by go_simp; rfl)⟩; assumption) ?_
        try simp only [Act.put, List.setIfInBounds_toArray, List.set_cons_zero, List.set_cons_succ]
        refine la_fix _ (by rfl) (by intros; go_simp; rfl) ?_
        try simp only [Act.put, List.setIfInBounds_toArray, List.set_cons_zero, List.set_cons_succ]
        refine la_fix _ (by rfl) (by intros; go_simp; rfl) ?_
        try simp only [Act.put, List.setIfInBounds_toArray, List.set_cons_zero, List.set_cons_succ]
        refine la_fix _ (by rfl) (by intros; go_simp; rfl) ?_
        try simp only [Act.put, List.setIfInBounds_toArray, List.set_cons_zero, List.set_cons_succ]
        refine la_fop (op := .quo) (by rfl) (by rfl) (by intros; refine ⟨_, _, ?_, ?_, fun q => (by go_simp; rfl)⟩ <;> (first | assumption | exact fl_fu | exact fl_fz)) ?_
        try simp only [Act.put, List.setIfInBounds_toArray, List.set_cons_zero, List.set_cons_succ]
        refine la_end ?_
        intro r4 hr4 r5 hr5 r6 hr6 q
        rw [← HGF.out] at hr6
        go_wp2_with (at_builtin; refine wpList_append_own _ rfl _ _ 22 rfl w.heap.size 34 i0 (.float .f32 0) 1 4 Try.underlying22 hi hz0 hz1 hz2 rfl (by decide) _ _ _ rfl (World.ownsRow.alloc (w := wr.drewN q) hown _) ⟨wr.heap.size, 0, none⟩ 1 1 [.float .f32 r6] rfl rfl ?_ ?_ ?_ ?_ ?_ ?_)
        all_goals first
          | exact one_new (w := wr.drewN q)
          | (intro j0 u hj0; have h0 := one_new (w := wr.drewN q) j0 u hj0; have e0 : (⟨(wr.drewN q).heap.size, 0, none⟩ : Addr).add j0 = ⟨wr.heap.size, j0, none⟩ := (by rw [show (wr.drewN q).heap.size = wr.heap.size from rfl]; simp [Addr.add]; first | done | (intros; omega)); rw [e0] at h0; exact h0)
          | rfl
          | (intro u hu; simp at hu; subst hu; rfl)
          | (unfold maxLen; omega)
          | omega
          | (have := hx.size; simp; omega)
          | (intro v' w4 hown' hgrow _
             have hl' : xs.length = k := by have := hown.1; omega
             have hx' : Ext w w4 := grown_ext (Ext.alloc (Ext.drewN hx _) _) (World.ownsRow.alloc (w := wr.drewN q) hown _) hgrow
             have HXX := Lib.hid (row_step hl' HX.out hr6)
             clear hown hgrow hx
             go_wp2_with (fail)
             exact ⟨⟨k0 + 1, xs ++ [.float .f32 r6], by omega, by go_num, by rw [← HKK.out]; exact hown', by rw [← HKK.out]; exact HXX.out, hx'⟩, by simp [intOf]; omega⟩)
      · have q2 : ¬ 1 = c := by omega
        have q3 : ¬ c = 1 := by omega
        go_wp2_with (fail)
        refine wp_region_loose1 (v := ?v0_2) 10 (by kernel_rfl) (by kernel_rfl) (fun _ _ _ h => h) (Or.inl ⟨by rfl, ?hy0_2⟩) ?rest0_2
        case hy0_2 => intro w; go_simp; first | done | with_reducible rfl
        try simp only [Act.put, List.setIfInBounds_toArray, List.set_cons_zero, List.set_cons_succ]
        simp only [List.take_succ_cons, List.take_zero, List.drop_succ_cons, List.drop_zero]
        refine la_start ?_
        refine la_fix _ (by rfl) (by intros; go_simp; rfl) ?_
        try simp only [Act.put, List.setIfInBounds_toArray, List.set_cons_zero, List.set_cons_succ]
        refine la_fix _ (by rfl) (by intros; go_simp; rfl) ?_
        try simp only [Act.put, List.setIfInBounds_toArray, List.set_cons_zero, List.set_cons_succ]
        refine la_fix _ (by rfl) (by intros; go_simp; rfl) ?_
        try simp only [Act.put, List.setIfInBounds_toArray, List.set_cons_zero, List.set_cons_succ]
        refine la_fix _ (by rfl) (by intros; go_simp; rfl) ?_
        try simp only [Act.put, List.setIfInBounds_toArray, List.set_cons_zero, List.set_cons_succ]
        refine la_callF (k := .f32) (by rfl) (by intros; refine ⟨_, fun q => (by go_simp; first | rfl | exact ⟨rfl, rfl⟩), fun q => ?_⟩; exact HF.out _ ⟨_, rfl⟩) ?_
        try simp only [Act.put, List.setIfInBounds_toArray, List.set_cons_zero, List.set_cons_succ]
        refine la_neg (by rfl) (by intros; refine ⟨_, ?_, fun q => (by go_simp; rfl)⟩; assumption) ?_
        try simp only [Act.put, List.setIfInBounds_toArray, List.set_cons_zero, List.set_cons_succ]
        refine la_fix _ (by rfl) (by intros; go_simp; rfl) ?_
        try simp only [Act.put, List.setIfInBounds_toArray, List.set_cons_zero, List.set_cons_succ]
        refine la_fix _ (by rfl) (by intros; go_simp; rfl) ?_
        try simp only [Act.put, List.setIfInBounds_toArray, List.set_cons_zero, List.set_cons_succ]
        refine la_fix _ (by rfl) (by intros; go_simp; rfl) ?_
        try simp only [Act.put, List.setIfInBounds_toArray, List.set_cons_zero, List.set_cons_succ]
        refine la_fop (op := .quo) (by rfl) (by rfl) (by intros; refine ⟨_, _, ?_, ?_, fun q => (by go_simp; rfl)⟩ <;> (first | assumption | exact fl_fu | exact fl_fz)) ?_
        try simp only [Act.put, List.setIfInBounds_toArray, List.set_cons_zero, List.set_cons_succ]
        refine la_end ?_
        intro r4 hr4 r5 hr5 r6 hr6 q
        rw [← HGF.out] at hr6
        go_wp2_with (at_builtin; refine wpList_append_own _ rfl _ _ 22 rfl w.heap.size 34 i0 (.float .f32 0) 1 4 Try.underlying22 hi hz0 hz1 hz2 rfl (by decide) _ _ _ rfl (World.ownsRow.alloc (w := wr.drewN q) hown _) ⟨wr.heap.size, 0, none⟩ 1 1 [.float .f32 r6] rfl rfl ?_ ?_ ?_ ?_ ?_ ?_)
        all_goals first
          | exact one_new (w := wr.drewN q)
          | (intro j0 u hj0; have h0 := one_new (w := wr.drewN q) j0 u hj0; have e0 : (⟨(wr.drewN q).heap.size, 0, none⟩ : Addr).add j0 = ⟨wr.heap.size, j0, none⟩ := (by rw [show (wr.drewN q).heap.size = wr.heap.size from rfl]; simp [Addr.add]; first | done | (intros; omega)); rw [e0] at h0; exact h0)
          | rfl
          | (intro u hu; simp at hu; subst hu; rfl)
          | (unfold maxLen; omega)
          | omega
          | (have := hx.size; simp; omega)
          | (intro v' w4 hown' hgrow _
             have hl' : xs.length = k := by have := hown.1; omega
             have hx' : Ext w w4 := grown_ext (Ext.alloc (Ext.drewN hx _) _) (World.ownsRow.alloc (w := wr.drewN q) hown _) hgrow
             have HXX := Lib.hid (row_step hl' HX.out hr6)
             clear hown hgrow hx
             go_wp2_with (fail)
             exact ⟨⟨k0 + 1, xs ++ [.float .f32 r6], by omega, by go_num, by rw [← HKK.out]; exact hown', by rw [← HKK.out]; exact HXX.out, hx'⟩, by simp [intOf]; omega⟩)
    · obtain rfl : k0 = N1 := by omega
      have hkN : k = N := by have := HN1.out; omega
      subst hkN
      go_wp2_with (fail)
      go_ret2
      exact ⟨_, _, _, rfl, ho5, hx⟩
theorem both_InverseOf {n0 : Nat} {L0 : List (Option Nat)} (_hl0 : L0.length = n0) (hn0 : n0 ≤ 1048576) {i1 : Int} (hi1 : -9223372036854775808 ≤ i1) (hj1 : i1 ≤ 9223372036854775807) :
    ∃ ok Q q, q ≤ 1048576 ∧ (∀ W : World, ∀ (B0 : Nat) (A0 : Option Addr) (c0 : Nat), RdF W B0 A0 n0 L0 → B0 ≤ W.heap.size → n0 ≤ c0 → Calls Try.prog 36 #[.slice A0 n0 c0, .int .i64 i1] W fun e w' => RetQ W e w' ok q Q) ∧
      (∀ W : World, ∀ (B0 : Nat) (A0 : Option Addr) (c0 : Nat), RdF W B0 A0 n0 L0 → B0 ≤ W.heap.size → n0 ≤ c0 → Calls Try.prog 37 #[.slice A0 n0 c0, .int .i64 i1] W fun e w' => RetQ W e w' ok q Q) :=
  ⟨okIv n0 (L0.getD 0 none) i1, outL (okIv n0 (L0.getD 0 none) i1) (lst (glF (finv L0 (ftail L0 (n0 - 1)) (n0 - 1))) i1.toNat), (outL (okIv n0 (L0.getD 0 none) i1) (lst (glF (finv L0 (ftail L0 (n0 - 1)) (n0 - 1))) i1.toNat)).length, (by (cases hq : okIv n0 (L0.getD 0 none) i1; exact Nat.zero_le _; (show (lst _ _).length ≤ _; rw [lst_len]; unfold okIv at hq; rw [Bool.and_eq_true, Bool.and_eq_true] at hq; have := inB_of hq.2.2; omega))),
    fun W _ _ _ h0 hB0 hc0 => Calls.mono (c_spec_InverseOf (w := W) h0 hB0 hn0 hc0 hi1 hj1) (fun _ _ hr => hr.q), fun W _ _ _ h0 hB0 hc0 => Calls.mono (c_impl_InverseOf (w := W) h0 hB0 hn0 hc0 hi1 hj1) (fun _ _ hr => hr.q)⟩

end Go.Proofs.Ytcjddnkebdjhoab
