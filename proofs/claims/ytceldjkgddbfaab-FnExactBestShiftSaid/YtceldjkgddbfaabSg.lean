/- Contracts: equations of Toeplitz form, the reference. Condition: the lists are read. -/
import Derived.Test.YtceldjkgddbfaabSf
namespace Go.Proofs.Ytceldjkgddbfaab
open Go.RowKit Ieee

set_option maxRecDepth 20000 in
set_option maxHeartbeats 40000000 in
theorem c_l05Solve {w : World} {B n c : Nat} {A : Option Addr} {L : List (Option Nat)} (h : RdF w B A n L) (hB : B ≤ w.heap.size) (hn : n ≤ 24) (hpos : 0 < n) {B' c' : Nat} {A' : Option Addr} {M : List (Option Nat)} (h' : RdF w B' A' n M) (hB' : B' ≤ w.heap.size) :
    Calls Try.prog 52 #[.slice A n c, .slice A' n c'] w fun z w' => ∃ fv lv r, z = .returned (.tuple #[fv, lv, .float .f32 r, .bool (tok L (n - 1))]) ∧ (tok L (n - 1) = true → ∃ A3 c3, fv = .slice A3 n c3 ∧ OwL w' w.heap.size w'.heap.size A3 n (tF L M (n - 1))) ∧ (tok L (n - 1) = false → fv = .slice none 0 0) ∧ Ext w w' := by
  obtain ⟨i0, hi, hz0, hz1, hz2⟩ := info_parts info_f32
  have hl := Lib.hid h.len
  obtain ⟨bA, oA, t0, hA0, hbA, hcA, ht0⟩ := h.cell hpos
  obtain ⟨bM, oM, t1, hM0, hbM, hcM, ht1⟩ := h'.cell hpos
  have hposI : (0 : Int) < (n : Int) := by omega
  have hg0 := ht0.ogt0
  subst hA0 hM0
  have hcA0 : w.cell? ⟨bA, oA, none⟩ = some (.float .f32 t0) := by simpa using hcA
  have hcM0 : w.cell? ⟨bM, oM, none⟩ = some (.float .f32 t1) := by simpa using hcM
  clear hcA hcM
  have hcM1 : (w.alloc (.cells #[.float .f32 1065353216] 28)).cell? ⟨bM, oM, none⟩ = some (.float .f32 t1) := ((Ext.alloc (Ext.refl w) _).cell (p := ⟨bM, oM, none⟩) (by show bM < _; omega)).trans hcM0
  cases hG : gt0 (L.getD 0 none)
  · have HTK := Lib.hid (tok_no (n := n - 1) (j := 0) hG (Nat.zero_le _))
    rw [hG] at hg0
    rw [HTK.out]
    go_enter Try.func52, Try.ntmps52
    go_wp2_with (fail)
    (try simp only [Exit.inBlock, Exit.then]); refine bodyPost_ret (results_tmp4 rfl _ _ _) rfl ?_
    exact ⟨_, _, _, rfl, fun e => (Bool.noConfusion e), fun _ => rfl, (by repeat (first | assumption | exact Ext.refl _ | apply Ext.drewN | apply Ext.drew | apply Ext.alloc | (refine Ext.trans ?_ (by assumption)) | (refine Ext.set ?_ (by dsimp only; omega) _)))⟩
  · rw [hG] at hg0
    have HTK0 : Hid (tok L 0 = true) := Lib.hid hG
    go_enter Try.func52, Try.ntmps52
    go_wp2_with (apply upon_fop rfl; (exact ht1); (exact ht0); intro r3 n3 hr3)
    go_loopw [8, 9, 10, 11, 12] (fun v8 v9 v10 v11 v12 wr => ∃ (k s e : Nat) (A2 : Option Addr) (c2 gf cf : Nat) (ys : List Value), s = k + 1 ∧ s ≤ n ∧ v12 = .int .i64 (s : Int) ∧ v8 = .float .f32 e ∧ Fl .f32 e (tst L k).2 ∧ v9 = .slice A2 s c2 ∧ OwL wr w.heap.size wr.heap.size A2 s (tst L k).1 ∧ v10 = .slice (some ⟨gf, 0, none⟩) s cf ∧ FAt wr w.heap.size gf s cf (fun j => (tF L M k).getD j none) ∧ wr.ownsRow w.heap.size 28 1 v11 k ys ∧ v11.ownBlock ≠ some gf ∧ (∀ a, A2 = some a → a.block ≠ gf ∧ v11.ownBlock ≠ some a.block) ∧ tok L k = true ∧ Ext w wr) (fun _ _ _ _ y _ => n - (intOf y).toNat)
    case atStart =>
      have hPz : (w.alloc (.cells #[.float .f32 1065353216] 28)).heap.size = w.heap.size + 1 := al_size _ _
      obtain ⟨wP, hwP⟩ : ∃ wP, wP = w.alloc (.cells #[.float .f32 1065353216] 28) := ⟨_, rfl⟩
      have hP0 := own_one_l (w := w) fl_fu
      have hxP : Ext w (w.alloc (.cells #[.float .f32 1065353216] 28)) := Ext.alloc (Ext.refl w) _
      rw [← hwP] at hPz hP0 hxP
      have hF0 : FAt ((wP.drewN n3).alloc (.cells #[.float .f32 r3] 28)) w.heap.size (w.heap.size + 1) 1 1 (fun j => (tF L M 0).getD j none) :=
        ⟨⟨#[.float .f32 r3], by rw [← hPz]; exact heap_alloc_new (wP.drewN n3) _, rfl, fun j hj => ⟨r3, by (obtain rfl : j = 0 := by omega); rfl, by (obtain rfl : j = 0 := by omega); exact hr3⟩⟩, by omega, Nat.le_refl _, by unfold maxLen; omega⟩
      have hxF : Ext wP ((wP.drewN n3).alloc (.cells #[.float .f32 r3] 28)) := Ext.alloc (Ext.drewN (Ext.refl wP) n3) _
      have hFz : ((wP.drewN n3).alloc (.cells #[.float .f32 r3] 28)).heap.size = w.heap.size + 1 + 1 := by rw [al_size]; show wP.heap.size + 1 = _; rw [hPz]
      obtain ⟨wF, hwF⟩ : ∃ wF, wF = (wP.drewN n3).alloc (.cells #[.float .f32 r3] 28) := ⟨_, rfl⟩
      rw [← hwF] at hF0 hxF hFz
      have hL0 := World.ownsRow_made (e := 28) (size := 1) (base := w.heap.size) wF #[] 0 (by omega) (Nat.zero_le _) rfl
      rw [hFz] at hL0
      have hxL : Ext wF (wF.alloc (.cells #[] 28)) := Ext.alloc (Ext.refl wF) _
      rw [← hwP, ← hwF]
      exact ⟨0, 1, t0, some ⟨w.heap.size, 0, none⟩, 1, w.heap.size + 1, 1, [], rfl, hpos, rfl, rfl, ht0, rfl, (hP0.ext (Nat.le_refl _) (hxF.trans hxL)).more (Nat.le_refl _) (hxF.trans hxL).size, rfl, hF0.ext hxL, hL0, (fun e => by have e6 := Option.some.inj e; dsimp only at e6; omega), (fun a ha => by cases ha; exact ⟨by show w.heap.size ≠ w.heap.size + 1; omega, fun e => by have e6 := Option.some.inj e; dsimp only at e6; omega⟩), HTK0.out, (hxP.trans hxF).trans hxL⟩
    case round =>
      obtain ⟨k, s, e, A2, c2, gf, cf, ys, hs, hsn, rfl, rfl, fe, rfl, hP, rfl, hF, hown, hne1, hne2, htk, hx⟩ := hrel
      have hTFl := Lib.hid (tF_len L M k)
      by_cases hlt : s < n
      · have hlt' : (s : Int) < (n : Int) := by omega
        have hspos : 0 < s := by omega
        have hs24 : s ≤ 24 := by omega
        have hk24 : k + 1 ≤ 24 := by omega
        have hwl : k + 1 ≤ maxLen := by unfold maxLen; omega
        have hRP := hP.rd
        have hRF := hF.owl.rd
        have hRA := h.below (hx.mono hB)
        have hsz := hx.size
        have E1 : Hid (fnext (tst L k).1 (fop .quo .f32 (ffs (tst L k).1 L (s : Int) s) (tst L k).2) = (tst L (k + 1)).1) := Lib.hid (by rw [hs]; rfl)
        have E2 : Hid (fop .sub .f32 (tst L k).2 (fop .mul .f32 (fop .quo .f32 (ffs (tst L k).1 L (s : Int) s) (tst L k).2) (ffs (tst L k).1 L (s : Int) s)) = (tst L (k + 1)).2) := Lib.hid (by rw [hs]; rfl)
        have HT : Hid (tT L M (tF L M k) k = fop .quo .f32 (fop .sub .f32 (M.getD s none) (ffs (tF L M k) L (s : Int) s)) (tst L (k + 1)).2) := Lib.hid (by rw [hs]; rfl)
        have hlF : (tF L M k).length = s := by rw [hTFl.out, hs]
        rw [lst_self hlF] at hRF
        have HLF := Lib.hid hlF
        have HS := Lib.hid hs
        have HTK := Lib.hid htk
        have HOW := Lib.hid hown
        have HF := Lib.hid hF
        have HP := Lib.hid hP
        have HN1 := Lib.hid hne1
        have HN2 := Lib.hid hne2
        clear hlF hs htk hown hF hP hne1 hne2
        go_wp2_with (fail)
        go_loopw [13, 14, 15] (fun x y z wq => ∃ (i r u q : Nat), i ≤ s ∧ z = .int .i64 (i : Int) ∧ x = .float .f32 r ∧ Fl .f32 r (ffs (tst L k).1 L (s : Int) i) ∧ y = .float .f32 u ∧ Fl .f32 u (ffs (tF L M k) L (s : Int) i) ∧ wq = wr.drewN q) (fun _ _ z _ => s - (intOf z).toNat)
        case atStart => exact ⟨0, 0, 0, 0, Nat.zero_le _, rfl, rfl, fl_fz, rfl, fl_fz, rfl⟩
        case round =>
          obtain ⟨i, r, u, q, hi2, rfl, rfl, hr, rfl, hu, rfl⟩ := hrel
          by_cases h1 : i < s
          · have h1' : (i : Int) < (s : Int) := by omega
            obtain ⟨d, hd⟩ : ∃ d : Nat, (s : Int) - (i : Int) = (d : Int) := ⟨s - i, by omega⟩
            have hdn : d < n := by omega
            have hdI : (d : Int) < (n : Int) := by omega
            have hwd : IntKind.i64.wrap (d : Int) = (d : Int) := IntWalk.i64_in _ (by omega)
            obtain ⟨b1, o1, t3, rfl, hb1, hc1, ht3⟩ := hRP.cell h1
            obtain ⟨b2, o2, t4, hA2, hb2, hc2, ht4⟩ := hRA.cell hdn
            obtain ⟨b5, o5, t5, hA5, hb5, hc5, ht5⟩ := hRF.cell h1
            simp only [Option.some.injEq, Addr.mk.injEq, and_true] at hA2 hA5
            obtain ⟨rfl, rfl⟩ := hA2
            obtain ⟨rfl, rfl⟩ := hA5
            have hc6 : wr.cell? ⟨gf, i, none⟩ = some (.float .f32 t5) := by simpa using hc5
            clear hc5
            have HX1 := Lib.hid (ffs_next (P := (tst L k).1) (A := L) (k := s) (i := i) (d := d) (by rw [hl.out]; exact hlt) (by omega))
            have HX2 := Lib.hid (ffs_next (P := tF L M k) (A := L) (k := s) (i := i) (d := d) (by rw [hl.out]; exact hlt) (by omega))
            go_wp2_with (fail)
            refine wp_region_loose 13 (by kernel_rfl) (by kernel_rfl) ?_
            simp only [List.take_succ_cons, List.take_zero, List.drop_succ_cons, List.drop_zero]
            refine la_start ?_
            refine la_fix _ (by rfl) (by intros; go_simp; rfl) ?_
            try simp only [Act.put, List.setIfInBounds_toArray, List.set_cons_zero, List.set_cons_succ]
            refine la_fix _ (by rfl) (by intros; go_simp; rfl) ?_
            try simp only [Act.put, List.setIfInBounds_toArray, List.set_cons_zero, List.set_cons_succ]
            refine la_fix _ (by rfl) (by intros; go_simp; rfl) ?_
            try simp only [Act.put, List.setIfInBounds_toArray, List.set_cons_zero, List.set_cons_succ]
            refine la_fix _ (by rfl) (by intros; go_simp; rfl) ?_
            try simp only [Act.put, List.setIfInBounds_toArray, List.set_cons_zero, List.set_cons_succ]
            refine la_fix _ (by rfl) (by intros; go_simp; rfl) ?_
            try simp only [Act.put, List.setIfInBounds_toArray, List.set_cons_zero, List.set_cons_succ]
            refine la_fix _ (by rfl) (by intros; go_simp; rfl) ?_
            try simp only [Act.put, List.setIfInBounds_toArray, List.set_cons_zero, List.set_cons_succ]
            refine la_fix _ (by rfl) (by intros; go_simp; rfl) ?_
            try simp only [Act.put, List.setIfInBounds_toArray, List.set_cons_zero, List.set_cons_succ]
            refine la_fix _ (by rfl) (by intros; go_simp; rfl) ?_
            try simp only [Act.put, List.setIfInBounds_toArray, List.set_cons_zero, List.set_cons_succ]
            refine la_fix _ (by rfl) (by intros; go_simp; rfl) ?_
            try simp only [Act.put, List.setIfInBounds_toArray, List.set_cons_zero, List.set_cons_succ]
            refine la_fix _ (by rfl) (by intros; go_simp; rfl) ?_
            try simp only [Act.put, List.setIfInBounds_toArray, List.set_cons_zero, List.set_cons_succ]
            refine la_fix _ (by rfl) (by intros; go_simp; rfl) ?_
            try simp only [Act.put, List.setIfInBounds_toArray, List.set_cons_zero, List.set_cons_succ]
            refine la_fop (op := .mul) (by rfl) (by rfl) (by intros; refine ⟨_, _, ?_, ?_, fun q => (by go_simp; rfl)⟩ <;> (first | assumption | exact fl_fu | exact fl_fz)) ?_
            try simp only [Act.put, List.setIfInBounds_toArray, List.set_cons_zero, List.set_cons_succ]
            refine la_fop (op := .add) (by rfl) (by rfl) (by intros; refine ⟨_, _, ?_, ?_, fun q => (by go_simp; rfl)⟩ <;> (first | assumption | exact fl_fu | exact fl_fz)) ?_
            try simp only [Act.put, List.setIfInBounds_toArray, List.set_cons_zero, List.set_cons_succ]
            refine la_end ?_
            intro r5 hr5 r6 hr6 q2
            rw [← HX1.out] at hr6
            go_wp2_with (fail)
            refine wp_region_loose 13 (by kernel_rfl) (by kernel_rfl) ?_
            simp only [List.take_succ_cons, List.take_zero, List.drop_succ_cons, List.drop_zero]
            refine la_start ?_
            refine la_fix _ (by rfl) (by intros; go_simp; rfl) ?_
            try simp only [Act.put, List.setIfInBounds_toArray, List.set_cons_zero, List.set_cons_succ]
            refine la_fix _ (by rfl) (by intros; go_simp; rfl) ?_
            try simp only [Act.put, List.setIfInBounds_toArray, List.set_cons_zero, List.set_cons_succ]
            refine la_fix _ (by rfl) (by intros; go_simp; rfl) ?_
            try simp only [Act.put, List.setIfInBounds_toArray, List.set_cons_zero, List.set_cons_succ]
            refine la_fix _ (by rfl) (by intros; go_simp; rfl) ?_
            try simp only [Act.put, List.setIfInBounds_toArray, List.set_cons_zero, List.set_cons_succ]
            refine la_fix _ (by rfl) (by intros; go_simp; rfl) ?_
            try simp only [Act.put, List.setIfInBounds_toArray, List.set_cons_zero, List.set_cons_succ]
            refine la_fix _ (by rfl) (by intros; go_simp; rfl) ?_
            try simp only [Act.put, List.setIfInBounds_toArray, List.set_cons_zero, List.set_cons_succ]
            refine la_fix _ (by rfl) (by intros; go_simp; rfl) ?_
            try simp only [Act.put, List.setIfInBounds_toArray, List.set_cons_zero, List.set_cons_succ]
            refine la_fix _ (by rfl) (by intros; go_simp; rfl) ?_
            try simp only [Act.put, List.setIfInBounds_toArray, List.set_cons_zero, List.set_cons_succ]
            refine la_fix _ (by rfl) (by intros; go_simp; rfl) ?_
            try simp only [Act.put, List.setIfInBounds_toArray, List.set_cons_zero, List.set_cons_succ]
            refine la_fix _ (by rfl) (by intros; go_simp; rfl) ?_
            try simp only [Act.put, List.setIfInBounds_toArray, List.set_cons_zero, List.set_cons_succ]
            refine la_fix _ (by rfl) (by intros; go_simp; rfl) ?_
            try simp only [Act.put, List.setIfInBounds_toArray, List.set_cons_zero, List.set_cons_succ]
            refine la_fop (op := .mul) (by rfl) (by rfl) (by intros; refine ⟨_, _, ?_, ?_, fun q => (by go_simp; rfl)⟩ <;> (first | assumption | exact fl_fu | exact fl_fz)) ?_
            try simp only [Act.put, List.setIfInBounds_toArray, List.set_cons_zero, List.set_cons_succ]
            refine la_fop (op := .add) (by rfl) (by rfl) (by intros; refine ⟨_, _, ?_, ?_, fun q => (by go_simp; rfl)⟩ <;> (first | assumption | exact fl_fu | exact fl_fz)) ?_
            try simp only [Act.put, List.setIfInBounds_toArray, List.set_cons_zero, List.set_cons_succ]
            refine la_end ?_
            intro r7 hr7 r8 hr8 q3
            rw [← HX2.out] at hr8
            go_wp2_with (fail)
            exact ⟨⟨i + 1, r6, r8, _, by omega, by go_num, rfl, hr6, rfl, hr8, by first | rfl | (simp only [World.drewN_drewN])⟩, by simp [intOf]; omega⟩
          · have his : s = i := by omega
            subst his
            obtain ⟨bm, om, tm, hAm, hbm, hcm, htm⟩ := h'.cell hlt
            simp only [Option.some.injEq, Addr.mk.injEq, and_true] at hAm
            obtain ⟨rfl, rfl⟩ := hAm
            go_wp2_with (first | (apply upon_fop rfl; (exact hr); (exact fe); intro r7 n7 hr7) | (at_builtin; refine wpList_append_own_at _ rfl _ _ 22 rfl w.heap.size 28 i0 (.float .f32 0) 1 4 Try.underlying22 hi hz0 hz1 hz2 rfl (by decide) _ _ _ rfl (World.ownsRow.alloc (w := wr.drewN (q + n7)) HOW.out _) ⟨wr.heap.size, 0, none⟩ 1 1 [.float .f32 r7] rfl rfl ?_ ?_ ?_ ?_ ?_ ?_))
            all_goals first
              | exact one_new (w := wr.drewN (q + n7))
              | (intro j0 u hj0; have h0 := one_new (w := wr.drewN (q + n7)) j0 u hj0; have e0 : (⟨(wr.drewN (q + n7)).heap.size, 0, none⟩ : Addr).add j0 = ⟨wr.heap.size, j0, none⟩ := (by rw [show (wr.drewN (q + n7)).heap.size = wr.heap.size from rfl]; simp [Addr.add]; first | done | (intros; omega)); rw [e0] at h0; exact h0)
              | rfl
              | (intro u hu; simp at hu; subst hu; rfl)
              | (unfold maxLen; omega)
              | omega
              | (have := hx.size; simp; omega)
              | skip
            intro v4 w4 hown4 hgrow4 _ hblk4
            obtain ⟨W3, hW3⟩ : ∃ W3, W3 = (wr.drewN (q + n7)).alloc (.cells #[.float .f32 r7] 28) := ⟨_, rfl⟩
            have hx3 : Ext wr W3 := by rw [hW3]; exact (by repeat (first | assumption | exact Ext.refl _ | apply Ext.drewN | apply Ext.drew | apply Ext.alloc | (refine Ext.trans ?_ (by assumption)) | (refine Ext.set ?_ (by dsimp only; omega) _)))
            rw [← hW3] at hgrow4
            clear hW3
            have hx4 : Ext w w4 := grown_ext (hx.trans hx3) (own_ext HOW.out hx3) hgrow4
            have hF4 := (HF.out.ext hx3).grown hgrow4 HN1.out
            have hP4 := (HP.out.ext (Nat.le_refl _) hx3).grown hgrow4 (fun a ha => (HN2.out a ha).2)
            have hFlt := HF.out.lt
            have hs3 := hx3.size
            have hL4 : v4.ownBlock ≠ some gf := by
              rcases hblk4 with e4 | e4
              · rw [e4]; exact HN1.out
              · rw [e4]; intro e5; have e6 := Option.some.inj e5; omega
            have hLlt : ∀ g, v4.ownBlock = some g → g < w4.heap.size := fun g e4 => (hown4.lt g e4).2
            have hsz4 : wr.heap.size ≤ w4.heap.size := Nat.le_trans hx3.size hgrow4.size
            have HNX := Lib.hid (c_l05Next (w := w4) (c := c2) hP4.rd hsz4 (by omega) hspos hr7)
            have HF4 := Lib.hid hF4
            have HL4 := Lib.hid hL4
            have HLL := Lib.hid hLlt
            have HO4 := Lib.hid hown4
            have hxw4 := hx4
            clear hF4 hP4 hL4 hLlt hown4 hblk4 hgrow4 hx3 hs3 hFlt
            cases hG9 : gt0 (tst L (k + 1)).2
            · have HTN := Lib.hid (tok_no (n := n - 1) (j := k + 1) hG9 (by have := HS.out; omega))
              go_wp2_with (first | (go_at_call 104; refine Calls.mono HNX.out ?_; rintro z w5 ⟨A5, c5, rfl, ho5, hx5⟩; rw [E1.out] at ho5) | (apply upon_fop rfl; (exact hr7); (exact hr); intro r8 n8 hr8) | (apply upon_fop rfl; (exact fe); (exact hr8); intro r9 n9 hr9; rw [E2.out] at hr9; have hg9 := hr9.ogt0; rw [hG9] at hg9))
              (try simp only [Exit.inBlock, Exit.then]); refine bodyPost_ret (results_tmp4 rfl _ _ _) rfl ?_
              rw [HTN.out]
              exact ⟨_, _, _, rfl, fun e => (Bool.noConfusion e), fun _ => rfl, (by repeat (first | assumption | exact Ext.refl _ | apply Ext.drewN | apply Ext.drew | apply Ext.alloc | (refine Ext.trans ?_ (by assumption)) | (refine Ext.set ?_ (by dsimp only; omega) _)))⟩
            · go_wp2_with (first | (go_at_call 104; refine Calls.mono HNX.out ?_; rintro z w5 ⟨A5, c5, rfl, ho5, hx5⟩; rw [E1.out] at ho5; have hF5 := HF4.out.ext hx5; obtain ⟨xs, hownF, hxsF⟩ := hF5.own; have HXS := Lib.hid hxsF; have hcm5 : w5.cell? ⟨bM, oM + s, none⟩ = some (.float .f32 tm) := ((hxw4.trans hx5).cell (p := ⟨bM, oM + s, none⟩) (by show bM < _; omega)).trans hcm; clear hxsF hF5) | (apply upon_fop rfl; (exact hr7); (exact hr); intro r8 n8 hr8) | (apply upon_fop rfl; (exact fe); (exact hr8); intro r9 n9 hr9; rw [E2.out] at hr9; have hg9 := hr9.ogt0; rw [hG9] at hg9) | (apply upon_fop rfl; (exact htm); (exact hu); intro r10 n10 hr10) | (apply upon_fop rfl; (exact hr10); (exact hr9); intro r11 n11 hr11; rw [← HT.out] at hr11) | (at_builtin; refine wpList_append_own_at _ rfl _ _ 22 rfl w.heap.size 28 i0 (.float .f32 0) 1 4 Try.underlying22 hi hz0 hz1 hz2 rfl (by decide) _ _ _ rfl (World.ownsRow.alloc (w := w5.drewN (n8 + n9 + n10 + n11)) hownF _) ⟨w5.heap.size, 0, none⟩ 1 1 [.float .f32 0] rfl rfl ?_ ?_ ?_ ?_ ?_ ?_))
              all_goals first
                | exact one_new (w := w5.drewN (n8 + n9 + n10 + n11))
                | (intro j0 u hj0; have h0 := one_new (w := w5.drewN (n8 + n9 + n10 + n11)) j0 u hj0; have e0 : (⟨(w5.drewN (n8 + n9 + n10 + n11)).heap.size, 0, none⟩ : Addr).add j0 = ⟨w5.heap.size, j0, none⟩ := (by rw [show (w5.drewN (n8 + n9 + n10 + n11)).heap.size = w5.heap.size from rfl]; simp [Addr.add]; first | done | (intros; omega)); rw [e0] at h0; exact h0)
                | rfl
                | (intro u hu; simp at hu; subst hu; rfl)
                | (unfold maxLen; omega)
                | omega
                | (have := hxw4.size; have := hx5.size; simp; omega)
                | skip
              intro v6 w6 hown6 hgrow6 _ hblk6
              obtain ⟨W5, hW5⟩ : ∃ W5, W5 = (w5.drewN (n8 + n9 + n10 + n11)).alloc (.cells #[.float .f32 0] 28) := ⟨_, rfl⟩
              have hx5W : Ext w5 W5 := by rw [hW5]; exact Ext.alloc (Ext.drewN (Ext.refl w5) _) _
              rw [← hW5] at hgrow6
              have hW5s : W5.heap.size = w5.heap.size + 1 := by rw [hW5]; exact al_size _ _
              clear hW5
              have hx6 : Ext w w6 := grown_ext ((hxw4.trans hx5).trans hx5W) (own_ext hownF hx5W) hgrow6
              have hgrow7 : W5.grownBy w6 (some gf) := hgrow6
              obtain ⟨g5, o5, rfl, hg51, hg52⟩ := ho5.block (Nat.succ_pos _)
              have hgf4 := HF4.out.lt
              have hP6 := (ho5.ext (Nat.le_refl _) hx5W).grown hgrow7 (fun a ha e => by cases ha; have e6 := Option.some.inj e; dsimp only at e6; omega)
              have hL6 : w6.ownsRow w.heap.size 28 1 v4 (k + 1) _ := own_grown (own_ext (own_ext HO4.out hx5) hx5W) hgrow7 (fun g e6 e7 => HL4.out (e6.trans e7.symm))
              have hFX : ∀ j, j < s + 1 → ∃ r', (xs ++ [Value.float .f32 0])[j]? = some (.float .f32 r') ∧ Fl .f32 r' ((fun j => (tF L M k ++ [fz]).getD j none) j) :=
                row_step (by have := hownF.1; omega) (fun j hj => by obtain ⟨r', q1, q2⟩ := HXS.out j hj; exact ⟨r', q1, by show Fl _ _ ((tF L M k ++ [fz]).getD j none); rw [app_zero_at (by rw [HLF.out]; exact hj)]; exact q2⟩) (by show Fl .f32 0 ((tF L M k ++ [fz]).getD s none); rw [app_zero_end HLF.out]; exact fl_fz)
              obtain ⟨g6, cap6, rfl, hF6⟩ := own_fat hown6 (Nat.succ_pos _) hFX
              have hg6 : g6 = gf ∨ g6 = W5.heap.size := by
                rcases hblk6 with e | e
                · exact .inl (Option.some.inj e)
                · exact .inr ((Option.some.inj e).trans hW5s.symm)
              have hsz5 := hx5.size
              have hszW := hx5W.size
              have hsz6 := hgrow6.size
              have hL6n : ∀ g, v4.ownBlock = some g → g ≠ g6 := fun g e6 e7 => by
                have h8 := HLL.out g e6
                rcases hg6 with e | e
                · exact HL4.out (by rw [e6, e7, e])
                · omega
              have hP6n : g5 ≠ g6 := by rcases hg6 with e | e <;> omega
              have hPL : v4.ownBlock ≠ some g5 := fun e6 => by have h8 := HLL.out g5 e6; omega
              have hw4s := hxw4.size
              obtain ⟨m, hm⟩ : ∃ m, s + 1 = m := ⟨_, rfl⟩
              rw [hm] at hF6 hP6
              rw [hm]
              have HM := Lib.hid hm
              have HL6 := Lib.hid hL6
              have HL6n := Lib.hid hL6n
              have HP6 := Lib.hid hP6
              have HPL := Lib.hid hPL
              obtain ⟨⟨cs6, hb6, hcs6, hrow6⟩, hlo6, hnc6, hcm6⟩ := hF6
              have HB6 := Lib.hid hb6
              have HC6 := Lib.hid hcs6
              have HR6 := Lib.hid hrow6
              clear hm hL6 hL6n hP6 hPL hb6 hcs6 hrow6 hown6 hblk6 hgrow6 hgrow7 hFX hownF HXS ho5 hg6
              go_wp2_with (fail)
              go_loopw [101] (fun y wi => ∃ (j : Nat) (cs : Array Value), j ≤ m ∧ y = .int .i64 (j : Int) ∧ wi.heap[g6]? = some (.cells cs 28 (0, 0)) ∧ cs.size = cap6 ∧ RowF cs m (pmx (fplus (tF L M k ++ [fz]) (tT L M (tF L M k) k) (tst L (k + 1)).1) (tF L M k ++ [fz]) j) ∧ Kb g6 (g6 + 1) w6 wi) (fun y _ => m - (intOf y).toNat)
              case atStart => exact ⟨0, cs6, Nat.zero_le _, rfl, HB6.out, HC6.out, HR6.out.keep (fun j _ => by unfold pmx; rw [if_neg (by omega)]), Kb.refl _ _ _⟩
              case round =>
                obtain ⟨j, cs, hj, rfl, hgj, hcz, hrow, hk⟩ := hrel
                have HX := Lib.hid hrow
                have HG := Lib.hid hgj
                have HC := Lib.hid hcz
                have HK := Lib.hid hk
                have hkz := hk.below.size
                clear hrow hgj hcz hk
                by_cases hjm : j < m
                · have hjm' : (j : Int) < (m : Int) := by omega
                  obtain ⟨u0, e0, z0, f0⟩ := HX.out.cell HG.out hjm
                  rw [pmx_at] at f0
                  obtain ⟨d, hd⟩ : ∃ d : Nat, (s : Int) - (j : Int) = (d : Int) := ⟨s - j, by have := HM.out; omega⟩
                  have hdm : d < m := by have := HM.out; omega
                  have hdm' : (d : Int) < (m : Int) := by omega
                  have hwd : IntKind.i64.wrap (d : Int) = (d : Int) := IntWalk.i64_in _ (by omega)
                  obtain ⟨b2, o2, t2, hA2, hb2, hc2, ht2⟩ := (HP6.out.kb HK.out (fun a ha => by cases ha; exact hP6n)).rd.cell hdm
                  simp only [Option.some.injEq, Addr.mk.injEq, and_true] at hA2
                  obtain ⟨rfl, rfl⟩ := hA2
                  have HT9 : Hid (fplus (tF L M k ++ [fz]) (tT L M (tF L M k) k) (tst L (k + 1)).1 j = fop .add .f32 ((tF L M k ++ [fz]).getD j none) (fop .mul .f32 (tT L M (tF L M k) k) ((tst L (k + 1)).1.getD d none))) := Lib.hid (by unfold fplus; rw [app_zero_len HLF.out, show s + 1 - 1 - j = d by omega])
                  go_wp2_with (fail)
                  refine wp_region_loose 16 (by kernel_rfl) (by kernel_rfl) ?_
                  simp only [List.take_succ_cons, List.take_zero, List.drop_succ_cons, List.drop_zero]
                  refine la_start ?_
                  refine la_fix _ (by rfl) (by intros; go_simp; rfl) ?_
                  try simp only [Act.put, List.setIfInBounds_toArray, List.set_cons_zero, List.set_cons_succ]
                  refine la_fix _ (by rfl) (by intros; go_simp; rfl) ?_
                  try simp only [Act.put, List.setIfInBounds_toArray, List.set_cons_zero, List.set_cons_succ]
                  refine la_fix _ (by rfl) (by intros; go_simp; rfl) ?_
                  try simp only [Act.put, List.setIfInBounds_toArray, List.set_cons_zero, List.set_cons_succ]
                  refine la_fix _ (by rfl) (by intros; go_simp; rfl) ?_
                  try simp only [Act.put, List.setIfInBounds_toArray, List.set_cons_zero, List.set_cons_succ]
                  refine la_fix _ (by rfl) (by intros; go_simp; rfl) ?_
                  try simp only [Act.put, List.setIfInBounds_toArray, List.set_cons_zero, List.set_cons_succ]
                  refine la_fix _ (by rfl) (by intros; go_simp; rfl) ?_
                  try simp only [Act.put, List.setIfInBounds_toArray, List.set_cons_zero, List.set_cons_succ]
                  refine la_fix _ (by rfl) (by intros; go_simp; rfl) ?_
                  try simp only [Act.put, List.setIfInBounds_toArray, List.set_cons_zero, List.set_cons_succ]
                  refine la_fix _ (by rfl) (by intros; go_simp; rfl) ?_
                  try simp only [Act.put, List.setIfInBounds_toArray, List.set_cons_zero, List.set_cons_succ]
                  refine la_fix _ (by rfl) (by intros; go_simp; rfl) ?_
                  try simp only [Act.put, List.setIfInBounds_toArray, List.set_cons_zero, List.set_cons_succ]
                  refine la_fix _ (by rfl) (by intros; go_simp; rfl) ?_
                  try simp only [Act.put, List.setIfInBounds_toArray, List.set_cons_zero, List.set_cons_succ]
                  refine la_fix _ (by rfl) (by intros; go_simp; rfl) ?_
                  try simp only [Act.put, List.setIfInBounds_toArray, List.set_cons_zero, List.set_cons_succ]
                  refine la_fix _ (by rfl) (by intros; go_simp; rfl) ?_
                  try simp only [Act.put, List.setIfInBounds_toArray, List.set_cons_zero, List.set_cons_succ]
                  refine la_fix _ (by rfl) (by intros; go_simp; rfl) ?_
                  try simp only [Act.put, List.setIfInBounds_toArray, List.set_cons_zero, List.set_cons_succ]
                  refine la_fop (op := .mul) (by rfl) (by rfl) (by intros; refine ⟨_, _, ?_, ?_, fun q => (by go_simp; rfl)⟩ <;> (first | assumption | exact fl_fu | exact fl_fz)) ?_
                  try simp only [Act.put, List.setIfInBounds_toArray, List.set_cons_zero, List.set_cons_succ]
                  refine la_fop (op := .add) (by rfl) (by rfl) (by intros; refine ⟨_, _, ?_, ?_, fun q => (by go_simp; rfl)⟩ <;> (first | assumption | exact fl_fu | exact fl_fz)) ?_
                  try simp only [Act.put, List.setIfInBounds_toArray, List.set_cons_zero, List.set_cons_succ]
                  refine la_fix _ (by rfl) (by intros; go_simp; rfl) ?_
                  try simp only [Act.put, List.setIfInBounds_toArray, List.set_cons_zero, List.set_cons_succ]
                  refine la_end ?_
                  intro r12 hr12 r13 hr13 q9
                  rw [← HT9.out] at hr13
                  go_wp2_with (fail)
                  exact ⟨⟨j + 1, _, by omega, by go_num, blk_set1 (w := World.drewN _ q9) HG.out j (.float .f32 r13), by rw [Array.size_setIfInBounds]; exact HC.out, HX.out.set' (by rw [HC.out]; exact hnc6) (by rw [pmx_new]; exact hr13) (fun j _ hj => pmx_other hj), (HK.out.drewN q9).set (Nat.le_refl _) (Nat.lt_succ_self _) _⟩, by simp [intOf]; omega⟩
                · have hjm2 : m = j := by omega
                  subst hjm2
                  have hFe := FAt.mk ⟨cs, HG.out, HC.out, HX.out.keep (G := fun j => (tF L M (k + 1)).getD j none) (fun j hj => by rw [pmx_all hj]; exact (lst_at (F := fplus (tF L M k ++ [fz]) (tT L M (tF L M k) k) (tst L (k + 1)).1) (n := k + 2) (by have := HS.out; have := HM.out; omega)).symm)⟩ hlo6 hnc6 hcm6
                  have hPe := (HP6.out.kb HK.out (fun a ha => by cases ha; exact hP6n)).more (lo' := w.heap.size) (hi' := _) (by omega) (Nat.le_trans hszW (Nat.le_trans hsz6 hkz))
                  go_wp2_with (fail)
                  exact ⟨⟨k + 1, m, r9, _, c5, g6, cap6, _, by have := HS.out; have := HM.out; omega, by have := HM.out; omega, by have := HM.out; go_num, rfl, hr9, rfl, hPe, rfl, hFe, own_kb HL6.out HK.out (fun e6 => HL6n.out _ e6 rfl), fun e6 => HL6n.out _ e6 rfl, fun a ha => by cases ha; exact ⟨hP6n, HPL.out⟩, tok_s HTK.out hG9, Kb.ext HK.out hx6 hlo6⟩, by have := HM.out; simp [intOf]; omega⟩
      · have hsn2 : s = n := by omega
        subst hsn2
        have hkn : s - 1 = k := by omega
        have hOL := hF.owl
        rw [lst_self (by rw [hTFl.out, hs]), ← hkn] at hOL
        rw [← hkn] at htk
        have HOL := Lib.hid hOL
        have HTK := Lib.hid htk
        clear hOL htk hF hown hne1 hne2 hP
        go_wp2_with (fail)
        (try simp only [Exit.inBlock, Exit.then]); refine bodyPost_ret (results_tmp4 rfl _ _ _) rfl ?_
        rw [HTK.out]
        exact ⟨_, _, _, rfl, fun _ => ⟨_, _, rfl, HOL.out⟩, fun e => (Bool.noConfusion e), hx⟩
end Go.Proofs.Ytceldjkgddbfaab
