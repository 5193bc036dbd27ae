/- Contracts: equations of Toeplitz form, the program, whole. Condition: the lists are read. -/
import Derived.Test.YtceldjkgddbfaabSd
namespace Go.Proofs.Ytceldjkgddbfaab
open Go.RowKit Ieee

theorem tok_0 {A : List (Option Nat)} (h : gt0 (A.getD 0 none) = true) : tok A 0 = true := h
set_option maxRecDepth 20000 in
set_option maxHeartbeats 16000000 in
theorem c_impl_SolveToeplitz {w : World} {B n c : Nat} {A : Option Addr} {L : List (Option Nat)} (h : RdF w B A n L) (hB : B ≤ w.heap.size) (hn : n ≤ 1048576) {B' m c' : Nat} {A' : Option Addr} {M : List (Option Nat)} (h' : RdF w B' A' m M) (hB' : B' ≤ w.heap.size) (_hm : m ≤ 1048576) :
    Calls Try.prog 15 #[.slice A n c, .slice A' m c'] w fun e w' => RetL w e w' (okSv n m L) (tF L M (n - 1)) := by
  unfold okSv
  have HE := Lib.hid (elen_int n)
  cases hV : elen n
  · go_enter Try.func15, Try.ntmps15
    go_wp2_with (go_at_call 53; refine Calls.mono (c_isFilterLength _ _) ?_; rw [HE.out, hV]; rintro e w1 ⟨rfl, rfl⟩)
    go_ret2
    exact retL_no rfl (by repeat (first | assumption | exact Ext.refl _ | apply Ext.drewN | apply Ext.drew | apply Ext.alloc | (refine Ext.trans ?_ (by assumption)) | (refine Ext.set ?_ (by dsimp only; omega) _)))
  rw [Bool.true_and]
  by_cases hnm : n = m
  case neg =>
    rw [same2_no hnm]
    have i3 : ((m : Int) != (n : Int)) = true := by rw [bne_iff_ne]; omega
    clear hnm
    go_enter Try.func15, Try.ntmps15
    go_wp2_with (go_at_call 53; refine Calls.mono (c_isFilterLength _ _) ?_; rw [HE.out, hV]; rintro e w1 ⟨rfl, rfl⟩)
    go_ret2
    exact retL_no rfl (by repeat (first | assumption | exact Ext.refl _ | apply Ext.drewN | apply Ext.drew | apply Ext.alloc | (refine Ext.trans ?_ (by assumption)) | (refine Ext.set ?_ (by dsimp only; omega) _)))
  subst hnm
  rw [same2_yes rfl, Bool.true_and]
  have i3 : ((n : Int) != (n : Int)) = false := by simp
  have hn24 := elen_of hV
  have hpos : 0 < n := hn24.1
  have hposI : (0 : Int) < (n : Int) := by omega
  obtain ⟨b0, o0, t0, rfl, hb0, hc0, ht0⟩ := h'.cell hpos
  have hc00 : w.cell? ⟨b0, o0, none⟩ = some (.float .f32 t0) := by simpa using hc0
  clear hc0
  go_enter Try.func15, Try.ntmps15
  go_wp2_with (first | (go_at_call 53; refine Calls.mono (c_isFilterLength _ _) ?_; rw [HE.out, hV]; rintro e w1 ⟨rfl, rfl⟩) | (go_at_call 54; refine Calls.mono (c_recursionOf h hB hpos) ?_; rintro e w1 ⟨g1, t1, rfl, ht1, ho1, hx1⟩))
  obtain ⟨W, hW⟩ : ∃ W, W = w1.alloc (.cells #[.slice A n c, .slice (some ⟨g1, 0, none⟩) 1 1, .float .f32 t1] 76) := ⟨_, rfl⟩
  have hBX : RcAt W w1.heap.size (.slice A n c) (.slice (some ⟨g1, 0, none⟩) 1 1) t1 := by rw [hW]; exact heap_alloc_new w1 _
  have hxW : Ext w W := by rw [hW]; exact (by repeat (first | assumption | exact Ext.refl _ | apply Ext.drewN | apply Ext.drew | apply Ext.alloc | (refine Ext.trans ?_ (by assumption)) | (refine Ext.set ?_ (by dsimp only; omega) _)))
  have hx1W : Ext w1 W := by rw [hW]; exact (by repeat (first | assumption | exact Ext.refl _ | apply Ext.drewN | apply Ext.drew | apply Ext.alloc | (refine Ext.trans ?_ (by assumption)) | (refine Ext.set ?_ (by dsimp only; omega) _)))
  rw [← hW]
  obtain ⟨gb, hgb⟩ : ∃ gb, w1.heap.size = gb := ⟨_, rfl⟩
  have hgw : w.heap.size ≤ gb := by rw [← hgb]; exact hx1.size
  rw [hgb] at hBX ⊢
  have HO1 := Lib.hid (ho1.ext (Nat.le_refl _) hx1W)
  rw [hgb] at HO1
  obtain ⟨a0, a1, a2⟩ := hBX.c
  have hcW := (hxW.cell (p := ⟨b0, o0, none⟩) (by show b0 < _; omega)).trans hc00
  have HBX := Lib.hid hBX
  clear hW hgb hBX ho1
  go_cut [7, 8] from 28 to 35 (fun tx ux wx => ∃ r3, tx = .float .f32 r3 ∧ ux = .bool (gt0 (L.getD 0 none)) ∧ Fl .f32 r3 (if gt0 (L.getD 0 none) then fop .quo .f32 (M.getD 0 none) (L.getD 0 none) else fz) ∧ Ext W wx)
  case first =>
    go_region_with (go_at_call 55; refine Calls.mono (c_share ht1 ht0) ?_; rintro e w3 ⟨r3, rfl, hr3, hx3⟩)
    all_goals
      go_wp2_with (fail)
      go_meet
      exact ⟨_, rfl, rfl, hr3, (by repeat (first | assumption | exact Ext.refl _ | apply Ext.drewN | apply Ext.drew | apply Ext.alloc | (refine Ext.trans ?_ (by assumption)) | (refine Ext.set ?_ (by dsimp only; omega) _)))⟩
  case rest =>
    obtain ⟨r3, rfl, rfl, hr3, hx3⟩ := hcut
    cases hG : gt0 (L.getD 0 none)
    · have htk : tok L (n - 1) = false := tok_no (j := 0) hG (Nat.zero_le _)
      have HTK := Lib.hid htk
      clear htk
      rw [hG] at hr3
      go_wp2_with (fail)
      go_ret2
      exact retL_no HTK.out (hxW.trans hx3)
    · rw [hG] at hr3
      simp only [if_true] at hr3
      have hxW3 := hxW.trans hx3
      go_wp2_with (fail)
      go_loopw [9, 10] (fun v y wr => ∃ (k s e : Nat) (A2 A3 : Option Addr) (c2 c3 : Nat), s = k + 1 ∧ s ≤ n ∧ y = .int .i64 (s : Int) ∧ v = .slice A3 s c3 ∧ OwL wr w.heap.size wr.heap.size A3 s (tF L M k) ∧ RcAt wr gb (.slice A n c) (.slice A2 s c2) e ∧ OwL wr w.heap.size wr.heap.size A2 s (tst L k).1 ∧ Fl .f32 e (tst L k).2 ∧ tok L k = true ∧ Ext w wr) (fun _ y _ => n - (intOf y).toNat)
      case atStart =>
        have z1 := blk_lt HBX.out
        have z2 := hx3.size
        have z3 := hxW.size
        exact ⟨0, 1, t1, _, _, _, _, rfl, hpos, rfl, rfl, (own_one_l hr3).more (by omega) (Nat.le_refl _), HBX.out.ext (hx3.alloc _), ((HO1.out.ext (by omega) hx3).ext (by omega) (Ext.alloc (Ext.refl _) _)).more (Nat.le_refl _) (by rw [al_size]; omega), ht1, hG, hxW3.alloc _⟩
      case round =>
        obtain ⟨k, s, e, A2, A3, c2, c3, hs, hsn, rfl, rfl, hF, hbx, hP, fe, htk, hx⟩ := hrel
        by_cases hlt : s < n
        · have hlt' : (s : Int) < (n : Int) := by omega
          have hst := c_step (w := wr) (c := c) (c2 := c2) hbx fe (tok_at htk (Nat.le_refl _)) (h.below (hx.mono hB)) (Nat.le_trans hB hx.size) hn hP.rd (by omega) hlt
          have e1 : fnext (tst L k).1 (fop .quo .f32 (ffs (tst L k).1 L (s : Int) s) (tst L k).2) = (tst L (k + 1)).1 := by rw [hs]; rfl
          have e2 : fop .sub .f32 (tst L k).2 (fop .mul .f32 (fop .quo .f32 (ffs (tst L k).1 L (s : Int) s) (tst L k).2) (ffs (tst L k).1 L (s : Int) s)) = (tst L (k + 1)).2 := by rw [hs]; rfl
          rw [e1, e2] at hst
          have HST := Lib.hid hst
          have HFX := Lib.hid hF
          have HBX2 := Lib.hid hbx
          have hspos : 0 < s := by omega
          have HS := Lib.hid hs
          have HTK := Lib.hid htk
          have hFl := Lib.hid (tF_len L M k)
          clear hst e1 e2 hF hbx hP hs htk
          go_wp2_with (go_at_call 56; refine Calls.mono HST.out ?_; rintro z w4 ⟨r4, e4, A4, c4, rfl, hb4, ho4, fe4, hkb⟩)
          have hx4 : Ext w w4 := hkb.ext hx hgw
          have hF4 := HFX.out.off HBX2.out (by decide) hkb
          obtain ⟨a0, a1, a2⟩ := hb4.c
          obtain ⟨b5, o5, t5, hA5, hb5, hc5, ht5⟩ := (h'.below (hx4.mono hB')).cell hlt
          simp only [Option.some.injEq, Addr.mk.injEq, and_true] at hA5
          obtain ⟨rfl, rfl⟩ := hA5
          have hsz4 := hkb.below.size
          have HFA := Lib.hid (fun (W : World) (hW : Dr w4 W) => c_foldAtH (w := W) (k := (s : Int)) (c := c3) (c' := c) ((hF4.rd.more hsz4).below (Dr.below hW)) (by omega) (RdF.below (h.below (hx4.mono hB)) ((Dr.below hW).mono (Nat.le_trans hB hx4.size))) hn (by omega) (by omega))
          have HWZ := Lib.hid (fun (W : World) (hW : Ext w4 W) => c_withZero (w := W) (c := c3) ((hF4.rd.more hsz4).below hW) hW.size (by omega) hspos)
          obtain ⟨G, hG5⟩ : ∃ G, ffs (tF L M k) L (s : Int) s = G := ⟨_, rfl⟩
          have HG5 := Lib.hid hG5
          have hT : tT L M (tF L M k) k = fop .quo .f32 (fop .sub .f32 (M.getD s none) G) (tst L (k + 1)).2 := by rw [← hG5, HS.out]; rfl
          have HT := Lib.hid hT
          have HB4 := Lib.hid hb4
          have HO4 := Lib.hid ho4
          have HF4 := Lib.hid hF4
          have hlF : (tF L M k).length = s := by rw [hFl.out, HS.out]
          have HLF := Lib.hid hlF
          clear hG5 hT ho4 hF4 hlF hb4
          go_cut [13, 14] from 50 to 63 (fun tx ux wx => ∃ r7, tx = .float .f32 r7 ∧ ux = .bool (gt0 (tst L (k + 1)).2) ∧ Fl .f32 r7 (if gt0 (tst L (k + 1)).2 then tT L M (tF L M k) k else fz) ∧ Ext w4 wx)
          case first =>
            go_region_with (first | (go_at_call 57; refine Calls.mono (HFA.out _ (by first | exact ⟨_, rfl⟩ | exact ⟨1, rfl⟩)) ?_; rw [HG5.out]; rintro z w5 ⟨r5, rfl, hr5, n5, rfl⟩) | (apply upon_fop rfl; (exact ht5); (exact hr5); intro r6 n6 hr6) | (go_at_call 55; refine Calls.mono (c_share fe4 hr6) ?_; rw [← HT.out]; rintro z w6 ⟨r7, rfl, hr7, hx7⟩))
            all_goals
              go_wp2_with (fail)
              go_meet
              exact ⟨_, rfl, rfl, hr7, (by repeat (first | assumption | exact Ext.refl _ | apply Ext.drewN | apply Ext.drew | apply Ext.alloc | (refine Ext.trans ?_ (by assumption)) | (refine Ext.set ?_ (by dsimp only; omega) _)))⟩
          case rest =>
            obtain ⟨r7, rfl, rfl, hr7, hx46⟩ := hcut
            cases hG' : gt0 (tst L (k + 1)).2
            · have HTN : Hid (tok L (n - 1) = false) := Lib.hid (tok_no (j := k + 1) hG' (by have := HS.out; omega))
              rw [hG'] at hr7
              go_wp2_with (fail)
              go_ret2
              exact retL_no HTN.out (hx4.trans hx46)
            · rw [hG'] at hr7
              simp only [if_true] at hr7
              have HB6 := Lib.hid (HB4.out.ext hx46)
              have d1 := HB6.out.c.2.1
              go_wp2_with (fail)
              go_region_with (first | (go_at_call 60; refine Calls.mono (HWZ.out _ (by repeat (first | assumption | exact Ext.refl _ | apply Ext.drewN | apply Ext.drew | apply Ext.alloc | (refine Ext.trans ?_ (by assumption)) | (refine Ext.set ?_ (by dsimp only; omega) _)))) ?_; rintro z w8 ⟨v8, rfl, ho8, hx8⟩; have hx48 : Ext w4 w8 := (by repeat (first | assumption | exact Ext.refl _ | apply Ext.drewN | apply Ext.drew | apply Ext.alloc | (refine Ext.trans ?_ (by assumption)) | (refine Ext.set ?_ (by dsimp only; omega) _))); obtain ⟨A8, c8, rfl, ho9⟩ := ho8.owl; rw [lst_self (app_zero_len HLF.out)] at ho9; have d2 := (HB4.out.ext hx48).c.2.1; have HPM := Lib.hid (fun (W : World) (hW : Ext w8 W) => c_plusMirrored (w := W) (c := c8) (c' := c4) (ho9.rd.below hW) hW.size (by omega) (by omega) (HO4.out.rd.below ((hx48.trans hW))) (hx48.trans hW).size hr7); clear ho8 ho9) | (go_at_call 59; refine Calls.mono (HPM.out _ (by repeat (first | assumption | exact Ext.refl _ | apply Ext.drewN | apply Ext.drew | apply Ext.alloc | (refine Ext.trans ?_ (by assumption)) | (refine Ext.set ?_ (by dsimp only; omega) _)))) ?_; rintro z w9 ⟨A9, c9, rfl, ho9, hx9⟩))
              all_goals
                go_wp2_with (fail)
                have hx89 : Ext w w9 := (by repeat (first | assumption | exact Ext.refl _ | apply Ext.drewN | apply Ext.drew | apply Ext.alloc | (refine Ext.trans ?_ (by assumption)) | (refine Ext.set ?_ (by dsimp only; omega) _)))
                have hx49 : Ext w4 w9 := hx48.trans hx9
                have e9 : lst (fplus (tF L M k ++ [fz]) (tT L M (tF L M k) k) (tst L (k + 1)).1) (s + 1) = tF L M (k + 1) := by rw [HS.out]; rfl
                rw [e9] at ho9
                have z1 := hx.size
                have z2 := hx49.size
                have z4 := hx48.size
                exact ⟨⟨k + 1, s + 1, e4, A4, A9, c4, c9, by have := HS.out; omega, hlt, by go_num, rfl, ho9.more (by omega) (Nat.le_refl _), HB4.out.ext hx49, (HO4.out.ext (Nat.le_refl _) hx49).more z1 z2, fe4, tok_s HTK.out hG', hx89⟩, by simp [intOf]; omega⟩
        · have hsn2 : s = n := by omega
          subst hsn2
          have hkn : s - 1 = k := by omega
          rw [← hkn] at hF htk
          have HFX := Lib.hid hF
          have HTK := Lib.hid htk
          clear hF htk
          go_wp2_with (fail)
          go_ret2
          rw [HTK.out]
          exact ⟨_, _, _, rfl, HFX.out, hx⟩
end Go.Proofs.Ytceldjkgddbfaab
