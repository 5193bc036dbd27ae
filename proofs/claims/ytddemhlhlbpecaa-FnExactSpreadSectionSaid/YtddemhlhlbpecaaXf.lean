/- Contracts: sums of sections, products of sections and numbers, the reference. Condition: the sections are read. -/
import Derived.Test.YtddemhlhlbpecaaXe
import Derived.Test.YtddemhlhlbpecaaLo2
namespace Go.Proofs.Ytddemhlhlbpecaa
open Go.RowKit Go.ChangeShapes Go.WideShapes Go.Deep Ieee
set_option linter.unusedVariables false
set_option linter.unusedSimpArgs false

/-- The first numbers are new. -/
def fmix (F G : Nat → Option Nat) (k j : Nat) : Option Nat := if j < k then F j else G j
theorem fmix_zero (F G : Nat → Option Nat) (j : Nat) : G j = fmix F G 0 j := by unfold fmix; rw [if_neg (by omega)]
theorem fmix_cur {F G : Nat → Option Nat} {k : Nat} : fmix F G k k = G k := by unfold fmix; rw [if_neg (by omega)]
theorem fmix_new {F G : Nat → Option Nat} {k : Nat} : fmix F G (k + 1) k = F k := by unfold fmix; rw [if_pos (by omega)]
theorem fmix_other {F G : Nat → Option Nat} {k j : Nat} (h : j ≠ k) : fmix F G k j = fmix F G (k + 1) j := by
  unfold fmix
  by_cases h1 : j < k
  · rw [if_pos h1, if_pos (by omega)]
  · rw [if_neg h1, if_neg (by omega)]
theorem fmix_all {F G : Nat → Option Nat} {n j : Nat} (h : j < n) : fmix F G n j = F j := by unfold fmix; rw [if_pos h]
theorem RowF.setX {cs : Array Value} {n t r : Nat} {F G : Nat → Option Nat} (h : RowF cs n F) (hs : n ≤ cs.size) (ht : t < n) (hr : Fl .f32 r (G t)) (hFG : ∀ j, j < n → j ≠ t → F j = G j) : RowF (cs.setIfInBounds t (.float .f32 r)) n G := by
  intro j hj
  by_cases h1 : j = t
  · subst h1
    exact ⟨r, by rw [Array.getElem?_setIfInBounds, if_pos rfl, if_pos (by omega)], hr⟩
  · obtain ⟨q, e1, e2⟩ := h j hj
    exact ⟨q, by rw [Array.getElem?_setIfInBounds, if_neg (fun e => h1 e.symm)]; exact e1, by rw [← hFG j hj h1]; exact e2⟩
theorem twoT_of {S U : Sct} (h : twoT S U = true) : fvT S = true ∧ fvT U = true ∧ S.x = U.x ∧ S.z = U.z := by
  unfold twoT at h
  simp only [Bool.and_eq_true, decide_eq_true_eq] at h
  exact ⟨h.1, h.2.1, h.2.2.1, h.2.2.2⟩
/-- A valid section's sizes: natural numbers. -/
theorem fvT_nat {x z : Int} {L : List (Option Nat)} (h : fvT ⟨x, z, L⟩ = true) : ∃ a b : Nat, x = (a : Int) ∧ z = (b : Int) ∧ 1 ≤ a ∧ a ≤ 16 ∧ 1 ≤ b ∧ b ≤ 16 ∧ a * b = L.length ∧ 1 ≤ L.length ∧ L.length ≤ 256 ∧ (a : Int) * (b : Int) = (L.length : Int) := by
  obtain ⟨a, b, n, e1, e2, e3, e4, e5, e6, e7, e8, e9, e10, e11⟩ := fvT_of h
  dsimp only at e1 e2 e3
  subst e3
  exact ⟨a, b, e1, e2, e4, e5, e6, e7, e8, e9, e10, e11⟩
set_option maxRecDepth 20000 in
set_option maxHeartbeats 8000000 in
theorem c_spec_AddSections {w : World} {B : Nat} {u : Value} {S : Sct} (h : RdT w B u S) (hB : B ≤ w.heap.size) (za : S.v.length ≤ 1048576) (hok : S.Ok) {B' : Nat} {u' : Value} {U : Sct} (h' : RdT w B' u' U) (hB' : B' ≤ w.heap.size) (za' : U.v.length ≤ 1048576) (hok' : U.Ok) :
    Calls Try.prog 27 #[u, u'] w fun e w' => RetT w e w' (twoT S U) (outT (twoT S U) ⟨S.x, S.z, lst (fadd2 S.v U.v) S.v.length⟩) := by
  obtain ⟨A, c, rfl, hp, _⟩ := h.ex
  obtain ⟨A', c', rfl, hp', _⟩ := h'.ex
  clear h'
  clear h
  obtain ⟨x, z, L⟩ := S
  obtain ⟨x', z', L'⟩ := U
  dsimp only at hp' za'
  dsimp only at hp za ⊢
  obtain ⟨W1, hW1⟩ : ∃ W1, W1 = ((w.alloc (.cells #[.int .i64 x, .int .i64 z, .slice A L.length c] 38)).alloc (.cells #[.int .i64 x', .int .i64 z', .slice A' L'.length c'] 38)).alloc (.cells #[.int .i64 0, .int .i64 0, .slice none 0 0] 38) := ⟨_, rfl⟩
  have hx1 : Ext w W1 := by rw [hW1]; exact (by repeat (first | assumption | exact Ext.refl _ | apply Ext.drewN | apply Ext.drew | apply Ext.alloc | (refine Ext.trans ?_ (by assumption)) | (refine Ext.set ?_ (by dsimp only; omega) _)))
  have hbox : SbAt W1 w.heap.size x z A L.length c := by rw [hW1]; exact SbAt.blk (T := 38) (by repeat (first | (refine al_at ?_ ?_ <;> first | rfl | (simp only [al_size] <;> omega)) | apply al_old))
  have hz1 : W1.heap[w.heap.size + 1 + 1]? = some (.cells #[.int .i64 0, .int .i64 0, .slice none 0 0] 38 (0, 0)) := by rw [hW1]; exact al_at (by simp only [al_size]) rfl
  have hs1 : W1.heap.size = w.heap.size + 1 + 1 + 1 := by rw [hW1]; simp only [al_size]
  have HZ1 := Lib.hid hz1
  have HP := Lib.hid hp
  have HBX := Lib.hid hbox
  clear hz1 hp hbox
  have hbox' : SbAt W1 (w.heap.size + 1) x' z' A' L'.length c' := by rw [hW1]; exact SbAt.blk (T := 38) (al_old (al_at (al_size _ _).symm rfl))
  have HP' := Lib.hid hp'
  have HBX' := Lib.hid hbox'
  clear hp' hbox'
  cases hV : twoT ⟨x, z, L⟩ ⟨x', z', L'⟩
  · go_enter Try.func27, Try.ntmps27
    go_wp2_with (fail)
    rw [← hW1]
    clear hW1
    obtain ⟨c0, c1, c2, x0, x1, x2⟩ := three_c HZ1.out
    go_wp2_with ((go_at_call 73; refine Calls.mono (c_l06Two (S := ⟨_, _, L⟩) (U := ⟨_, _, L'⟩) HBX.out rfl HBX'.out rfl za za') ?_; rw [hV]; rintro e w1 ⟨rfl, n1, rfl⟩))
    (try simp only [Exit.inBlock, Exit.then])
    refine bodyPost_ret (results_cellT rfl _ _ (w.heap.size + 1 + 1) 38 #[.int .i64 0, .int .i64 0, .slice none 0 0] (0, 0) _ rfl (by repeat (first | exact HZ1.out | exact blk_set1 (blk_set1 (blk_set1 HZ1.out 0 _) 1 _) 2 _)) Try.underlying38 rfl (by kernel_rfl)) rfl ?_
    exact retT_no rfl (by repeat (first | assumption | exact Ext.refl _ | apply Ext.drewN | apply Ext.drew | apply Ext.alloc | (refine Ext.trans ?_ (by assumption)) | (refine Ext.set ?_ (by dsimp only; omega) _)))
  have HV := Lib.hid hV
  obtain ⟨a, b, rfl, rfl, e4, e5, e6, e7, e8, e9, e10, e11⟩ := fvT_nat ((twoT_of hV).1)
  have hnn : L'.length = L.length := by
    obtain ⟨q1, q2, q3, q4⟩ := twoT_of hV
    obtain ⟨a', b', rfl, rfl, _, _, _, _, _, _, _, i11⟩ := fvT_nat q2
    dsimp only at q3 q4
    rw [← q3, ← q4] at i11
    omega
  have HNN := Lib.hid hnn
  clear hnn
  have E8 := Lib.hid e8
  clear hV e8 e11
  go_enter Try.func27, Try.ntmps27
  go_wp2_with (fail)
  rw [← hW1]
  clear hW1
  obtain ⟨c0, c1, c2, x0, x1, x2⟩ := three_c HZ1.out
  go_wp2_with (first | (go_at_call 73; refine Calls.mono (c_l06Two (S := ⟨_, _, L⟩) (U := ⟨_, _, L'⟩) HBX.out rfl HBX'.out rfl za za') ?_; rw [HV.out]; rintro e w1 ⟨rfl, n1, rfl⟩) | (go_at_call 74; refine Calls.mono (c_l06Own (B := B) (HBX.out.ext (by repeat (first | assumption | exact Ext.refl _ | apply Ext.drewN | apply Ext.drew | apply Ext.alloc | (refine Ext.trans ?_ (by assumption)) | (refine Ext.set ?_ (by dsimp only; omega) _)))) (HP.out.below (Below.mono (by repeat (first | assumption | exact Ext.refl _ | apply Ext.drewN | apply Ext.drew | apply Ext.alloc | (refine Ext.trans ?_ (by assumption)) | (refine Ext.set ?_ (by dsimp only; omega) _))) hB)) (Nat.le_trans hB hx1.size) (by omega) (by omega)) ?_; rintro e w2 ⟨v, rfl, g, cap, cs0, rfl, hg0, hcg, hcap, hcs0, hrow, hx2⟩))
  have hx2' : Ext w w2 := Ext.trans (by repeat (first | assumption | exact Ext.refl _ | apply Ext.drewN | apply Ext.drew | apply Ext.alloc | (refine Ext.trans ?_ (by assumption)) | (refine Ext.set ?_ (by dsimp only; omega) _))) hx2
  have HG0 := Lib.hid hcg
  have HR0 : Hid (RowF cs0 L.length (fmix (fadd2 L L') (fun j => L.getD j none) 0)) := Lib.hid (hrow.keep (fun j _ => fmix_zero (fadd2 L L') (fun j => L.getD j none) j))
  have HZ2 := Lib.hid (hx2.blk (g := w.heap.size + 1 + 1) HZ1.out)
  have hg0' : w.heap.size + 1 + 1 + 1 ≤ g := by rw [← hs1]; exact hg0
  have hs2 : W1.heap.size ≤ w2.heap.size := hx2.size
  have hg2 := blk_lt hcg
  clear hcg hrow c0 c1 c2 x0 x1 x2
  go_loopw [7] (fun y wr => ∃ (k : Nat) (cs : Array Value), k ≤ L.length ∧ y = .int .i64 k ∧ wr.heap[g]? = some (.cells cs 22 (0, 0)) ∧ L.length ≤ cs.size ∧ RowF cs L.length (fmix (fadd2 L L') (fun j => L.getD j none) k) ∧ wr.heap[w2.heap.size]? = some (.cells #[.int .i64 (a : Int), .int .i64 (b : Int), .slice (some ⟨g, 0, none⟩) L.length cap] 38 (0, 0)) ∧ wr.heap[w.heap.size + 1 + 1]? = some (.cells #[.int .i64 0, .int .i64 0, .slice none 0 0] 38 (0, 0)) ∧ Ext w wr ∧ Ext W1 wr) (fun y _ => L.length - (intOf y).toNat)
  case atStart => exact ⟨0, cs0, Nat.zero_le _, rfl, (by repeat (first | exact HG0.out | apply al_old | (refine set_other ?_ (by dsimp only; omega)))), hcs0, HR0.out, (by first | exact heap_alloc_new w2 _ | exact blk_set1 (blk_set1 (blk_set1 (heap_alloc_new w2 _) 0 _) 1 _) 2 _), (by repeat (first | exact HZ2.out | apply al_old | (refine set_other ?_ (by dsimp only; omega)))), (by repeat (first | assumption | exact Ext.refl _ | apply Ext.drewN | apply Ext.drew | apply Ext.alloc | (refine Ext.trans ?_ (by assumption)) | (refine Ext.set ?_ (by dsimp only; omega) _))), (by have hx2x : Ext W1 w2 := Ext.trans (by repeat (first | assumption | exact Ext.refl _ | apply Ext.drewN | apply Ext.drew | apply Ext.alloc | (refine Ext.trans ?_ (by assumption)) | (refine Ext.set ?_ (by dsimp only; omega) _))) hx2; exact (by repeat (first | assumption | exact Ext.refl _ | apply Ext.drewN | apply Ext.drew | apply Ext.alloc | (refine Ext.trans ?_ (by assumption)) | (refine Ext.set ?_ (by dsimp only; omega) _))))⟩
  case round =>
    obtain ⟨k, cs, hk, rfl, hg, hs, hrow, hbx, hzz, hx, hxW⟩ := hrel
    obtain ⟨d0, d1, d2, y0, y1, y2⟩ := three_c hbx
    have HG := Lib.hid hg
    have HS := Lib.hid hs
    have HX := Lib.hid hrow
    have HB := Lib.hid hbx
    have HZ := Lib.hid hzz
    have hs3 := blk_lt hbx
    clear hg hs hrow hbx hzz
    by_cases hlt : k < L.length
    · obtain ⟨u0, f0, f1, f2⟩ := HX.out.cell HG.out hlt
      rw [fmix_cur] at f2
      have hlt' : (k : Int) < (L.length : Int) := by omega
      have HT : Hid (fadd2 L L' k = fop .add .f32 (L.getD k none) (L'.getD k none)) := Lib.hid rfl
      have hlt2 : k < L'.length := by rw [HNN.out]; exact hlt
      have hlt3 : (k : Int) < (L'.length : Int) := by omega
      obtain ⟨b1, o1, t1, rfl, hb1, hc1, ht1⟩ := (HP'.out.below (hx.mono hB')).cell hlt2
      obtain ⟨s0, s1, s2, _⟩ := HBX'.out.ext hxW
      go_wp2_with (fail)
      refine wp_region_loose 15 (by kernel_rfl) (by kernel_rfl) ?_
      simp only [List.take_succ_cons, List.take_zero, List.drop_succ_cons, List.drop_zero]
      refine la_start ?_
      refine la_fix _ (by rfl) (by intros; go_simp; rfl) ?_
      try simp only [Act.put, List.setIfInBounds_toArray, List.set_cons_zero, List.set_cons_succ]
      refine la_fix _ (by rfl) (by intros; go_simp; rfl) ?_
      try simp only [Act.put, List.setIfInBounds_toArray, List.set_cons_zero, List.set_cons_succ]
      refine la_fix _ (by rfl) (by intros; go_simp; rfl) ?_
      try simp only [Act.put, List.setIfInBounds_toArray, List.set_cons_zero, List.set_cons_succ]
      refine la_fix _ (by rfl) (by intros; go_simp; rfl) ?_
      try simp only [Act.put, List.setIfInBounds_toArray, List.set_cons_zero, List.set_cons_succ]
      refine la_fix _ (by rfl) (by intros; go_simp; rfl) ?_
      try simp only [Act.put, List.setIfInBounds_toArray, List.set_cons_zero, List.set_cons_succ]
      refine la_fix _ (by rfl) (by intros; go_simp; rfl) ?_
      try simp only [Act.put, List.setIfInBounds_toArray, List.set_cons_zero, List.set_cons_succ]
      refine la_fix _ (by rfl) (by intros; go_simp; rfl) ?_
      try simp only [Act.put, List.setIfInBounds_toArray, List.set_cons_zero, List.set_cons_succ]
      refine la_fix _ (by rfl) (by intros; go_simp; rfl) ?_
      try simp only [Act.put, List.setIfInBounds_toArray, List.set_cons_zero, List.set_cons_succ]
      refine la_fix _ (by rfl) (by intros; go_simp; rfl) ?_
      try simp only [Act.put, List.setIfInBounds_toArray, List.set_cons_zero, List.set_cons_succ]
      refine la_fix _ (by rfl) (by intros; go_simp; rfl) ?_
      try simp only [Act.put, List.setIfInBounds_toArray, List.set_cons_zero, List.set_cons_succ]
      refine la_fix _ (by rfl) (by intros; go_simp; rfl) ?_
      try simp only [Act.put, List.setIfInBounds_toArray, List.set_cons_zero, List.set_cons_succ]
      refine la_fix _ (by rfl) (by intros; go_simp; rfl) ?_
      try simp only [Act.put, List.setIfInBounds_toArray, List.set_cons_zero, List.set_cons_succ]
      refine la_fix _ (by rfl) (by intros; go_simp; rfl) ?_
      try simp only [Act.put, List.setIfInBounds_toArray, List.set_cons_zero, List.set_cons_succ]
      refine la_fop (op := .add) (by rfl) (by rfl) (by intros; refine ⟨_, _, ?_, ?_, fun q => (by go_simp; rfl)⟩ <;> (first | assumption | exact fl_fu | exact fl_fz)) ?_
      try simp only [Act.put, List.setIfInBounds_toArray, List.set_cons_zero, List.set_cons_succ]
      refine la_fix _ (by rfl) (by intros; go_simp; rfl) ?_
      try simp only [Act.put, List.setIfInBounds_toArray, List.set_cons_zero, List.set_cons_succ]
      refine la_end ?_
      intro r5 hr5 q
      rw [← HT.out] at hr5
      go_wp2_with (fail)
      exact ⟨⟨k + 1, _, by omega, by go_num, blk_set1 (w := World.drewN wr q) HG.out k (.float .f32 r5), by rw [Array.size_setIfInBounds]; exact HS.out, HX.out.setX HS.out hlt (by rw [fmix_new]; assumption) (fun j _ hj => fmix_other hj), set_other (w := World.drewN wr q) HB.out (by dsimp only; omega), set_other (w := World.drewN wr q) HZ.out (by dsimp only; omega), Ext.set (by repeat (first | assumption | exact Ext.refl _ | apply Ext.drewN | apply Ext.drew | apply Ext.alloc | (refine Ext.trans ?_ (by assumption)) | (refine Ext.set ?_ (by dsimp only; omega) _))) (by dsimp only; omega) _, Ext.set (by repeat (first | assumption | exact Ext.refl _ | apply Ext.drewN | apply Ext.drew | apply Ext.alloc | (refine Ext.trans ?_ (by assumption)) | (refine Ext.set ?_ (by dsimp only; omega) _))) (by dsimp only; omega) _⟩, by simp [intOf]; omega⟩
    · obtain rfl : k = L.length := by omega
      obtain ⟨c0, c1, c2, x0, x1, x2⟩ := three_c HZ.out
      have HBZ := Lib.hid (fun u0 u1 u2 => blk_set1 (blk_set1 (blk_set1 HZ.out 0 u0) 1 u1) 2 u2)
      go_wp2_with (fail)
      (try simp only [Exit.inBlock, Exit.then])
      refine bodyPost_ret (results_cellT rfl _ _ (w.heap.size + 1 + 1) 38 #[.int .i64 (a : Int), .int .i64 (b : Int), .slice (some ⟨g, 0, none⟩) L.length cap] (0, 0) _ rfl (HBZ.out _ _ _) Try.underlying38 rfl (by kernel_rfl)) rfl ?_
      exact ⟨_, rfl, by
        show OwT _ _ _ _ ⟨(a : Int), (b : Int), lst (fadd2 L L') L.length⟩
        refine OwT.more (lo := w.heap.size + 1 + 1 + 1) (hi := wr.heap.size) ?_ (by omega) (by simp)
        have h0 : OwT wr (w.heap.size + 1 + 1 + 1) wr.heap.size (.agg #[.int .i64 (a : Int), .int .i64 (b : Int), .slice (some ⟨g, 0, none⟩) L.length cap]) ⟨(a : Int), (b : Int), lst (fadd2 L L') L.length⟩ := OwT.of ((rowF_lst' (HX.out.keep (fun j hj => fmix_all hj)) HG.out HS.out).more hg0' (Nat.le_refl _)) hcap
        repeat (first | exact h0 | (refine OwT.setOther ?_ (by left; dsimp only; omega) _)), (by repeat (first | assumption | exact Ext.refl _ | apply Ext.drewN | apply Ext.drew | apply Ext.alloc | (refine Ext.trans ?_ (by assumption)) | (refine Ext.set ?_ (by dsimp only; omega) _)))⟩
end Go.Proofs.Ytddemhlhlbpecaa
