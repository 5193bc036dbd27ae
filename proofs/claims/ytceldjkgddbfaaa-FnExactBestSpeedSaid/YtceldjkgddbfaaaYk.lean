/- Contracts: how much traces are alike, on both sides, with their success. Condition: the gather is read. -/
import Derived.Test.YtceldjkgddbfaaaYj
import Derived.Test.YtceldjkgddbfaaaWe
namespace Go.Proofs.Ytceldjkgddbfaaa
open Go.RowKit Ieee

set_option maxRecDepth 20000 in
set_option maxHeartbeats 8000000 in
theorem c_im_SemNo {w : World} {B n m cp ct : Nat} {i r : Int} {Ap At : Option Addr} {G : Gat} (hp0 : RdF w B Ap n G.p) (hr0 : RdS w B At m G.r) (hB : B ≤ w.heap.size) (h1 : n ≤ 1048576) (h2 : m ≤ 1048576) (h3 : ∀ j, j < m → (G.r.getD j []).length ≤ 1048576) (hno : (fvG G && okW G.t i r) = false) :
    Calls Try.prog 88 #[.agg #[.int .i64 G.t, .slice Ap n cp, .slice At m ct], .int .i64 i, .int .i64 r] w fun e w' => RetY w e w' fz false := by
  have hbox : GbAt (w.alloc (.cells #[.int .i64 G.t, .slice Ap n cp, .slice At m ct] 25)) w.heap.size G.t Ap n cp At m ct := GbAt.blk (T := 25) (by repeat (first | (refine al_at ?_ ?_ <;> first | rfl | (simp only [al_size] <;> omega)) | apply al_old))
  have hp := hp0.below (Below.mono (w := w) (w' := w.alloc (.cells #[.int .i64 G.t, .slice Ap n cp, .slice At m ct] 25)) (by repeat (first | assumption | exact Ext.refl _ | apply Ext.drewN | apply Ext.drew | apply Ext.alloc | (refine Ext.trans ?_ (by assumption)) | (refine Ext.set ?_ (by dsimp only; omega) _))) hB)
  have hr := hr0.below (Below.mono (w := w) (w' := w.alloc (.cells #[.int .i64 G.t, .slice Ap n cp, .slice At m ct] 25)) (by repeat (first | assumption | exact Ext.refl _ | apply Ext.drewN | apply Ext.drew | apply Ext.alloc | (refine Ext.trans ?_ (by assumption)) | (refine Ext.set ?_ (by dsimp only; omega) _))) hB)
  have cV := c_valid (cp := cp) (ct := ct) hp hr (Nat.le_trans hB (by simp)) h1 h2 h3
  cases hV : fvG G
  · rw [hV] at cV
    go_enter Try.func88, Try.ntmps88
    go_wp2_with (go_at_call 57; refine Calls.mono cV ?_; rintro e w1 ⟨rfl, hx1⟩)
    go_ret2
    exact ⟨_, rfl, fl_fz, (by repeat (first | assumption | exact Ext.refl _ | apply Ext.drewN | apply Ext.drew | apply Ext.alloc | (refine Ext.trans ?_ (by assumption)) | (refine Ext.set ?_ (by dsimp only; omega) _)))⟩
  rw [hV] at cV hno
  rw [Bool.true_and] at hno
  have cW := fun W => c_isWindow (w := W) (t := G.t) (i := i) (r := r) (Ap := Ap) (At := At) (n := n) (cp := cp) (m := m) (ct := ct)
  rw [hno] at cW
  have CW := Lib.hid cW
  clear cW
  go_enter Try.func88, Try.ntmps88
  go_wp2_with (first | (go_at_call 57; refine Calls.mono cV ?_; rintro e w1 ⟨rfl, hx1⟩; obtain ⟨p0, p1, p2, _⟩ := hbox.ext hx1) | (go_at_call 113; refine Calls.mono (CW.out _) ?_; rintro e w2 ⟨rfl, hx2⟩))
  go_ret2
  exact ⟨_, rfl, fl_fz, (by repeat (first | assumption | exact Ext.refl _ | apply Ext.drewN | apply Ext.drew | apply Ext.alloc | (refine Ext.trans ?_ (by assumption)) | (refine Ext.set ?_ (by dsimp only; omega) _)))⟩
set_option maxRecDepth 20000 in
set_option maxHeartbeats 40000000 in
theorem c_im_SemYes {w : World} {B n m cp ct : Nat} {i r : Int} {Ap At : Option Addr} {G : Gat} (hp0 : RdF w B Ap n G.p) (hr0 : RdS w B At m G.r) (hB : B ≤ w.heap.size) (h1 : n ≤ 1048576) (h2 : m ≤ 1048576) (h3 : ∀ j, j < m → (G.r.getD j []).length ≤ 1048576) (hV : fvG G = true) {T lo d : Nat} (hTt : G.t = (T : Int)) (hw : Win T i r lo d) (hd : 0 < d) (hdT : lo + d ≤ T) :
    Calls Try.prog 88 #[.agg #[.int .i64 G.t, .slice Ap n cp, .slice At m ct], .int .i64 i, .int .i64 r] w fun e w' => RetY w e w' (fsem G.r m lo d) true := by
  have hbox : GbAt (w.alloc (.cells #[.int .i64 G.t, .slice Ap n cp, .slice At m ct] 25)) w.heap.size G.t Ap n cp At m ct := GbAt.blk (T := 25) (by repeat (first | (refine al_at ?_ ?_ <;> first | rfl | (simp only [al_size] <;> omega)) | apply al_old))
  have hp := hp0.below (Below.mono (w := w) (w' := w.alloc (.cells #[.int .i64 G.t, .slice Ap n cp, .slice At m ct] 25)) (by repeat (first | assumption | exact Ext.refl _ | apply Ext.drewN | apply Ext.drew | apply Ext.alloc | (refine Ext.trans ?_ (by assumption)) | (refine Ext.set ?_ (by dsimp only; omega) _))) hB)
  have hr := hr0.below (Below.mono (w := w) (w' := w.alloc (.cells #[.int .i64 G.t, .slice Ap n cp, .slice At m ct] 25)) (by repeat (first | assumption | exact Ext.refl _ | apply Ext.drewN | apply Ext.drew | apply Ext.alloc | (refine Ext.trans ?_ (by assumption)) | (refine Ext.set ?_ (by dsimp only; omega) _))) hB)
  have cV := c_valid (cp := cp) (ct := ct) hp hr (Nat.le_trans hB (by simp)) h1 h2 h3
  rw [hV] at cV
  have hvg := fvG_of hV
  have hm := hr0.len
  have hTb : T ≤ 64 := by have := hvg.t2; rw [hTt] at this; omega
  have hT1 : 0 < T := by have := hvg.t1; rw [hTt] at this; omega
  have hm1 : 0 < m := by have := hvg.n1; have := hvg.m; omega
  have hm16 : m ≤ 16 := by have := hvg.n2; have := hvg.m; omega
  have hrow : ∀ j, j < m → (G.r.getD j []).length = T := fun j hj => by have := hvg.row j (by omega); rw [hTt] at this; omega
  have cW := fun W => c_isWindow (w := W) (t := G.t) (i := i) (r := r) (Ap := Ap) (At := At) (n := n) (cp := cp) (m := m) (ct := ct)
  rw [hTt] at hbox hp hr cV cW ⊢
  rw [okW_yes hw.i0 hw.i1 hw.r0 hw.r1] at cW
  have CW := Lib.hid cW
  have HROW := Lib.hid hrow
  have hmk := fun W => run_make_row' (P := Try.prog) 23 22 (.slice none 0 0) 24 Try.underlying23 info_f32s rfl .i64 .i64 m (by omega) (by omega) W
  obtain ⟨g0, g1, g2, g3, g4, g5⟩ := hw
  have G4 := Lib.hid g4
  have G5 := Lib.hid g5
  have hw1 : IntKind.i64.wrap (i - r) = i - r := IntWalk.i64_in _ (by omega)
  have hw2 : IntKind.i64.wrap (i + r) = i + r := IntWalk.i64_in _ (by omega)
  have hw3 : IntKind.i64.wrap (i + r + 1) = i + r + 1 := IntWalk.i64_in _ (by omega)
  clear cW hvg hrow hTt g4 g5
  go_enter Try.func88, Try.ntmps88
  go_wp2_with (first | (go_at_call 57; refine Calls.mono cV ?_; rintro e w1 ⟨rfl, hx1⟩; obtain ⟨p0, p1, p2, _⟩ := hbox.ext hx1) | (go_at_call 113; refine Calls.mono (CW.out _) ?_; rintro e w2 ⟨rfl, hx2⟩; obtain ⟨p3, p4, p5, _⟩ := hbox.ext (hx1.trans hx2)))
  have hx02 : Ext w w2 := Ext.trans (by repeat (first | assumption | exact Ext.refl _ | apply Ext.drewN | apply Ext.drew | apply Ext.alloc | (refine Ext.trans ?_ (by assumption)) | (refine Ext.set ?_ (by dsimp only; omega) _))) (hx1.trans hx2)
  have hxb2 := hx1.trans hx2
  clear p0 p1 p2 p3 p4 p5
  go_loopw [35] (fun y wr => ∃ (k : Nat) (cs : Array Value), k ≤ m ∧ y = .int .i64 k ∧ wr.heap[w2.heap.size]? = some (.cells cs 22 (0, 0)) ∧ cs.size = m ∧ (∀ j, j < k → ∃ A', cs[j]? = some (.slice A' d d) ∧ RdF w B A' d (lst (fun t => (G.r.getD j []).getD (lo + t) none) d)) ∧ Ext w2 wr) (fun y _ => m - (intOf y).toNat)
  case atStart => exact ⟨0, _, Nat.zero_le _, rfl, heap_alloc_new w2 _, size_madeCells _ _, fun j hj => absurd hj (Nat.not_lt_zero _), (by repeat (first | assumption | exact Ext.refl _ | apply Ext.drewN | apply Ext.drew | apply Ext.alloc | (refine Ext.trans ?_ (by assumption)) | (refine Ext.set ?_ (by dsimp only; omega) _)))⟩
  case round =>
    obtain ⟨k, cs, hk, rfl, hgk, hsz, hps, hx⟩ := hrel
    have HP := Lib.hid hps
    have HG := Lib.hid hgk
    have HZ := Lib.hid hsz
    clear hps hgk hsz
    by_cases hlt : k < m
    · have hlt' : (k : Int) < (m : Int) := by omega
      obtain ⟨p0, p1, p2, _⟩ := hbox.ext (hxb2.trans hx)
      obtain ⟨b1, o1, A1, c1, rfl, hb1, hc1, hr1, hl1⟩ := hr0.cell hlt
      rw [HROW.out k hlt] at hc1 hr1 hl1
      obtain ⟨b2, o2, t2, rfl, _⟩ := hr1.cell hT1
      have hc1 := ((hx02.trans hx).cell (p := ⟨b1, o1 + k, none⟩) (by dsimp only; omega)).trans hc1
      obtain ⟨u0, e0, z0⟩ := own_cell HG.out HZ.out hlt
      have cO := fun W => c_windowOf (c := c1) (i := i - r) (j := i + r + 1) (lo := lo) (d := d) (b := b2) (off := o2) (n := T) (w := W) hTb hl1 G4.out G5.out hd
      have CO := Lib.hid cO
      have hsub := Lib.hid (hr1.sub hdT)
      clear cO hr1
      go_wp2_with (go_at_call 114; refine Calls.mono (CO.out _) ?_; rintro e w5 ⟨rfl, rfl⟩)
      exact ⟨⟨k + 1, _, by omega, by go_num, blk_set1 HG.out k _, by rw [Array.size_setIfInBounds]; exact HZ.out, fun j hj => by
        by_cases hjk : j = k
        · subst hjk; exact ⟨_, by simp [HZ.out, hlt], hsub.out⟩
        · obtain ⟨A', e1, e2⟩ := HP.out j (by omega)
          exact ⟨A', by rw [Array.getElem?_setIfInBounds, if_neg (fun e => hjk e.symm)]; exact e1, e2⟩, (by repeat (first | assumption | exact Ext.refl _ | apply Ext.drewN | apply Ext.drew | apply Ext.alloc | (refine Ext.trans ?_ (by assumption)) | (refine Ext.set ?_ (by dsimp only; omega) _)))⟩, by simp [intOf]; omega⟩
    · obtain rfl : k = m := by omega
      have hrd : ∀ j, j < k → ∃ A', wr.cell? ⟨w2.heap.size, j, none⟩ = some (.slice A' d d) ∧ RdF wr B A' d (lst (fun t => (G.r.getD j []).getD (lo + t) none) d) := fun j hj => by
        obtain ⟨A', e1, e2⟩ := HP.out j hj
        exact ⟨A', by rw [cell_of_row wr _ _ cs _ (0, 0) HG.out]; exact e1, e2.below ((hx02.trans hx).mono hB)⟩
      have HRD := Lib.hid hrd
      have hxw : Ext w wr := hx02.trans hx
      obtain ⟨A0, hA0, _⟩ := hrd 0 hm1
      have hm1' : (0 : Int) < (k : Int) := by omega
      clear HP HG HZ hrd
      go_wp2_with (fail)
      go_loopw [11, 12, 57] (fun s u y wq => ∃ (j x z q : Nat), j ≤ d ∧ y = .int .i64 j ∧ s = .float .f32 x ∧ u = .float .f32 z ∧ Fl .f32 x (ftop G.r k lo j) ∧ Fl .f32 z (fbot G.r k lo j) ∧ wq = wr.drewN q) (fun _ _ y _ => d - (intOf y).toNat)
      case atStart => exact ⟨0, 0, 0, 0, Nat.zero_le _, rfl, rfl, rfl, fl_fz, fl_fz, rfl⟩
      case round =>
        obtain ⟨j, x, z, q, hj, rfl, rfl, rfl, hfx, hfz, rfl⟩ := hrel
        by_cases hld : j < d
        · have hld' : (j : Int) < (d : Int) := by omega
          have hF : ftop G.r k lo (j + 1) = fop .add .f32 (ftop G.r k lo j) (fop .mul .f32 (fcs G.r (lo + j) k) (fcs G.r (lo + j) k)) := rfl
          have HF := Lib.hid hF
          clear hF
          go_wp2_with (fail)
          go_loopw [14, 12, 62] (fun s u y wi => ∃ (t v z q2 : Nat), t ≤ k ∧ y = .int .i64 t ∧ s = .float .f32 v ∧ u = .float .f32 z ∧ Fl .f32 v (fcs G.r (lo + j) t) ∧ Fl .f32 z (fbotr G.r (lo + j) (fbot G.r k lo j) t) ∧ wi = wr.drewN q2) (fun _ _ y _ => k - (intOf y).toNat)
          case atStart => exact ⟨0, 0, z, q, Nat.zero_le _, rfl, rfl, rfl, fl_fz, hfz, rfl⟩
          case round =>
            obtain ⟨t, v, z, q2, ht, rfl, rfl, rfl, hv, hz2, rfl⟩ := hrel
            by_cases hlk : t < k
            · have hlk' : (t : Int) < (k : Int) := by omega
              obtain ⟨A', hca, hra⟩ := HRD.out t hlk
              obtain ⟨b3, o3, t3, rfl, hb3, hc3, ht3⟩ := hra.cell hld
              rw [lst_at hld] at ht3
              have hG1 : fcs G.r (lo + j) (t + 1) = fop .add .f32 (fcs G.r (lo + j) t) ((G.r.getD t []).getD (lo + j) none) := rfl
              have hG2 : fbotr G.r (lo + j) (fbot G.r k lo j) (t + 1) = fop .add .f32 (fbotr G.r (lo + j) (fbot G.r k lo j) t) (fop .mul .f32 ((G.r.getD t []).getD (lo + j) none) ((G.r.getD t []).getD (lo + j) none)) := rfl
              have HG1 := Lib.hid hG1
              have HG2 := Lib.hid hG2
              clear hG1 hG2 hra
              go_wp2_with (apply upon_fop rfl; (exact hv); (exact ht3); intro r6 n6 hr6; rw [← HG1.out] at hr6)
              refine wp_region_loose 11 (by kernel_rfl) (by kernel_rfl) ?_
              simp only [List.take_succ_cons, List.take_zero, List.drop_succ_cons, List.drop_zero]
              refine la_start ?_
              refine la_fix _ (by rfl) (by intros; go_simp; rfl) ?_
              try simp only [Act.put, List.setIfInBounds_toArray, List.set_cons_zero, List.set_cons_succ]
              refine la_fix _ (by rfl) (by intros; go_simp; rfl) ?_
              try simp only [Act.put, List.setIfInBounds_toArray, List.set_cons_zero, List.set_cons_succ]
              refine la_fix _ (by rfl) (by intros; go_simp; rfl) ?_
              try simp only [Act.put, List.setIfInBounds_toArray, List.set_cons_zero, List.set_cons_succ]
              refine la_fix _ (by rfl) (by intros; go_simp; rfl) ?_
              try simp only [Act.put, List.setIfInBounds_toArray, List.set_cons_zero, List.set_cons_succ]
              refine la_fix _ (by rfl) (by intros; go_simp; rfl) ?_
              try simp only [Act.put, List.setIfInBounds_toArray, List.set_cons_zero, List.set_cons_succ]
              refine la_fix _ (by rfl) (by intros; go_simp; rfl) ?_
              try simp only [Act.put, List.setIfInBounds_toArray, List.set_cons_zero, List.set_cons_succ]
              refine la_fix _ (by rfl) (by intros; go_simp; rfl) ?_
              try simp only [Act.put, List.setIfInBounds_toArray, List.set_cons_zero, List.set_cons_succ]
              refine la_fix _ (by rfl) (by intros; go_simp; rfl) ?_
              try simp only [Act.put, List.setIfInBounds_toArray, List.set_cons_zero, List.set_cons_succ]
              refine la_fix _ (by rfl) (by intros; go_simp; rfl) ?_
              try simp only [Act.put, List.setIfInBounds_toArray, List.set_cons_zero, List.set_cons_succ]
              refine la_callF (k := .f32) (by rfl) (by intros; refine ⟨_, fun q => (by go_simp; first | rfl | exact ⟨rfl, rfl⟩), fun q => ?_⟩; exact c_mulNumbers ht3 ht3 _) ?_
              try simp only [Act.put, List.setIfInBounds_toArray, List.set_cons_zero, List.set_cons_succ]
              refine la_fop (op := .add) (by rfl) (by rfl) (by intros; refine ⟨_, _, ?_, ?_, fun q => (by go_simp; rfl)⟩ <;> (first | assumption | exact fl_fu | exact fl_fz)) ?_
              try simp only [Act.put, List.setIfInBounds_toArray, List.set_cons_zero, List.set_cons_succ]
              refine la_end ?_
              intro r7 hr7 r8 hr8 q3
              rw [← HG2.out] at hr8
              go_wp2_with (fail)
              exact ⟨⟨t + 1, r6, r8, _, by omega, by go_num, rfl, rfl, hr6, hr8, by first | rfl | exact World.drewN_drewN _ _ _⟩, by simp [intOf]; omega⟩
            · obtain rfl : t = k := by omega
              have hfb : Fl .f32 z (fbot G.r t lo (j + 1)) := hz2
              go_wp2_with (first | (go_at_call 104; refine Calls.mono (c_mulNumbers hv hv _) ?_; rintro e w7 ⟨r7, rfl, hr7, n7, rfl⟩) | (apply upon_fop rfl; (exact hfx); (exact hr7); intro r8 n8 hr8; rw [← HF.out] at hr8))
              exact ⟨⟨j + 1, r8, z, _, by omega, by go_num, rfl, rfl, hr8, hfb, rfl⟩, by simp [intOf]; omega⟩
        · obtain rfl : j = d := by omega
          have hmn := mk_int k
          cases hZ : gt0 (fprod G.r k lo j)
          · have hFS := Lib.hid (fsem_off hZ)
            have HZ := Lib.hid hZ
            clear hZ
            go_wp2_with (first | (go_at_call 104; refine Calls.mono (c_mulNumbers (fl_mk k) hfz _) ?_; rintro e w7 ⟨r7, rfl, hr7, n7, rfl⟩; have hg0 := hr7.ogt0; rw [show gt0 (fop .mul .f32 (some (mk k)) (fbot G.r k lo j)) = false from HZ.out] at hg0))
            go_ret2
            exact ⟨_, rfl, by rw [hFS.out]; exact fl_fz, (by repeat (first | assumption | exact Ext.refl _ | apply Ext.drewN | apply Ext.drew | apply Ext.alloc | (refine Ext.trans ?_ (by assumption)) | (refine Ext.set ?_ (by dsimp only; omega) _)))⟩
          · have hFS := Lib.hid (fsem_on hZ)
            have HZ := Lib.hid hZ
            clear hZ
            go_wp2_with (first | (go_at_call 104; refine Calls.mono (c_mulNumbers (fl_mk k) hfz _) ?_; rintro e w7 ⟨r7, rfl, hr7, n7, rfl⟩; have hg0 := hr7.ogt0; rw [show gt0 (fop .mul .f32 (some (mk k)) (fbot G.r k lo j)) = true from HZ.out] at hg0) | (apply upon_fop rfl; (exact hfx); (exact hr7); intro r8 n8 hr8))
            go_ret2
            exact ⟨_, rfl, by rw [hFS.out]; exact hr8, (by repeat (first | assumption | exact Ext.refl _ | apply Ext.drewN | apply Ext.drew | apply Ext.alloc | (refine Ext.trans ?_ (by assumption)) | (refine Ext.set ?_ (by dsimp only; omega) _)))⟩
end Go.Proofs.Ytceldjkgddbfaaa
