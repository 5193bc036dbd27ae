/- Contracts: edges of sections, sections made smooth, the reference. Condition: the section is read. -/
import Derived.Test.YtmhfnchpkeeckaaXj
import Derived.Test.YtmhfnchpkeeckaaLo2
import Derived.Test.YtmhfnchpkeeckaaUp
namespace Go.Proofs.Ytmhfnchpkeeckaa
open Go.RowKit Go.ChangeShapes Go.WideShapes Go.Deep Ieee
set_option linter.unusedVariables false
set_option linter.unusedSimpArgs false
attribute [local irreducible] wpQuiet

theorem SbAt.drewN {w : World} {b : Nat} {x z : Int} {A : Option Addr} {n c : Nat} (h : SbAt w b x z A n c) (m : Nat) : SbAt (w.drewN m) b x z A n c := ⟨h.p0, h.p1, h.p2, h.lt⟩
theorem SbAt.dr {w w' : World} {b : Nat} {x z : Int} {A : Option Addr} {n c : Nat} (h : SbAt w b x z A n c) (hd : Dr w w') : SbAt w' b x z A n c := by
  obtain ⟨m, rfl⟩ := hd
  exact h.drewN m
/-- A function of cells, by index. -/
def cellF (a : Nat) (G : Nat → Nat → Option Nat) (j : Nat) : Option Nat := G (j % a) (j / a)
/-- The edge of a cell. -/
def fedge (L : List (Option Nat)) (a b x z : Nat) : Option Nat := fop .mul .f32 k32half (fop .sub .f32 (at2 L a b x ((z : Int) + 1)) (at2 L a b x ((z : Int) - 1)))
/-- The sum of the cells around. -/
def fround (L : List (Option Nat)) (a b x z : Nat) : Option Nat :=
  fop .add .f32 (fop .add .f32 (fop .add .f32 (at2 L a b ((x : Int) - 1) z) (at2 L a b ((x : Int) + 1) z)) (at2 L a b x ((z : Int) - 1))) (at2 L a b x ((z : Int) + 1))
/-- A cell, made smooth. -/
def fsmooth (P : Option Nat) (L : List (Option Nat)) (a b x z : Nat) : Option Nat :=
  fop .add .f32 (fop .mul .f32 (fop .sub .f32 fu P) (at2 L a b x z)) (fop .mul .f32 P (fop .mul .f32 k32quart (fround L a b x z)))
theorem wrap_small (q : Nat) (h : q < 16) : wrap64 (q : Int) = (q : Int) ∧ IntKind.i64.wrap ((q : Int) + 1) = (q : Int) + 1 ∧ IntKind.i64.wrap ((q : Int) - 1) = (q : Int) - 1 ∧ wrap64 ((q : Int) + 1) = (q : Int) + 1 ∧ wrap64 ((q : Int) - 1) = (q : Int) - 1 :=
  ⟨IntWalk.wrap64_in _ (by omega), IntWalk.i64_in _ (by omega), IntWalk.i64_in _ (by omega), IntWalk.wrap64_in _ (by omega), IntWalk.wrap64_in _ (by omega)⟩
theorem cell_small (q : Nat) (h : q < 16) : (-1000 ≤ (q : Int) ∧ (q : Int) ≤ 1000) ∧ (-1000 ≤ (q : Int) + 1 ∧ (q : Int) + 1 ≤ 1000) ∧ (-1000 ≤ (q : Int) - 1 ∧ (q : Int) - 1 ≤ 1000) := by omega
theorem at2_self {L : List (Option Nat)} {a b k : Nat} (ha : 1 ≤ a) (h : k < a * b) : at2 L a b ((k % a : Nat) : Int) ((k / a : Nat) : Int) = L.getD k none := by
  have h1 : k % a < a := Nat.mod_lt _ ha
  have h2 : k / a < b := (Nat.div_lt_iff_lt_mul ha).2 (by rw [Nat.mul_comm]; exact h)
  have h3 := Nat.mod_add_div k a
  generalize k % a = r at *
  generalize k / a = q at *
  unfold at2 clampN
  rw [if_neg (by omega), if_neg (by omega), if_neg (by omega), if_neg (by omega), Int.toNat_natCast, Int.toNat_natCast, h3]
set_option maxRecDepth 20000 in
set_option maxHeartbeats 8000000 in
theorem c_spec_EdgeSection {w : World} {B : Nat} {u : Value} {S : Sct} (h : RdT w B u S) (hB : B ≤ w.heap.size) (za : S.v.length ≤ 1048576) (hok : S.Ok) :
    Calls Try.prog 39 #[u] w fun e w' => RetT w e w' (fvT S) (outT (fvT S) ⟨S.x, S.z, lst (cellF S.x.toNat (fedge S.v S.x.toNat S.z.toNat)) S.v.length⟩) := by
  obtain ⟨A, c, rfl, hp, _⟩ := h.ex
  clear h
  obtain ⟨x, z, L⟩ := S
  dsimp only at hp za ⊢
  obtain ⟨W1, hW1⟩ : ∃ W1, W1 = (w.alloc (.cells #[.int .i64 x, .int .i64 z, .slice A L.length c] 27)).alloc (.cells #[.int .i64 0, .int .i64 0, .slice none 0 0] 27) := ⟨_, rfl⟩
  have hx1 : Ext w W1 := by rw [hW1]; exact (by repeat (first | assumption | exact Ext.refl _ | apply Ext.drewN | apply Ext.drew | apply Ext.alloc | (refine Ext.trans ?_ (by assumption)) | (refine Ext.set ?_ (by dsimp only; omega) _)))
  have hbox : SbAt W1 w.heap.size x z A L.length c := by rw [hW1]; exact SbAt.blk (T := 27) (by repeat (first | (refine al_at ?_ ?_ <;> first | rfl | (simp only [al_size] <;> omega)) | apply al_old))
  have hz1 : W1.heap[w.heap.size + 1]? = some (.cells #[.int .i64 0, .int .i64 0, .slice none 0 0] 27 (0, 0)) := by rw [hW1]; exact al_at (by simp only [al_size]) rfl
  have hs1 : W1.heap.size = w.heap.size + 1 + 1 := by rw [hW1]; simp only [al_size]
  have HZ1 := Lib.hid hz1
  have HP := Lib.hid hp
  have HBX := Lib.hid hbox
  clear hz1 hp hbox
  cases hV : fvT ⟨x, z, L⟩
  · go_enter Try.func39, Try.ntmps39
    go_wp2_with (fail)
    rw [← hW1]
    clear hW1
    obtain ⟨c0, c1, c2, x0, x1, x2⟩ := three_c HZ1.out
    go_wp2_with ((go_at_call 46; refine Calls.mono (c_l06Is (S := ⟨_, _, L⟩) HBX.out rfl za) ?_; rw [hV]; rintro e w1 ⟨rfl, n1, rfl⟩))
    (try simp only [Exit.inBlock, Exit.then])
    refine bodyPost_ret (results_cellT rfl _ _ (w.heap.size + 1) 27 #[.int .i64 0, .int .i64 0, .slice none 0 0] (0, 0) _ rfl (by repeat (first | exact HZ1.out | exact blk_set1 (blk_set1 (blk_set1 HZ1.out 0 _) 1 _) 2 _)) Try.underlying27 rfl (by kernel_rfl)) rfl ?_
    exact retT_no rfl (by repeat (first | assumption | exact Ext.refl _ | apply Ext.drewN | apply Ext.drew | apply Ext.alloc | (refine Ext.trans ?_ (by assumption)) | (refine Ext.set ?_ (by dsimp only; omega) _)))
  have HV := Lib.hid hV
  obtain ⟨a, b, rfl, rfl, e4, e5, e6, e7, e8, e9, e10, e11⟩ := fvT_nat (hV)
  have E8 := Lib.hid e8
  have hwn := IntWalk.i64_in (L.length : Int) (by omega)
  have fhalf : Fl .f32 1056964608 k32half := Fl.of32 (by decide)
  have fquart : Fl .f32 1048576000 k32quart := Fl.of32 (by decide)
  have HQC : Hid (cellF a (fedge L a b) = (fun j => cellF a (fedge L a b) j)) := Lib.hid rfl
  clear hV e8
  go_enter Try.func39, Try.ntmps39
  go_wp2_with (fail)
  rw [← hW1]
  clear hW1
  obtain ⟨c0, c1, c2, x0, x1, x2⟩ := three_c HZ1.out
  go_wp2_with (first | (go_at_call 46; refine Calls.mono (c_l06Is (S := ⟨_, _, L⟩) HBX.out rfl za) ?_; rw [HV.out]; rintro e w1 ⟨rfl, n1, rfl⟩) | (go_at_call 58; refine Calls.mono (c_l06Own (B := B) (HBX.out.ext (by repeat (first | assumption | exact Ext.refl _ | apply Ext.drewN | apply Ext.drew | apply Ext.alloc | (refine Ext.trans ?_ (by assumption)) | (refine Ext.set ?_ (by dsimp only; omega) _)))) (HP.out.below (Below.mono (by repeat (first | assumption | exact Ext.refl _ | apply Ext.drewN | apply Ext.drew | apply Ext.alloc | (refine Ext.trans ?_ (by assumption)) | (refine Ext.set ?_ (by dsimp only; omega) _))) hB)) (Nat.le_trans hB hx1.size) (by omega) (by omega)) ?_; rintro e w2 ⟨v, rfl, g, cap, cs0, rfl, hg0, hcg, hcap, hcs0, hrow, hx2⟩))
  have hx2' : Ext w w2 := Ext.trans (by repeat (first | assumption | exact Ext.refl _ | apply Ext.drewN | apply Ext.drew | apply Ext.alloc | (refine Ext.trans ?_ (by assumption)) | (refine Ext.set ?_ (by dsimp only; omega) _))) hx2
  have HG0 := Lib.hid hcg
  have HR0 : Hid (RowF cs0 L.length (fmix (cellF a (fedge L a b)) (fun j => L.getD j none) 0)) := Lib.hid (hrow.keep (fun j _ => fmix_zero (cellF a (fedge L a b)) (fun j => L.getD j none) j))
  have HZ2 := Lib.hid (hx2.blk (g := w.heap.size + 1) HZ1.out)
  have hg0' : w.heap.size + 1 + 1 ≤ g := by rw [← hs1]; exact hg0
  have hs2 : W1.heap.size ≤ w2.heap.size := hx2.size
  have hg2 := blk_lt hcg
  clear hcg hrow c0 c1 c2 x0 x1 x2
  go_loopw [5] (fun y wr => ∃ (k : Nat) (cs : Array Value), k ≤ L.length ∧ y = .int .i64 k ∧ wr.heap[g]? = some (.cells cs 32 (0, 0)) ∧ L.length ≤ cs.size ∧ RowF cs L.length (fmix (cellF a (fedge L a b)) (fun j => L.getD j none) k) ∧ wr.heap[w2.heap.size]? = some (.cells #[.int .i64 (a : Int), .int .i64 (b : Int), .slice (some ⟨g, 0, none⟩) L.length cap] 27 (0, 0)) ∧ wr.heap[w.heap.size + 1]? = some (.cells #[.int .i64 0, .int .i64 0, .slice none 0 0] 27 (0, 0)) ∧ Ext w wr ∧ Ext W1 wr) (fun y _ => L.length - (intOf y).toNat)
  case atStart => exact ⟨0, cs0, Nat.zero_le _, rfl, (by repeat (first | exact HG0.out | apply al_old | (refine set_other ?_ (by dsimp only; omega)))), hcs0, HR0.out, (by first | exact heap_alloc_new w2 _ | exact blk_set1 (blk_set1 (blk_set1 (heap_alloc_new w2 _) 0 _) 1 _) 2 _), (by repeat (first | exact HZ2.out | apply al_old | (refine set_other ?_ (by dsimp only; omega)))), (by repeat (first | assumption | exact Ext.refl _ | apply Ext.drewN | apply Ext.drew | apply Ext.alloc | (refine Ext.trans ?_ (by assumption)) | (refine Ext.set ?_ (by dsimp only; omega) _))), (by have hx2x : Ext W1 w2 := Ext.trans (by repeat (first | assumption | exact Ext.refl _ | apply Ext.drewN | apply Ext.drew | apply Ext.alloc | (refine Ext.trans ?_ (by assumption)) | (refine Ext.set ?_ (by dsimp only; omega) _))) hx2; exact (by repeat (first | assumption | exact Ext.refl _ | apply Ext.drewN | apply Ext.drew | apply Ext.alloc | (refine Ext.trans ?_ (by assumption)) | (refine Ext.set ?_ (by dsimp only; omega) _))))⟩
  case round =>
    obtain ⟨k, cs, hk, rfl, hg, hs, hrow, hbx, hzz, hx, hxW⟩ := hrel
    obtain ⟨d0, d1, d2, y0, y1, y2⟩ := three_c hbx
    have HG := Lib.hid hg
    have HS := Lib.hid hs
    have HX := Lib.hid hrow
    have HB := Lib.hid hbx
    have HZ := Lib.hid hzz
    have hs3 := blk_lt hbx
    clear hg hs hrow hbx hzz
    by_cases hlt : k < L.length
    · obtain ⟨u0, f0, f1, f2⟩ := HX.out.cell HG.out hlt
      rw [fmix_cur] at f2
      have hlt' : (k : Int) < (L.length : Int) := by omega
      have ha0 : (a : Int) ≠ 0 := by omega
      have hle : k / a ≤ k := Nat.div_le_self _ _
      have hrl : k % a < a := Nat.mod_lt _ e4
      have hql : k / a < b := (Nat.div_lt_iff_lt_mul e4).2 (by rw [Nat.mul_comm, E8.out]; exact hlt)
      have hq1 : (k : Int) / (a : Int) = ((k / a : Nat) : Int) := by simp
      have hq2 : (k : Int) % (a : Int) = ((k % a : Nat) : Int) := by simp
      have HAS := Lib.hid (at2_self (L := L) (b := b) e4 (by rw [E8.out]; exact hlt))
      obtain ⟨q0, hq⟩ : ∃ q, k / a = q := ⟨_, rfl⟩
      obtain ⟨r0, hr⟩ : ∃ r, k % a = r := ⟨_, rfl⟩
      rw [hq] at hq1 hle hql HAS
      rw [hr] at hq2 hrl HAS
      have HK := Lib.hid hq
      have HR := Lib.hid hr
      have hq16 : q0 < 16 := Nat.lt_of_lt_of_le hql e7
      have hr16 : r0 < 16 := Nat.lt_of_lt_of_le hrl e5
      have hwq := wrap_small q0 hq16
      have hwr := wrap_small r0 hr16
      obtain ⟨hwq0, hwq1, hwq2, hwq3, hwq4⟩ := hwq
      obtain ⟨hwr0, hwr1, hwr2, hwr3, hwr4⟩ := hwr
      have HQ2 := Lib.hid hq2
      have HQ1 := Lib.hid hq1
      clear hq1
      have hbr := HBX.out.ext hxW
      have hpr := HP.out.below (hx.mono hB)
      have HBR := Lib.hid hbr
      have HPR := Lib.hid hpr
      obtain ⟨s0, s1, s2, _⟩ := hbr
      clear hq hr hle hq2 hpr
      go_wp2_with (fail)
      rw [HQ2.out, HQ1.out, hwq0]
      refine wp_region_loose 14 (by kernel_rfl) (by kernel_rfl) ?_
      simp only [List.take_succ_cons, List.take_zero, List.drop_succ_cons, List.drop_zero]
      refine la_start ?_
      refine la_fix _ (by rfl) (by intros; go_simp; rfl) ?_
      try simp only [Act.put, List.setIfInBounds_toArray, List.set_cons_zero, List.set_cons_succ]
      refine la_fix _ (by rfl) (by intros; go_simp; rfl) ?_
      try simp only [Act.put, List.setIfInBounds_toArray, List.set_cons_zero, List.set_cons_succ]
      refine la_fix _ (by rfl) (by intros; go_simp; rfl) ?_
      try simp only [Act.put, List.setIfInBounds_toArray, List.set_cons_zero, List.set_cons_succ]
      refine la_fix _ (by rfl) (by intros; go_simp; rfl) ?_
      try simp only [Act.put, List.setIfInBounds_toArray, List.set_cons_zero, List.set_cons_succ]
      refine la_fix _ (by rfl) (by intros; go_simp; rfl) ?_
      try simp only [Act.put, List.setIfInBounds_toArray, List.set_cons_zero, List.set_cons_succ]
      refine la_fix _ (by rfl) (by intros; go_simp; rfl) ?_
      try simp only [Act.put, List.setIfInBounds_toArray, List.set_cons_zero, List.set_cons_succ]
      refine la_callF (k := .f32) (by rfl) (by intros; refine ⟨_, fun q => (by go_simp; first | rfl | exact ⟨rfl, rfl⟩), fun q => ?_⟩; exact c_l06At (HBR.out.drewN _) (HPR.out.drewN _) e4 e5 e6 e7 E8.out _ _ (cell_small r0 hr16).1 (cell_small q0 hq16).2.1) ?_
      try simp only [Act.put, List.setIfInBounds_toArray, List.set_cons_zero, List.set_cons_succ]
      refine la_fix _ (by rfl) (by intros; go_simp; rfl) ?_
      try simp only [Act.put, List.setIfInBounds_toArray, List.set_cons_zero, List.set_cons_succ]
      refine la_fix _ (by rfl) (by intros; go_simp; rfl) ?_
      try simp only [Act.put, List.setIfInBounds_toArray, List.set_cons_zero, List.set_cons_succ]
      refine la_fix _ (by rfl) (by intros; go_simp; rfl) ?_
      try simp only [Act.put, List.setIfInBounds_toArray, List.set_cons_zero, List.set_cons_succ]
      refine la_callF (k := .f32) (by rfl) (by intros; refine ⟨_, fun q => (by go_simp; first | rfl | exact ⟨rfl, rfl⟩), fun q => ?_⟩; exact c_l06At (HBR.out.drewN _) (HPR.out.drewN _) e4 e5 e6 e7 E8.out _ _ (cell_small r0 hr16).1 (cell_small q0 hq16).2.2) ?_
      try simp only [Act.put, List.setIfInBounds_toArray, List.set_cons_zero, List.set_cons_succ]
      refine la_fop (op := .sub) (by rfl) (by rfl) (by intros; refine ⟨_, _, ?_, ?_, fun q => (by go_simp; rfl)⟩ <;> (first | assumption | exact fl_fu | exact fl_fz)) ?_
      try simp only [Act.put, List.setIfInBounds_toArray, List.set_cons_zero, List.set_cons_succ]
      refine la_fop (op := .mul) (by rfl) (by rfl) (by intros; refine ⟨_, _, ?_, ?_, fun q => (by go_simp; rfl)⟩ <;> (first | assumption | exact fl_fu | exact fl_fz)) ?_
      try simp only [Act.put, List.setIfInBounds_toArray, List.set_cons_zero, List.set_cons_succ]
      refine la_fix _ (by rfl) (by intros; go_simp; rfl) ?_
      try simp only [Act.put, List.setIfInBounds_toArray, List.set_cons_zero, List.set_cons_succ]
      refine la_end ?_
      intro r1 hr1 r2 hr2 r3 hr3 r5 hr5 q
      have hrX : Fl .f32 r5 (cellF a (fedge L a b) k) := by
        show Fl .f32 r5 (fedge L a b (k % a) (k / a))
        rw [HR.out, HK.out]
        exact hr5
      go_wp2_with (fail)
      exact ⟨⟨k + 1, _, by omega, by go_num, blk_set1 (w := World.drewN wr q) HG.out k (.float .f32 r5), by rw [Array.size_setIfInBounds]; exact HS.out, HX.out.setX HS.out hlt (by rw [fmix_new]; assumption) (fun j _ hj => fmix_other hj), set_other (w := World.drewN wr q) HB.out (by dsimp only; omega), set_other (w := World.drewN wr q) HZ.out (by dsimp only; omega), Ext.set (by repeat (first | assumption | exact Ext.refl _ | apply Ext.drewN | apply Ext.drew | apply Ext.alloc | (refine Ext.trans ?_ (by assumption)) | (refine Ext.set ?_ (by dsimp only; omega) _))) (by dsimp only; omega) _, Ext.set (by repeat (first | assumption | exact Ext.refl _ | apply Ext.drewN | apply Ext.drew | apply Ext.alloc | (refine Ext.trans ?_ (by assumption)) | (refine Ext.set ?_ (by dsimp only; omega) _))) (by dsimp only; omega) _⟩, by simp [intOf]; omega⟩
    · obtain rfl : k = L.length := by omega
      obtain ⟨s0, s1, s2, _⟩ := HBX.out.ext hxW
      obtain ⟨c0, c1, c2, x0, x1, x2⟩ := three_c HZ.out
      have HBZ := Lib.hid (fun u0 u1 u2 => blk_set1 (blk_set1 (blk_set1 HZ.out 0 u0) 1 u1) 2 u2)
      go_wp2_with (fail)
      (try simp only [Exit.inBlock, Exit.then])
      refine bodyPost_ret (results_cellT rfl _ _ (w.heap.size + 1) 27 #[.int .i64 (a : Int), .int .i64 (b : Int), .slice (some ⟨g, 0, none⟩) L.length cap] (0, 0) _ rfl (HBZ.out _ _ _) Try.underlying27 rfl (by kernel_rfl)) rfl ?_
      exact ⟨_, rfl, by
        show OwT _ _ _ _ ⟨(a : Int), (b : Int), lst (cellF a (fedge L a b)) L.length⟩
        refine OwT.more (lo := w.heap.size + 1 + 1) (hi := wr.heap.size) ?_ (by omega) (by simp)
        have h0 : OwT wr (w.heap.size + 1 + 1) wr.heap.size (.agg #[.int .i64 (a : Int), .int .i64 (b : Int), .slice (some ⟨g, 0, none⟩) L.length cap]) ⟨(a : Int), (b : Int), lst (cellF a (fedge L a b)) L.length⟩ := OwT.of ((rowF_lst' (HX.out.keep (fun j hj => fmix_all hj)) HG.out HS.out).more hg0' (Nat.le_refl _)) hcap
        repeat (first | exact h0 | (refine OwT.setOther ?_ (by left; dsimp only; omega) _)), (by repeat (first | assumption | exact Ext.refl _ | apply Ext.drewN | apply Ext.drew | apply Ext.alloc | (refine Ext.trans ?_ (by assumption)) | (refine Ext.set ?_ (by dsimp only; omega) _)))⟩
set_option maxRecDepth 20000 in
set_option maxHeartbeats 8000000 in
theorem c_spec_SmoothSection {w : World} {B : Nat} {u : Value} {S : Sct} (h : RdT w B u S) (hB : B ≤ w.heap.size) (za : S.v.length ≤ 1048576) (hok : S.Ok) {p : Nat} {P : Option Nat} (fp : Fl .f32 p P) :
    Calls Try.prog 41 #[u, .float .f32 p] w fun e w' => RetT w e w' (fvT S) (outT (fvT S) ⟨S.x, S.z, lst (cellF S.x.toNat (fsmooth P S.v S.x.toNat S.z.toNat)) S.v.length⟩) := by
  obtain ⟨A, c, rfl, hp, _⟩ := h.ex
  clear h
  obtain ⟨x, z, L⟩ := S
  dsimp only at hp za ⊢
  obtain ⟨W1, hW1⟩ : ∃ W1, W1 = (w.alloc (.cells #[.int .i64 x, .int .i64 z, .slice A L.length c] 27)).alloc (.cells #[.int .i64 0, .int .i64 0, .slice none 0 0] 27) := ⟨_, rfl⟩
  have hx1 : Ext w W1 := by rw [hW1]; exact (by repeat (first | assumption | exact Ext.refl _ | apply Ext.drewN | apply Ext.drew | apply Ext.alloc | (refine Ext.trans ?_ (by assumption)) | (refine Ext.set ?_ (by dsimp only; omega) _)))
  have hbox : SbAt W1 w.heap.size x z A L.length c := by rw [hW1]; exact SbAt.blk (T := 27) (by repeat (first | (refine al_at ?_ ?_ <;> first | rfl | (simp only [al_size] <;> omega)) | apply al_old))
  have hz1 : W1.heap[w.heap.size + 1]? = some (.cells #[.int .i64 0, .int .i64 0, .slice none 0 0] 27 (0, 0)) := by rw [hW1]; exact al_at (by simp only [al_size]) rfl
  have hs1 : W1.heap.size = w.heap.size + 1 + 1 := by rw [hW1]; simp only [al_size]
  have HZ1 := Lib.hid hz1
  have HP := Lib.hid hp
  have HBX := Lib.hid hbox
  clear hz1 hp hbox
  cases hV : fvT ⟨x, z, L⟩
  · go_enter Try.func41, Try.ntmps41
    go_wp2_with (fail)
    rw [← hW1]
    clear hW1
    obtain ⟨c0, c1, c2, x0, x1, x2⟩ := three_c HZ1.out
    go_wp2_with ((go_at_call 46; refine Calls.mono (c_l06Is (S := ⟨_, _, L⟩) HBX.out rfl za) ?_; rw [hV]; rintro e w1 ⟨rfl, n1, rfl⟩))
    (try simp only [Exit.inBlock, Exit.then])
    refine bodyPost_ret (results_cellT rfl _ _ (w.heap.size + 1) 27 #[.int .i64 0, .int .i64 0, .slice none 0 0] (0, 0) _ rfl (by repeat (first | exact HZ1.out | exact blk_set1 (blk_set1 (blk_set1 HZ1.out 0 _) 1 _) 2 _)) Try.underlying27 rfl (by kernel_rfl)) rfl ?_
    exact retT_no rfl (by repeat (first | assumption | exact Ext.refl _ | apply Ext.drewN | apply Ext.drew | apply Ext.alloc | (refine Ext.trans ?_ (by assumption)) | (refine Ext.set ?_ (by dsimp only; omega) _)))
  have HV := Lib.hid hV
  obtain ⟨a, b, rfl, rfl, e4, e5, e6, e7, e8, e9, e10, e11⟩ := fvT_nat (hV)
  have E8 := Lib.hid e8
  have hwn := IntWalk.i64_in (L.length : Int) (by omega)
  have fhalf : Fl .f32 1056964608 k32half := Fl.of32 (by decide)
  have fquart : Fl .f32 1048576000 k32quart := Fl.of32 (by decide)
  have HQC : Hid (cellF a (fsmooth P L a b) = (fun j => cellF a (fsmooth P L a b) j)) := Lib.hid rfl
  clear hV e8
  go_enter Try.func41, Try.ntmps41
  go_wp2_with (fail)
  rw [← hW1]
  clear hW1
  obtain ⟨c0, c1, c2, x0, x1, x2⟩ := three_c HZ1.out
  go_wp2_with (first | (go_at_call 46; refine Calls.mono (c_l06Is (S := ⟨_, _, L⟩) HBX.out rfl za) ?_; rw [HV.out]; rintro e w1 ⟨rfl, n1, rfl⟩) | (go_at_call 58; refine Calls.mono (c_l06Own (B := B) (HBX.out.ext (by repeat (first | assumption | exact Ext.refl _ | apply Ext.drewN | apply Ext.drew | apply Ext.alloc | (refine Ext.trans ?_ (by assumption)) | (refine Ext.set ?_ (by dsimp only; omega) _)))) (HP.out.below (Below.mono (by repeat (first | assumption | exact Ext.refl _ | apply Ext.drewN | apply Ext.drew | apply Ext.alloc | (refine Ext.trans ?_ (by assumption)) | (refine Ext.set ?_ (by dsimp only; omega) _))) hB)) (Nat.le_trans hB hx1.size) (by omega) (by omega)) ?_; rintro e w2 ⟨v, rfl, g, cap, cs0, rfl, hg0, hcg, hcap, hcs0, hrow, hx2⟩))
  have hx2' : Ext w w2 := Ext.trans (by repeat (first | assumption | exact Ext.refl _ | apply Ext.drewN | apply Ext.drew | apply Ext.alloc | (refine Ext.trans ?_ (by assumption)) | (refine Ext.set ?_ (by dsimp only; omega) _))) hx2
  have HG0 := Lib.hid hcg
  have HR0 : Hid (RowF cs0 L.length (fmix (cellF a (fsmooth P L a b)) (fun j => L.getD j none) 0)) := Lib.hid (hrow.keep (fun j _ => fmix_zero (cellF a (fsmooth P L a b)) (fun j => L.getD j none) j))
  have HZ2 := Lib.hid (hx2.blk (g := w.heap.size + 1) HZ1.out)
  have hg0' : w.heap.size + 1 + 1 ≤ g := by rw [← hs1]; exact hg0
  have hs2 : W1.heap.size ≤ w2.heap.size := hx2.size
  have hg2 := blk_lt hcg
  clear hcg hrow c0 c1 c2 x0 x1 x2
  go_loopw [7] (fun y wr => ∃ (k : Nat) (cs : Array Value), k ≤ L.length ∧ y = .int .i64 k ∧ wr.heap[g]? = some (.cells cs 32 (0, 0)) ∧ L.length ≤ cs.size ∧ RowF cs L.length (fmix (cellF a (fsmooth P L a b)) (fun j => L.getD j none) k) ∧ wr.heap[w2.heap.size]? = some (.cells #[.int .i64 (a : Int), .int .i64 (b : Int), .slice (some ⟨g, 0, none⟩) L.length cap] 27 (0, 0)) ∧ wr.heap[w.heap.size + 1]? = some (.cells #[.int .i64 0, .int .i64 0, .slice none 0 0] 27 (0, 0)) ∧ Ext w wr ∧ Ext W1 wr) (fun y _ => L.length - (intOf y).toNat)
  case atStart => exact ⟨0, cs0, Nat.zero_le _, rfl, (by repeat (first | exact HG0.out | apply al_old | (refine set_other ?_ (by dsimp only; omega)))), hcs0, HR0.out, (by first | exact heap_alloc_new w2 _ | exact blk_set1 (blk_set1 (blk_set1 (heap_alloc_new w2 _) 0 _) 1 _) 2 _), (by repeat (first | exact HZ2.out | apply al_old | (refine set_other ?_ (by dsimp only; omega)))), (by repeat (first | assumption | exact Ext.refl _ | apply Ext.drewN | apply Ext.drew | apply Ext.alloc | (refine Ext.trans ?_ (by assumption)) | (refine Ext.set ?_ (by dsimp only; omega) _))), (by have hx2x : Ext W1 w2 := Ext.trans (by repeat (first | assumption | exact Ext.refl _ | apply Ext.drewN | apply Ext.drew | apply Ext.alloc | (refine Ext.trans ?_ (by assumption)) | (refine Ext.set ?_ (by dsimp only; omega) _))) hx2; exact (by repeat (first | assumption | exact Ext.refl _ | apply Ext.drewN | apply Ext.drew | apply Ext.alloc | (refine Ext.trans ?_ (by assumption)) | (refine Ext.set ?_ (by dsimp only; omega) _))))⟩
  case round =>
    obtain ⟨k, cs, hk, rfl, hg, hs, hrow, hbx, hzz, hx, hxW⟩ := hrel
    obtain ⟨d0, d1, d2, y0, y1, y2⟩ := three_c hbx
    have HG := Lib.hid hg
    have HS := Lib.hid hs
    have HX := Lib.hid hrow
    have HB := Lib.hid hbx
    have HZ := Lib.hid hzz
    have hs3 := blk_lt hbx
    clear hg hs hrow hbx hzz
    by_cases hlt : k < L.length
    · obtain ⟨u0, f0, f1, f2⟩ := HX.out.cell HG.out hlt
      rw [fmix_cur] at f2
      have hlt' : (k : Int) < (L.length : Int) := by omega
      have ha0 : (a : Int) ≠ 0 := by omega
      have hle : k / a ≤ k := Nat.div_le_self _ _
      have hrl : k % a < a := Nat.mod_lt _ e4
      have hql : k / a < b := (Nat.div_lt_iff_lt_mul e4).2 (by rw [Nat.mul_comm, E8.out]; exact hlt)
      have hq1 : (k : Int) / (a : Int) = ((k / a : Nat) : Int) := by simp
      have hq2 : (k : Int) % (a : Int) = ((k % a : Nat) : Int) := by simp
      have HAS := Lib.hid (at2_self (L := L) (b := b) e4 (by rw [E8.out]; exact hlt))
      obtain ⟨q0, hq⟩ : ∃ q, k / a = q := ⟨_, rfl⟩
      obtain ⟨r0, hr⟩ : ∃ r, k % a = r := ⟨_, rfl⟩
      rw [hq] at hq1 hle hql HAS
      rw [hr] at hq2 hrl HAS
      have HK := Lib.hid hq
      have HR := Lib.hid hr
      have hq16 : q0 < 16 := Nat.lt_of_lt_of_le hql e7
      have hr16 : r0 < 16 := Nat.lt_of_lt_of_le hrl e5
      have hwq := wrap_small q0 hq16
      have hwr := wrap_small r0 hr16
      obtain ⟨hwq0, hwq1, hwq2, hwq3, hwq4⟩ := hwq
      obtain ⟨hwr0, hwr1, hwr2, hwr3, hwr4⟩ := hwr
      have HQ2 := Lib.hid hq2
      have HQ1 := Lib.hid hq1
      clear hq1
      have hbr := HBX.out.ext hxW
      have hpr := HP.out.below (hx.mono hB)
      have HBR := Lib.hid hbr
      have HPR := Lib.hid hpr
      obtain ⟨s0, s1, s2, _⟩ := hbr
      clear hq hr hle hq2 hpr
      obtain ⟨b1, o1, t1, rfl, hb1, hc1, ht1⟩ := HPR.out.cell hlt
      rw [← HAS.out] at ht1
      have HAT := Lib.hid (fun (W : World) (hd : Dr wr W) (i k : Int) hi hk => c_l06At (w := W) (HBR.out.dr hd) (HPR.out.dr hd) e4 e5 e6 e7 E8.out i k hi hk)
      go_wp2_with (fail)
      rw [HQ2.out, HQ1.out, hwq0]
      first | rw [hwr2] | rw [hwr4]
      refine Calls.mono (HAT.out _ (by repeat (first | exact ⟨0, rfl⟩ | apply Dr.drewN)) _ _ (cell_small r0 hr16).2.2 (cell_small q0 hq16).1) ?_
      rintro e u1 ⟨r1, rfl, hr1, n1, rfl⟩
      go_wp2_with (first | (go_at_call 74; refine Calls.mono (HAT.out _ (by repeat (first | exact ⟨0, rfl⟩ | apply Dr.drewN)) _ _ (cell_small r0 hr16).2.1 (cell_small q0 hq16).1) ?_; rintro e u2 ⟨r2, rfl, hr2, n2, rfl⟩) | (go_at_call 74; refine Calls.mono (HAT.out _ (by repeat (first | exact ⟨0, rfl⟩ | apply Dr.drewN)) _ _ (cell_small r0 hr16).1 (cell_small q0 hq16).2.2) ?_; rintro e u4 ⟨r4, rfl, hr4, n4, rfl⟩) | (go_at_call 74; refine Calls.mono (HAT.out _ (by repeat (first | exact ⟨0, rfl⟩ | apply Dr.drewN)) _ _ (cell_small r0 hr16).1 (cell_small q0 hq16).2.1) ?_; rintro e u6 ⟨r6, rfl, hr6, n6, rfl⟩) | (apply upon_fop rfl; (exact hr1); (exact hr2); intro r3 n3 hr3) | (apply upon_fop rfl; (exact hr3); (exact hr4); intro r5 n5 hr5) | (apply upon_fop rfl; (exact hr5); (exact hr6); intro r7 n7 hr7) | (apply upon_fop rfl; (exact fquart); (exact hr7); intro r8 n8 hr8))
      refine wp_region_loose 16 (by kernel_rfl) (by kernel_rfl) ?_
      simp only [List.take_succ_cons, List.take_zero, List.drop_succ_cons, List.drop_zero]
      refine la_start ?_
      refine la_fix _ (by rfl) (by intros; go_simp; rfl) ?_
      try simp only [Act.put, List.setIfInBounds_toArray, List.set_cons_zero, List.set_cons_succ]
      refine la_fix _ (by rfl) (by intros; go_simp; rfl) ?_
      try simp only [Act.put, List.setIfInBounds_toArray, List.set_cons_zero, List.set_cons_succ]
      refine la_fix _ (by rfl) (by intros; go_simp; rfl) ?_
      try simp only [Act.put, List.setIfInBounds_toArray, List.set_cons_zero, List.set_cons_succ]
      refine la_fix _ (by rfl) (by intros; go_simp; rfl) ?_
      try simp only [Act.put, List.setIfInBounds_toArray, List.set_cons_zero, List.set_cons_succ]
      refine la_fop (op := .sub) (by rfl) (by rfl) (by intros; refine ⟨_, _, ?_, ?_, fun q => (by go_simp; rfl)⟩ <;> (first | assumption | exact fl_fu | exact fl_fz)) ?_
      try simp only [Act.put, List.setIfInBounds_toArray, List.set_cons_zero, List.set_cons_succ]
      refine la_fix _ (by rfl) (by intros; go_simp; rfl) ?_
      try simp only [Act.put, List.setIfInBounds_toArray, List.set_cons_zero, List.set_cons_succ]
      refine la_fix _ (by rfl) (by intros; go_simp; rfl) ?_
      try simp only [Act.put, List.setIfInBounds_toArray, List.set_cons_zero, List.set_cons_succ]
      refine la_fix _ (by rfl) (by intros; go_simp; rfl) ?_
      try simp only [Act.put, List.setIfInBounds_toArray, List.set_cons_zero, List.set_cons_succ]
      refine la_fix _ (by rfl) (by intros; go_simp; rfl) ?_
      try simp only [Act.put, List.setIfInBounds_toArray, List.set_cons_zero, List.set_cons_succ]
      refine la_fix _ (by rfl) (by intros; go_simp; rfl) ?_
      try simp only [Act.put, List.setIfInBounds_toArray, List.set_cons_zero, List.set_cons_succ]
      refine la_fop (op := .mul) (by rfl) (by rfl) (by intros; refine ⟨_, _, ?_, ?_, fun q => (by go_simp; rfl)⟩ <;> (first | assumption | exact fl_fu | exact fl_fz)) ?_
      try simp only [Act.put, List.setIfInBounds_toArray, List.set_cons_zero, List.set_cons_succ]
      refine la_fix _ (by rfl) (by intros; go_simp; rfl) ?_
      try simp only [Act.put, List.setIfInBounds_toArray, List.set_cons_zero, List.set_cons_succ]
      refine la_fix _ (by rfl) (by intros; go_simp; rfl) ?_
      try simp only [Act.put, List.setIfInBounds_toArray, List.set_cons_zero, List.set_cons_succ]
      refine la_fop (op := .mul) (by rfl) (by rfl) (by intros; refine ⟨_, _, ?_, ?_, fun q => (by go_simp; rfl)⟩ <;> (first | assumption | exact fl_fu | exact fl_fz)) ?_
      try simp only [Act.put, List.setIfInBounds_toArray, List.set_cons_zero, List.set_cons_succ]
      refine la_fop (op := .add) (by rfl) (by rfl) (by intros; refine ⟨_, _, ?_, ?_, fun q => (by go_simp; rfl)⟩ <;> (first | assumption | exact fl_fu | exact fl_fz)) ?_
      try simp only [Act.put, List.setIfInBounds_toArray, List.set_cons_zero, List.set_cons_succ]
      refine la_fix _ (by rfl) (by intros; go_simp; rfl) ?_
      try simp only [Act.put, List.setIfInBounds_toArray, List.set_cons_zero, List.set_cons_succ]
      refine la_end ?_
      intro r9 hr9 r10 hr10 r11 hr11 r12 hr12 q
      have hrX : Fl .f32 r12 (cellF a (fsmooth P L a b) k) := by
        show Fl .f32 r12 (fsmooth P L a b (k % a) (k / a))
        rw [HR.out, HK.out]
        exact hr12
      go_wp2_with (fail)
      exact ⟨⟨k + 1, _, by omega, by go_num, blk_set1 (w := _) HG.out k (.float .f32 r12), by rw [Array.size_setIfInBounds]; exact HS.out, HX.out.setX HS.out hlt (by rw [fmix_new]; assumption) (fun j _ hj => fmix_other hj), set_other (w := _) HB.out (by dsimp only; omega), set_other (w := _) HZ.out (by dsimp only; omega), Ext.set (by repeat (first | assumption | exact Ext.refl _ | apply Ext.drewN | apply Ext.drew | apply Ext.alloc | (refine Ext.trans ?_ (by assumption)) | (refine Ext.set ?_ (by dsimp only; omega) _))) (by dsimp only; omega) _, Ext.set (by repeat (first | assumption | exact Ext.refl _ | apply Ext.drewN | apply Ext.drew | apply Ext.alloc | (refine Ext.trans ?_ (by assumption)) | (refine Ext.set ?_ (by dsimp only; omega) _))) (by dsimp only; omega) _⟩, by simp [intOf]; omega⟩
    · obtain rfl : k = L.length := by omega
      obtain ⟨s0, s1, s2, _⟩ := HBX.out.ext hxW
      obtain ⟨c0, c1, c2, x0, x1, x2⟩ := three_c HZ.out
      have HBZ := Lib.hid (fun u0 u1 u2 => blk_set1 (blk_set1 (blk_set1 HZ.out 0 u0) 1 u1) 2 u2)
      go_wp2_with (fail)
      (try simp only [Exit.inBlock, Exit.then])
      refine bodyPost_ret (results_cellT rfl _ _ (w.heap.size + 1) 27 #[.int .i64 (a : Int), .int .i64 (b : Int), .slice (some ⟨g, 0, none⟩) L.length cap] (0, 0) _ rfl (HBZ.out _ _ _) Try.underlying27 rfl (by kernel_rfl)) rfl ?_
      exact ⟨_, rfl, by
        show OwT _ _ _ _ ⟨(a : Int), (b : Int), lst (cellF a (fsmooth P L a b)) L.length⟩
        refine OwT.more (lo := w.heap.size + 1 + 1) (hi := wr.heap.size) ?_ (by omega) (by simp)
        have h0 : OwT wr (w.heap.size + 1 + 1) wr.heap.size (.agg #[.int .i64 (a : Int), .int .i64 (b : Int), .slice (some ⟨g, 0, none⟩) L.length cap]) ⟨(a : Int), (b : Int), lst (cellF a (fsmooth P L a b)) L.length⟩ := OwT.of ((rowF_lst' (HX.out.keep (fun j hj => fmix_all hj)) HG.out HS.out).more hg0' (Nat.le_refl _)) hcap
        repeat (first | exact h0 | (refine OwT.setOther ?_ (by left; dsimp only; omega) _)), (by repeat (first | assumption | exact Ext.refl _ | apply Ext.drewN | apply Ext.drew | apply Ext.alloc | (refine Ext.trans ?_ (by assumption)) | (refine Ext.set ?_ (by dsimp only; omega) _)))⟩
end Go.Proofs.Ytmhfnchpkeeckaa
