/- Contracts: a step of the recursion, the program. Condition: the lists are read. -/
import Derived.Test.YtceldjkgddbfaabSb
namespace Go.Proofs.Ytceldjkgddbfaab
open Go.RowKit Ieee

set_option maxRecDepth 20000 in
set_option maxHeartbeats 8000000 in
theorem c_step {w : World} {g n c k c2 e B : Nat} {A A2 : Option Addr} {L P : List (Option Nat)} {E : Option Nat} (hb : RcAt w g (.slice A n c) (.slice A2 k c2) e) (fe : Fl .f32 e E) (hE : gt0 E = true)
    (hL : RdF w B A n L) (_hB : B ≤ w.heap.size) (hn : n ≤ 1048576) (hP : RdF w w.heap.size A2 k P) (hk0 : 0 < k) (hkn : k < n) :
    Calls Try.prog 56 #[.pointer (some ⟨g, 0, none⟩)] w fun z w' => ∃ r e' A3 c3, z = .returned (.tuple #[.float .f32 r, .bool true]) ∧ RcAt w' g (.slice A n c) (.slice A3 (k + 1) c3) e' ∧ OwL w' w.heap.size w'.heap.size A3 (k + 1) (fnext P (fop .quo .f32 (ffs P L (k : Int) k) E)) ∧
      Fl .f32 e' (fop .sub .f32 E (fop .mul .f32 (fop .quo .f32 (ffs P L (k : Int) k) E) (ffs P L (k : Int) k))) ∧ Kb g (g + 1) w w' := by
  obtain ⟨p0, p1, p2⟩ := hb.c
  have hgw : g < w.heap.size := blk_lt hb
  have HF := Lib.hid (fun q : Nat => c_foldAtH (w := w.drewN q) (k := (k : Int)) (c := c2) (c' := c) (hP.drewN q) (by omega) (hL.drewN q) hn (by omega) (by omega))
  obtain ⟨S, hS⟩ : ∃ S, ffs P L (k : Int) k = S := ⟨_, rfl⟩
  rw [hS]
  have HS := Lib.hid hS
  have HBX := Lib.hid hb
  clear hS hb
  go_enter Try.func56, Try.ntmps56
  go_wp2_with (fail)
  refine wp_region_loose 14 (by kernel_rfl) (by kernel_rfl) ?_
  simp only [List.take_succ_cons, List.take_zero, List.drop_succ_cons, List.drop_zero]
  refine la_start ?_
  refine la_fix _ (by rfl) (by intros; go_simp; rfl) ?_
  try simp only [Act.put, List.setIfInBounds_toArray, List.set_cons_zero, List.set_cons_succ]
  refine la_fix _ (by rfl) (by intros; go_simp; rfl) ?_
  try simp only [Act.put, List.setIfInBounds_toArray, List.set_cons_zero, List.set_cons_succ]
  refine la_fix _ (by rfl) (by intros; go_simp; rfl) ?_
  try simp only [Act.put, List.setIfInBounds_toArray, List.set_cons_zero, List.set_cons_succ]
  refine la_fix _ (by rfl) (by intros; go_simp; rfl) ?_
  try simp only [Act.put, List.setIfInBounds_toArray, List.set_cons_zero, List.set_cons_succ]
  refine la_fix _ (by rfl) (by intros; go_simp; rfl) ?_
  try simp only [Act.put, List.setIfInBounds_toArray, List.set_cons_zero, List.set_cons_succ]
  refine la_fix _ (by rfl) (by intros; go_simp; rfl) ?_
  try simp only [Act.put, List.setIfInBounds_toArray, List.set_cons_zero, List.set_cons_succ]
  refine la_fix _ (by rfl) (by intros; go_simp; rfl) ?_
  try simp only [Act.put, List.setIfInBounds_toArray, List.set_cons_zero, List.set_cons_succ]
  refine la_fix _ (by rfl) (by intros; go_simp; rfl) ?_
  try simp only [Act.put, List.setIfInBounds_toArray, List.set_cons_zero, List.set_cons_succ]
  refine la_fix _ (by rfl) (by intros; go_simp; rfl) ?_
  try simp only [Act.put, List.setIfInBounds_toArray, List.set_cons_zero, List.set_cons_succ]
  refine la_fix _ (by rfl) (by intros; go_simp; rfl) ?_
  try simp only [Act.put, List.setIfInBounds_toArray, List.set_cons_zero, List.set_cons_succ]
  refine la_fix _ (by rfl) (by intros; go_simp; rfl) ?_
  try simp only [Act.put, List.setIfInBounds_toArray, List.set_cons_zero, List.set_cons_succ]
  refine la_fix _ (by rfl) (by intros; go_simp; rfl) ?_
  try simp only [Act.put, List.setIfInBounds_toArray, List.set_cons_zero, List.set_cons_succ]
  refine la_fix _ (by rfl) (by intros; go_simp; rfl) ?_
  try simp only [Act.put, List.setIfInBounds_toArray, List.set_cons_zero, List.set_cons_succ]
  refine la_callF (k := .f32) (by rfl) (by intros; refine ⟨_, fun q => (by go_simp; first | rfl | exact ⟨rfl, rfl⟩), fun q => ?_⟩; exact HF.out _) ?_
  try simp only [Act.put, List.setIfInBounds_toArray, List.set_cons_zero, List.set_cons_succ]
  refine la_end ?_
  intro r1 hr1 q
  rw [HS.out] at hr1
  go_wp2_with (go_at_call 55; refine Calls.mono (c_share fe hr1) ?_; rw [hE]; rintro z w2 ⟨r2, rfl, hr2, hx2⟩; simp only [if_true] at hr2; have hxw : Ext w w2 := (Ext.drewN (Ext.refl w) q).trans hx2; have HB2 := Lib.hid (HBX.out.ext hxw); obtain ⟨a0, a1, a2⟩ := HB2.out.c; have af := HB2.out.f 1; have HR := Lib.hid (c_reflectFilter (w := w2) (c := c2) (hP.below hxw) hxw.size (by omega) hk0 hr2))
  go_wp2_with (go_at_call 105; refine Calls.mono HR.out ?_; rintro z w3 ⟨A3, c3, rfl, ho3, hx3⟩; have HB3 := Lib.hid (HB2.out.ext hx3); have d1 := HB3.out.c.2.1; have df := HB3.out.f 1; have HO3 := Lib.hid ho3; have HB4 := Lib.hid (HB3.out.p (.slice A3 (k + 1) c3)); have d2 := HB4.out.c.2.2; have dg := HB4.out.f 2; clear ho3)
  refine wp_region_loose 10 (by kernel_rfl) (by kernel_rfl) ?_
  simp only [List.take_succ_cons, List.take_zero, List.drop_succ_cons, List.drop_zero]
  refine la_start ?_
  refine la_fix _ (by rfl) (by intros; go_simp; rfl) ?_
  try simp only [Act.put, List.setIfInBounds_toArray, List.set_cons_zero, List.set_cons_succ]
  refine la_fix _ (by rfl) (by intros; go_simp; rfl) ?_
  try simp only [Act.put, List.setIfInBounds_toArray, List.set_cons_zero, List.set_cons_succ]
  refine la_fix _ (by rfl) (by intros; go_simp; rfl) ?_
  try simp only [Act.put, List.setIfInBounds_toArray, List.set_cons_zero, List.set_cons_succ]
  refine la_fix _ (by rfl) (by intros; go_simp; rfl) ?_
  try simp only [Act.put, List.setIfInBounds_toArray, List.set_cons_zero, List.set_cons_succ]
  refine la_fix _ (by rfl) (by intros; go_simp; rfl) ?_
  try simp only [Act.put, List.setIfInBounds_toArray, List.set_cons_zero, List.set_cons_succ]
  refine la_fix _ (by rfl) (by intros; go_simp; rfl) ?_
  try simp only [Act.put, List.setIfInBounds_toArray, List.set_cons_zero, List.set_cons_succ]
  refine la_callF (k := .f32) (by rfl) (by intros; refine ⟨_, fun q => (by go_simp; first | rfl | exact ⟨rfl, rfl⟩), fun q => ?_⟩; exact c_mulNumbers hr2 hr1 _) ?_
  try simp only [Act.put, List.setIfInBounds_toArray, List.set_cons_zero, List.set_cons_succ]
  refine la_fop (op := .sub) (by rfl) (by rfl) (by intros; refine ⟨_, _, ?_, ?_, fun q => (by go_simp; rfl)⟩ <;> (first | assumption | exact fl_fu | exact fl_fz)) ?_
  try simp only [Act.put, List.setIfInBounds_toArray, List.set_cons_zero, List.set_cons_succ]
  refine la_fix _ (by rfl) (by intros; go_simp; rfl) ?_
  try simp only [Act.put, List.setIfInBounds_toArray, List.set_cons_zero, List.set_cons_succ]
  refine la_fix _ (by rfl) (by intros; go_simp; rfl) ?_
  try simp only [Act.put, List.setIfInBounds_toArray, List.set_cons_zero, List.set_cons_succ]
  refine la_end ?_
  intro r4 hr4 r5 hr5 q5
  go_wp2_with (fail)
  go_ret2
  have hx13 : Ext w w3 := hxw.trans hx3
  have hgk : g < w3.heap.size := by have := hx13.size; omega
  have hkb := (((hx13.kb (Nat.le_of_lt hgw)).set (p := ⟨g, 1, none⟩) (Nat.le_refl _) (Nat.lt_succ_self _) (.slice A3 (k + 1) c3)).drewN q5).set (p := ⟨g, 2, none⟩) (Nat.le_refl _) (Nat.lt_succ_self _) (.float .f32 r5)
  have hkb3 := (((Kb.refl g (g + 1) w3).set (p := ⟨g, 1, none⟩) (Nat.le_refl _) (Nat.lt_succ_self _) (.slice A3 (k + 1) c3)).drewN q5).set (p := ⟨g, 2, none⟩) (Nat.le_refl _) (Nat.lt_succ_self _) (.float .f32 r5)
  have ho5 := HO3.out.same (hkb3.sameR (by have := hxw.size; omega) (Nat.le_refl _))
  have hb5 : RcAt ((w3.setCell ⟨g, 1, none⟩ (.slice A3 (k + 1) c3)).drewN q5) g (.slice A n c) (.slice A3 (k + 1) c3) e := HB4.out
  exact ⟨_, r5, A3, c3, rfl, hb5.e r5, ho5.more hxw.size hkb3.below.size, hr5, hkb⟩
end Go.Proofs.Ytceldjkgddbfaab
