/- Contracts: two frames that are joined, the reference, and both sides of the law. Condition: the frames are read. -/
import Derived.Test.YtfmhdnhaaohdjaaJw
namespace Go.Proofs.Ytfmhdnhaaohdjaa
open Go.RowKit Go.ChangeShapes Go.WideShapes Go.Deep Ieee
set_option linter.unusedVariables false
set_option linter.unusedSimpArgs false

theorem mj_end {P : Program} {ops : Array Oper} {R : World → World → Prop} {w0 : World} {S : (Nat → Value) → Act} {fin : List (Nat × Fact) → Prop} {Fs : List (Nat × Fact)} (h : fin Fs) : MoGo P .any ops R w0 S fin [] Fs := h
theorem rowJ_own {w : World} {b N : Nat} {v : Value} {rs : List Nat} {L : List (Option Nat)} (h : RowJ b N (fvals rs) v w) (hrl : rs.length = N) (hL : L.length = N) (hF : ∀ j, j < N → Fl .f32 (rs.getD j 0) (L.getD j none)) :
    ∃ g cap, v = .slice (some ⟨g, 0, none⟩) N cap ∧ b ≤ g ∧ N ≤ cap ∧ g < w.heap.size ∧ OwL w g (g + 1) (some ⟨g, 0, none⟩) N L := by
  obtain ⟨g, cap, cur, h1, h2, h3, h4, h5, h6, h7⟩ := h
  have hrow : RowF cur N (fun j => L.getD j none) := fun j hj => by
    have e1 : cur[j]? = (cur.toList.take N)[j]? := by rw [List.getElem?_take_of_lt hj]; simp
    refine ⟨rs.getD j 0, ?_, hF j hj⟩
    rw [e1, h7, fvals_at (by omega)]
  have h8 := rowF_lst' hrow h3 (by omega)
  rw [lst_self hL] at h8
  exact ⟨g, cap, h1, h2, h4, blk_lt h3, h8.at0⟩
set_option maxRecDepth 20000 in
set_option maxHeartbeats 4000000 in
theorem c_spec_JoinFrames {w : World} {B0 B1 : Nat} {u v : Value} {S U : Sct} (h : RdT w B0 u S) (hB0 : B0 ≤ w.heap.size) (za0 : S.v.length ≤ 1048576) (hok0 : S.Ok) (k : RdT w B1 v U) (hB1 : B1 ≤ w.heap.size) (za1 : U.v.length ≤ 1048576) (hok1 : U.Ok) :
    Calls Try.prog 59 #[u, v] w fun e w' => RetT w e w' (okJ S U) (outT (okJ S U) (joinT S U)) := by
  obtain ⟨A, c, rfl, hp, hcA⟩ := h.ex
  obtain ⟨A', c', rfl, hp', hcA'⟩ := k.ex
  obtain ⟨W1, hW1⟩ : ∃ W1, W1 = (((w.alloc (.cells #[.int .i64 S.x, .int .i64 S.z, .slice A S.v.length c] 27)).alloc (.cells #[.int .i64 U.x, .int .i64 U.z, .slice A' U.v.length c'] 27)).alloc (.cells #[.int .i64 0, .int .i64 0, .slice none 0 0] 27)) := ⟨_, rfl⟩
  have hx1 : Ext w W1 := by rw [hW1]; exact (by repeat (first | assumption | exact Ext.refl _ | apply Ext.drewN | apply Ext.drew | apply Ext.alloc | (refine Ext.trans ?_ (by assumption)) | (refine Ext.set ?_ (by dsimp only; omega) _)))
  have hb1 : W1.heap[w.heap.size]? = some (.cells #[.int .i64 S.x, .int .i64 S.z, .slice A S.v.length c] 27 (0, 0)) := by rw [hW1]; exact al_old (al_old (heap_alloc_new w _))
  have hb2 : W1.heap[w.heap.size + 1]? = some (.cells #[.int .i64 U.x, .int .i64 U.z, .slice A' U.v.length c'] 27 (0, 0)) := by rw [hW1]; exact al_old (al_at (al_size _ _).symm rfl)
  have hz1 : W1.heap[w.heap.size + 1 + 1]? = some (.cells #[.int .i64 0, .int .i64 0, .slice none 0 0] 27 (0, 0)) := by rw [hW1]; exact al_at (by rw [al_size, al_size]) rfl
  have hs1 : W1.heap.size = w.heap.size + 1 + 1 + 1 := by rw [hW1, al_size, al_size, al_size]
  obtain ⟨p0, p1, p2, _, _, _⟩ := three_c hb1
  obtain ⟨q0, q1, q2, _, _, _⟩ := three_c hb2
  obtain ⟨c0, c1, c2, x0, x1, x2⟩ := three_c hz1
  have hq1 := hp.below (hx1.mono hB0)
  have hq2 := hp'.below (hx1.mono hB1)
  have C1 := Lib.hid (c_l07Is (w := W1) p0 p1 p2 hq1 za0)
  have C2 := Lib.hid (fun (m : Nat) => c_l07Is (w := W1.drewN m) q0 q1 q2 (hq2.drewN m) za1)
  have HZB := Lib.hid hz1
  have HB1 := Lib.hid hb1
  have HB2 := Lib.hid hb2
  have hE3 := Lib.hid (fun (m : Nat) => ext3 (g := w.heap.size + 1 + 1) (show Ext w (W1.drewN m) from hx1.drewN m) (by omega) (.int .i64 0) (.int .i64 0) (.slice none 0 0))
  clear hz1 hb1 hb2 hq1 hq2
  cases hV : fvF S
  · have hno : okJ S U = false := by unfold okJ; rw [hV]; rfl
    rw [hno]
    rw [hV] at C1
    clear h k hp hp' C2
    go_enter Try.func59, Try.ntmps59
    go_wp2_with (fail)
    rw [← hW1]
    clear hW1
    go_wp2_with (go_at_call_of 62 (some (⟨w.heap.size, 0, none⟩ : Addr)); refine Calls.mono C1.out ?_; rintro e w3 ⟨rfl, n3, rfl⟩)
    (try simp only [Exit.inBlock, Exit.then])
    refine bodyPost_ret (results_cellJ rfl _ _ (w.heap.size + 1 + 1) 27 #[.int .i64 0, .int .i64 0, .slice none 0 0] (0, 0) _ rfl (by exact blk_set1 (blk_set1 (blk_set1 HZB.out 0 _) 1 _) 2 _) Try.underlying27 rfl (by kernel_rfl)) rfl ?_
    exact retT_no rfl (hE3.out _)
  rw [hV] at C1
  cases hV2 : fvF U
  · have hno : okJ S U = false := by unfold okJ; rw [hV, hV2]; rfl
    rw [hno]
    rw [hV2] at C2
    clear h k hp hp'
    go_enter Try.func59, Try.ntmps59
    go_wp2_with (fail)
    rw [← hW1]
    clear hW1
    go_wp2_with (go_at_call_of 62 (some (⟨w.heap.size, 0, none⟩ : Addr)); refine Calls.mono C1.out ?_; rintro e w3 ⟨rfl, n3, rfl⟩)
    refine Calls.mono (C2.out _) ?_
    rintro e w4 ⟨rfl, n4, rfl⟩
    go_wp2_with (fail)
    (try simp only [Exit.inBlock, Exit.then])
    refine bodyPost_ret (results_cellJ rfl _ _ (w.heap.size + 1 + 1) 27 #[.int .i64 0, .int .i64 0, .slice none 0 0] (0, 0) _ rfl (by exact blk_set1 (blk_set1 (blk_set1 HZB.out 0 _) 1 _) 2 _) Try.underlying27 rfl (by kernel_rfl)) rfl ?_
    exact retT_no rfl (hE3.out _)
  rw [hV2] at C2
  by_cases hX : S.x = U.x
  case neg =>
    have hno : okJ S U = false := by unfold okJ; rw [decide_eq_false hX]; simp
    rw [hno]
    have hxx : (S.x != U.x) = true := by simpa using hX
    clear h k hp hp' hX
    go_enter Try.func59, Try.ntmps59
    go_wp2_with (fail)
    rw [← hW1]
    clear hW1
    go_wp2_with (go_at_call_of 62 (some (⟨w.heap.size, 0, none⟩ : Addr)); refine Calls.mono C1.out ?_; rintro e w3 ⟨rfl, n3, rfl⟩)
    refine Calls.mono (C2.out _) ?_
    rintro e w4 ⟨rfl, n4, rfl⟩
    go_wp2_with (fail)
    (try simp only [Exit.inBlock, Exit.then])
    refine bodyPost_ret (results_cellJ rfl _ _ (w.heap.size + 1 + 1) 27 #[.int .i64 0, .int .i64 0, .slice none 0 0] (0, 0) _ rfl (by exact blk_set1 (blk_set1 (blk_set1 HZB.out 0 _) 1 _) 2 _) Try.underlying27 rfl (by kernel_rfl)) rfl ?_
    exact retT_no rfl (hE3.out _)
  have hxx : (S.x != U.x) = false := by simp [hX]
  obtain ⟨_, _, v1, v2, v3, v4, _⟩ := fvF_of hV
  obtain ⟨_, _, _, _, v5, v6, _⟩ := fvF_of hV2
  obtain ⟨T, hT⟩ : ∃ T, S.z + (S.v.length : Int) = T := ⟨_, rfl⟩
  have hwz : IntKind.i64.wrap (S.z + (S.v.length : Int)) = T := by rw [hT]; exact IntWalk.i64_in _ (by omega)
  by_cases hZ : U.z = T
  case neg =>
    have hno : okJ S U = false := by unfold okJ; rw [hT, decide_eq_false hZ]; simp
    rw [hno]
    have hzz : (U.z != T) = true := by simpa using hZ
    clear h k hp hp' hX hZ hT
    go_enter Try.func59, Try.ntmps59
    go_wp2_with (fail)
    rw [← hW1]
    clear hW1
    go_wp2_with (go_at_call_of 62 (some (⟨w.heap.size, 0, none⟩ : Addr)); refine Calls.mono C1.out ?_; rintro e w3 ⟨rfl, n3, rfl⟩)
    refine Calls.mono (C2.out _) ?_
    rintro e w4 ⟨rfl, n4, rfl⟩
    go_wp2_with (fail)
    (try simp only [Exit.inBlock, Exit.then])
    refine bodyPost_ret (results_cellJ rfl _ _ (w.heap.size + 1 + 1) 27 #[.int .i64 0, .int .i64 0, .slice none 0 0] (0, 0) _ rfl (by exact blk_set1 (blk_set1 (blk_set1 HZB.out 0 _) 1 _) 2 _) Try.underlying27 rfl (by kernel_rfl)) rfl ?_
    exact retT_no rfl (hE3.out _)
  have hzz : (U.z != T) = false := by simp [hZ]
  have hok : okJ S U = fvF (joinT S U) := by unfold okJ; rw [hV, hV2, decide_eq_true hX, hT, decide_eq_true hZ]; rfl
  obtain ⟨b1, o1, hA1, hbb1, rs1, hrl1, hrs1⟩ := (hp.more hB0).words (by omega)
  obtain ⟨b2, o2, hA2, hbb2, rs2, hrl2, hrs2⟩ := (hp'.more hB1).words (by omega)
  subst hA1
  subst hA2
  have HN1 := Lib.hid (words_new hbb1 (Nat.le_refl _) hrl1 (fun j hj => (hrs1 j hj).1))
  have HN2 := Lib.hid (words_new hbb2 (Nat.le_refl _) hrl2 (fun j hj => (hrs2 j hj).1))
  have HF := Lib.hid (getD_two hrl1 hp.len (fun j hj => (hrs1 j hj).2) (fun j hj => (hrs2 j hj).2))
  have HR1 := Lib.hid hrl1
  have HR2 := Lib.hid hrl2
  have HOK := Lib.hid hok
  have HLL := Lib.hid (show (S.v ++ U.v).length = S.v.length + U.v.length by simp)
  clear h k hp hp' hX hZ hT hok hrl1 hrl2 hrs1 hrs2
  go_enter Try.func59, Try.ntmps59
  go_wp2_with (fail)
  rw [← hW1]
  clear hW1
  go_wp2_with (go_at_call_of 62 (some (⟨w.heap.size, 0, none⟩ : Addr)); refine Calls.mono C1.out ?_; rintro e w3 ⟨rfl, n3, rfl⟩)
  refine Calls.mono (C2.out _) ?_
  rintro e w4 ⟨rfl, n4, rfl⟩
  go_wp2_with (fail)
  have hx2 : Ext w (W1.drewN (n3 + n4)) := hx1.drewN _
  have hsa : (W1.drewN (n3 + n4)).heap.size = w.heap.size + 1 + 1 + 1 := hs1
  have hbl1 : w.heap.size < (W1.drewN (n3 + n4)).heap.size := by omega
  have hbl2 : w.heap.size + 1 < (W1.drewN (n3 + n4)).heap.size := by omega
  have hw2 : w.heap.size + 1 + 1 < (W1.drewN (n3 + n4)).heap.size := by omega
  obtain ⟨p0, p1, p2, _, _, _⟩ := three_c (show (W1.drewN (n3 + n4)).heap[w.heap.size]? = _ from HB1.out)
  obtain ⟨q0, q1, q2, _, _, _⟩ := three_c (show (W1.drewN (n3 + n4)).heap[w.heap.size + 1]? = _ from HB2.out)
  have hz2 : (W1.drewN (n3 + n4)).heap[w.heap.size + 1 + 1]? = some (.cells #[.int .i64 0, .int .i64 0, .slice none 0 0] 27 (0, 0)) := HZB.out
  obtain ⟨w2, hw2e⟩ : ∃ x, x = W1.drewN (n3 + n4) := ⟨_, rfl⟩
  rw [← hw2e] at hx2 hsa hbl1 hbl2 hw2 p0 p1 p2 q0 q1 q2 hz2 ⊢
  have HZ2 := Lib.hid hz2
  clear hw2e hz2 c0 c1 c2 x0 x1 x2 C1 C2 hE3 HZB HB1 HB2
  refine wp_region_any (by kernel_rfl) ?_
  refine wpAny_mo_go (md := .any) (R := RJ w2.heap.size S.v.length (fvals rs1) (S.v.length + U.v.length) (fvals rs1 ++ fvals rs2)) (w := w2) [(0, 32), (1, 33), (2, 34), (3, 35), (4, 36), (5, 37), (6, 38), (7, 39), (8, 40), (9, 41), (10, 42), (11, 43), (12, 6)] [13] (tl := [_]) (S := ?S7_) (by kernel_rfl) (by rfl) (by rfl) RJ.refl RJ.tr (RJ.drew1 _) ?hS7_ ?go7_
  case hS7_ => intro vs; simp only [putAll, Act.put, List.setIfInBounds_toArray, List.set_cons_zero, List.set_cons_succ]; rfl
  case go7_ =>
  refine mj_fix _ (by rfl) (by rfl) (by intro vs w1 hx_ hd; have r0 := (hx_.cell hbl1).trans p0; have r1 := (hx_.cell hbl1).trans p1; have r2 := (hx_.cell hbl1).trans p2; have s0 := (hx_.cell hbl2).trans q0; have s1 := (hx_.cell hbl2).trans q1; have s2 := (hx_.cell hbl2).trans q2; go_simp; first | done | rfl) ?_
  refine mj_fix _ (by rfl) (by rfl) (by intro vs w1 hx_ hd; have r0 := (hx_.cell hbl1).trans p0; have r1 := (hx_.cell hbl1).trans p1; have r2 := (hx_.cell hbl1).trans p2; have s0 := (hx_.cell hbl2).trans q0; have s1 := (hx_.cell hbl2).trans q1; have s2 := (hx_.cell hbl2).trans q2; have e0 := hd 0 (by kernel_rfl); simp (decide := true) only [factAt, if_true, if_false] at e0; simp only [e0]; go_simp; first | done | rfl) ?_
  refine mj_fix _ (by rfl) (by rfl) (by intro vs w1 hx_ hd; have r0 := (hx_.cell hbl1).trans p0; have r1 := (hx_.cell hbl1).trans p1; have r2 := (hx_.cell hbl1).trans p2; have s0 := (hx_.cell hbl2).trans q0; have s1 := (hx_.cell hbl2).trans q1; have s2 := (hx_.cell hbl2).trans q2; go_simp; first | done | rfl) ?_
  refine mj_fix _ (by rfl) (by rfl) (by intro vs w1 hx_ hd; have r0 := (hx_.cell hbl1).trans p0; have r1 := (hx_.cell hbl1).trans p1; have r2 := (hx_.cell hbl1).trans p2; have s0 := (hx_.cell hbl2).trans q0; have s1 := (hx_.cell hbl2).trans q1; have s2 := (hx_.cell hbl2).trans q2; have e2 := hd 2 (by kernel_rfl); simp (decide := true) only [factAt, if_true, if_false] at e2; simp only [e2]; go_simp; first | done | rfl) ?_
  refine mj_new (.cells #[] 83) (by rfl) (by rfl) (by intro vs w1 hx_ hd; go_simp; first | done | rfl) ?_
  refine mj_fix _ (by rfl) (by rfl) (by intro vs w1 hx_ hd; have r0 := (hx_.cell hbl1).trans p0; have r1 := (hx_.cell hbl1).trans p1; have r2 := (hx_.cell hbl1).trans p2; have s0 := (hx_.cell hbl2).trans q0; have s1 := (hx_.cell hbl2).trans q1; have s2 := (hx_.cell hbl2).trans q2; go_simp; first | done | rfl) ?_
  refine mj_fix _ (by rfl) (by rfl) (by intro vs w1 hx_ hd; have r0 := (hx_.cell hbl1).trans p0; have r1 := (hx_.cell hbl1).trans p1; have r2 := (hx_.cell hbl1).trans p2; have s0 := (hx_.cell hbl2).trans q0; have s1 := (hx_.cell hbl2).trans q1; have s2 := (hx_.cell hbl2).trans q2; have e5 := hd 5 (by kernel_rfl); simp (decide := true) only [factAt, if_true, if_false] at e5; simp only [e5]; go_simp; first | done | rfl) ?_
  refine mj_app1 (.tmp 36) (.tmp 38) (by rfl) (by rfl) (by rfl) rs1 rfl (by omega) (by omega) HR1.out (by intro vs w9 hx_ hd; have e4 := hd 4 (by kernel_rfl); have e6 := hd 6 (by kernel_rfl); simp (decide := true) only [factAt, if_true, if_false] at e4 e6; obtain ⟨g4, e4⟩ := e4; exact ⟨g4, ⟨b1, o1, none⟩, c, e4, e6, HN1.out _ (hx2.trans hx_)⟩) ?_
  refine mj_fix _ (by rfl) (by rfl) (by intro vs w1 hx_ hd; have r0 := (hx_.cell hbl1).trans p0; have r1 := (hx_.cell hbl1).trans p1; have r2 := (hx_.cell hbl1).trans p2; have s0 := (hx_.cell hbl2).trans q0; have s1 := (hx_.cell hbl2).trans q1; have s2 := (hx_.cell hbl2).trans q2; go_simp; first | done | rfl) ?_
  refine mj_fix _ (by rfl) (by rfl) (by intro vs w1 hx_ hd; have r0 := (hx_.cell hbl1).trans p0; have r1 := (hx_.cell hbl1).trans p1; have r2 := (hx_.cell hbl1).trans p2; have s0 := (hx_.cell hbl2).trans q0; have s1 := (hx_.cell hbl2).trans q1; have s2 := (hx_.cell hbl2).trans q2; have e8 := hd 8 (by kernel_rfl); simp (decide := true) only [factAt, if_true, if_false] at e8; simp only [e8]; go_simp; first | done | rfl) ?_
  refine mj_app2 (.tmp 39) (.tmp 41) (by rfl) (by rfl) (by rfl) rs1 rs2 U.v.length rfl rfl rfl (by omega) HR1.out HR2.out (by intro vs w9 hx_ hd; have e7 := hd 7 (by kernel_rfl); have e9 := hd 9 (by kernel_rfl); simp (decide := true) only [factAt, if_true, if_false] at e7 e9; exact ⟨⟨b2, o2, none⟩, c', e7, e9, HN2.out _ (hx2.trans hx_)⟩) ?_
  refine mj_of (fun us => .agg #[us 1, us 3, us 10]) (by rfl) (by rfl) (by intro us vs w1 hu hx_ hd; have r0 := (hx_.cell hbl1).trans p0; have r1 := (hx_.cell hbl1).trans p1; have r2 := (hx_.cell hbl1).trans p2; have s0 := (hx_.cell hbl2).trans q0; have s1 := (hx_.cell hbl2).trans q1; have s2 := (hx_.cell hbl2).trans q2; have e1 := hd 1 (by kernel_rfl); have e3 := hd 3 (by kernel_rfl); have e10 := hd 10 (by kernel_rfl); simp (decide := true) only [factAt, if_true, if_false] at e1 e3 e10; rw [hu 1 (by kernel_rfl)]; rw [hu 3 (by kernel_rfl)]; rw [hu 10 (by kernel_rfl)]; obtain ⟨g9, c9, cs9, e10, _⟩ := e10; rw [e1, e3, e10]; go_simp; first | done | rfl) ?_
  refine mj_make (fun a => .pointer (some a)) #[.int .i64 0, .int .i64 0, .slice none 0 0] 27 (by decide) (by rfl) (by rfl) (by intro vs w1 hx_ hd; go_simp; first | done | rfl) ?_
  refine mj_end ?_
  intro vs w3 hr3 hd
  have hx3 : Ext w2 w3 := hr3.ext
  have e1 := hd 1 (by kernel_rfl)
  have e3 := hd 3 (by kernel_rfl)
  have e10 := hd 10 (by kernel_rfl)
  have e12 := hd 12 (by kernel_rfl)
  obtain ⟨us, hu, e11⟩ := seen_got (hd 11 (by kernel_rfl))
  simp (decide := true) only [factAt, if_true, if_false] at e1 e3 e10 e11 e12
  rw [hu 1 (by kernel_rfl), hu 3 (by kernel_rfl), hu 10 (by kernel_rfl)] at e11
  rw [show fvals rs1 ++ fvals rs2 = fvals (rs1 ++ rs2) by simp [fvals]] at e10
  obtain ⟨gA, capA, e10, hgA, hnA, hgA2, hoA⟩ := rowJ_own e10 (by rw [List.length_append, HR1.out, HR2.out]) HLL.out HF.out
  rw [e1, e3, e10] at e11
  obtain ⟨gP, e12, hgP, hbP⟩ := e12
  generalize vs 11 = v11 at e11 ⊢
  generalize vs 12 = v12 at e12 ⊢
  subst e11
  subst e12
  clear hd hu e1 e3 e10 hr3
  have hneP := own_ne hoA (by omega) hbP
  obtain ⟨Wb, hWb, hxb, hbPb, hoAb, hsb⟩ := fill_box hx3 hgP hbP hoA hneP (.int .i64 S.x) (.int .i64 S.z) (.slice (some ⟨gA, 0, none⟩) (S.v.length + U.v.length) capA)
  obtain ⟨c0, c1, c2, x0, x1, x2⟩ := three_c hbP
  obtain ⟨g0, g1, g2, _, _, _⟩ := three_c hbPb
  have hgAb : gA < Wb.heap.size := by rw [hsb]; exact hgA2
  have hxwb : Ext w Wb := hx2.trans hxb
  have C3 := Lib.hid (c_l07Is (S := joinT S U) g0 g1 g2 (hoAb.rd) (by omega))
  have hzb := hxb.blk HZ2.out
  have HWB := Lib.hid hWb
  have k0 : World.cell? (((w3.setCell ⟨gP, 0, none⟩ (.int .i64 S.x)).setCell ⟨gP, 1, none⟩ (.int .i64 S.z)).setCell ⟨gP, 2, none⟩ (.slice (some ⟨gA, 0, none⟩) (S.v.length + U.v.length) capA)) ⟨gP, 0, none⟩ = some (.int .i64 S.x) := by rw [hWb]; exact g0
  have k1 : World.cell? (((w3.setCell ⟨gP, 0, none⟩ (.int .i64 S.x)).setCell ⟨gP, 1, none⟩ (.int .i64 S.z)).setCell ⟨gP, 2, none⟩ (.slice (some ⟨gA, 0, none⟩) (S.v.length + U.v.length) capA)) ⟨gP, 1, none⟩ = some (.int .i64 S.z) := by rw [hWb]; exact g1
  have k2 : World.cell? (((w3.setCell ⟨gP, 0, none⟩ (.int .i64 S.x)).setCell ⟨gP, 1, none⟩ (.int .i64 S.z)).setCell ⟨gP, 2, none⟩ (.slice (some ⟨gA, 0, none⟩) (S.v.length + U.v.length) capA)) ⟨gP, 2, none⟩ = some (.slice (some ⟨gA, 0, none⟩) (S.v.length + U.v.length) capA) := by rw [hWb]; exact g2
  clear p0 p1 p2 q0 q1 q2 hbP hoA hWb g0 g1 g2
  cases hF : fvF (joinT S U)
  · have hfin : okJ S U = false := HOK.out.trans hF
    rw [hF] at C3
    have HFIN := Lib.hid hfin
    clear hfin hF
    go_wp2_with (go_at_call 62; (try rw [HWB.out]); refine Calls.mono C3.out ?_; rintro e wd ⟨rfl, nd, rfl⟩; obtain ⟨c0, c1, c2, x0, x1, x2⟩ := three_c (show (Wb.drewN nd).heap[w.heap.size + 1 + 1]? = _ from hzb))
    (try simp only [Exit.inBlock, Exit.then])
    refine bodyPost_ret (results_cellJ rfl _ _ (w.heap.size + 1 + 1) 27 #[.int .i64 0, .int .i64 0, .slice none 0 0] (0, 0) _ rfl (by exact blk_set1 (blk_set1 (blk_set1 (show (Wb.drewN nd).heap[w.heap.size + 1 + 1]? = _ from hzb) 0 _) 1 _) 2 _) Try.underlying27 rfl (by kernel_rfl)) rfl ?_
    rw [HFIN.out]
    exact retT_no rfl (ext3 (hxwb.drewN _) (by omega) _ _ _)
  · have hfin : okJ S U = true := HOK.out.trans hF
    rw [hF] at C3
    have HFIN := Lib.hid hfin
    clear hfin hF
    go_wp2_with (go_at_call 62; (try rw [HWB.out]); refine Calls.mono C3.out ?_; rintro e wd ⟨rfl, nd, rfl⟩; obtain ⟨c0, c1, c2, x0, x1, x2⟩ := three_c (show (Wb.drewN nd).heap[w.heap.size + 1 + 1]? = _ from hzb); obtain ⟨f0, f1, f2, _, _, _⟩ := three_c (show (Wb.drewN nd).heap[gP]? = _ from hbPb))
    (try simp only [Exit.inBlock, Exit.then])
    refine bodyPost_ret (results_cellJ rfl _ _ (w.heap.size + 1 + 1) 27 #[.int .i64 S.x, .int .i64 S.z, .slice (some ⟨gA, 0, none⟩) (S.v.length + U.v.length) capA] (0, 0) _ rfl (by exact blk_set1 (blk_set1 (blk_set1 (show (Wb.drewN nd).heap[w.heap.size + 1 + 1]? = _ from hzb) 0 _) 1 _) 2 _) Try.underlying27 rfl (by kernel_rfl)) rfl ?_
    have ho := own3 (g := w.heap.size + 1 + 1) (show OwL (Wb.drewN nd) gA (gA + 1) (some ⟨gA, 0, none⟩) (S.v.length + U.v.length) (S.v ++ U.v) from hoAb.same (fun _ _ _ => rfl)) (by omega) (.int .i64 S.x) (.int .i64 S.z) (.slice (some ⟨gA, 0, none⟩) (S.v.length + U.v.length) capA)
    rw [HFIN.out]
    refine ⟨_, rfl, ?_, ext3 (hxwb.drewN _) (by omega) _ _ _⟩
    exact OwT.of (ho.more (by omega) (by simp [World.drewN]; omega)) hnA
theorem outJ_len (S U : Sct) : (outT (okJ S U) (joinT S U)).v.length ≤ 1048576 := by
  cases hV : okJ S U
  · exact Nat.zero_le _
  · unfold okJ at hV
    simp only [Bool.and_eq_true] at hV
    obtain ⟨_, _, _, _, _, h, _⟩ := fvF_of hV.2.2.2.2
    show (joinT S U).v.length ≤ 1048576
    omega
theorem both_JoinFrames {S0 : Sct} (za0 : S0.v.length ≤ 1048576) (hok0 : S0.Ok) {S1 : Sct} (za1 : S1.v.length ≤ 1048576) (hok1 : S1.Ok) :
    ∃ ok Q, Q.v.length ≤ 1048576 ∧ (∀ W : World, ∀ (B0 : Nat) (v0 : Value), RdT W B0 v0 S0 → B0 ≤ W.heap.size → ∀ (B1 : Nat) (v1 : Value), RdT W B1 v1 S1 → B1 ≤ W.heap.size → Calls Try.prog 59 #[v0, v1] W fun e w' => RetT W e w' ok Q) ∧
      (∀ W : World, ∀ (B0 : Nat) (v0 : Value), RdT W B0 v0 S0 → B0 ≤ W.heap.size → ∀ (B1 : Nat) (v1 : Value), RdT W B1 v1 S1 → B1 ≤ W.heap.size → Calls Try.prog 60 #[v0, v1] W fun e w' => RetT W e w' ok Q) :=
  ⟨okJ S0 S1, outT (okJ S0 S1) (joinT S0 S1), outJ_len S0 S1,
    fun W _ _ h0 hB0 _ _ h1 hB1 => c_spec_JoinFrames (w := W) h0 hB0 za0 hok0 h1 hB1 za1 hok1, fun W _ _ h0 hB0 _ _ h1 hB1 => c_impl_JoinFrames (w := W) h0 hB0 za0 hok0 h1 hB1 za1 hok1⟩

end Go.Proofs.Ytfmhdnhaaohdjaa
