/- Contracts: two parts of a frame, the program, and both sides. Condition: the frame is read. -/
import Derived.Test.YtfmhdnhaaohdjaaQt
namespace Go.Proofs.Ytfmhdnhaaohdjaa
open Go.RowKit Go.ChangeShapes Go.WideShapes Go.Deep Ieee
set_option linter.unusedVariables false
set_option linter.unusedSimpArgs false

theorem drew6 {w W : World} (h : Ext w W) : Ext w W.drew := Ext.drew h
set_option maxRecDepth 20000 in
set_option maxHeartbeats 4000000 in
theorem c_impl_SplitFrame {w : World} {B : Nat} {u : Value} {S : Sct} (h : RdT w B u S) (hB : B ≤ w.heap.size) (za : S.v.length ≤ 1048576) (hok : S.Ok) {i : Int} (hi1 : -9223372036854775808 ≤ i) (hj1 : i ≤ 9223372036854775807) :
    Calls Try.prog 34 #[u, .int .i64 i] w fun e w' => RetSS w e w' (okSp S i) (outT (okSp S i) (cutA S i)) (outT (okSp S i) (cutB S i)) := by
  have hrt := h
  obtain ⟨A, c, rfl, hp, hcA⟩ := h.ex
  clear h
  obtain ⟨W1, hW1⟩ : ∃ W1, W1 = ((w.alloc (.cells #[.int .i64 S.x, .int .i64 S.z, .slice A S.v.length c] 27)).alloc (.cells #[.int .i64 0, .int .i64 0, .slice none 0 0] 27)).alloc (.cells #[.int .i64 0, .int .i64 0, .slice none 0 0] 27) := ⟨_, rfl⟩
  have hx1 : Ext w W1 := by rw [hW1]; exact (by repeat (first | assumption | exact Ext.refl _ | apply Ext.drewN | apply Ext.drew | apply Ext.alloc | (refine Ext.trans ?_ (by assumption)) | (refine Ext.set ?_ (by dsimp only; omega) _)))
  have hbox : SbAt W1 w.heap.size S.x S.z A S.v.length c := by rw [hW1]; exact ((SbAt.blk (T := 27) (heap_alloc_new w _)).ext (Ext.alloc (Ext.refl _) _)).ext (Ext.alloc (Ext.refl _) _)
  have hz1 : W1.heap[w.heap.size + 1]? = some (.cells #[.int .i64 0, .int .i64 0, .slice none 0 0] 27 (0, 0)) := by rw [hW1]; exact al_old (al_at (al_size _ _).symm rfl)
  have hz2 : W1.heap[w.heap.size + 1 + 1]? = some (.cells #[.int .i64 0, .int .i64 0, .slice none 0 0] 27 (0, 0)) := by rw [hW1]; exact al_at (by rw [al_size, al_size]) rfl
  have hs1 : W1.heap.size = w.heap.size + 1 + 1 + 1 := by rw [hW1, al_size, al_size, al_size]
  have hp1 := hp.below (hx1.mono hB)
  have cV := c_impl_ValidFrame (hrt.below (hx1.mono hB)) (Nat.le_trans hB hx1.size) za
  clear hrt
  obtain ⟨p0, p1, p2, _⟩ := id hbox
  cases hV : fvF S
  · have hno : okSp S i = false := by unfold okSp; rw [hV]; rfl
    rw [hno]
    rw [hV] at cV
    clear hp hp1
    go_enter Try.func34, Try.ntmps34
    go_wp2_with (fail)
    rw [← hW1]
    clear hW1
    go_wp2_with (go_at_call 18; refine Calls.mono cV ?_; rintro e w1 ⟨rfl, hxv⟩; obtain ⟨p0, p1, p2, _⟩ := hbox.ext hxv; have hz1v := hxv.blk hz1; have hz2v := hxv.blk hz2; obtain ⟨c0, c1, c2, x0, x1, x2⟩ := three_c hz1v; obtain ⟨d0, d1, d2, y0, y1, y2⟩ := three_c hz2v; have hszv := hxv.size)
    (try simp only [Exit.inBlock, Exit.then])
    have HB2 := two_boxes hz1v hz2v (by omega) (.int .i64 0) (.int .i64 0) (.slice none 0 0) (.int .i64 0) (.int .i64 0) (.slice none 0 0)
    refine bodyPost_ret (results_cell3 rfl _ _ (w.heap.size + 1) (w.heap.size + 1 + 1) 27 27 #[.int .i64 0, .int .i64 0, .slice none 0 0] #[.int .i64 0, .int .i64 0, .slice none 0 0] (0, 0) (0, 0) _ _ rfl rfl HB2.1 HB2.2 Try.underlying27 rfl (by kernel_rfl) Try.underlying27 rfl (by kernel_rfl)) rfl ?_
    exact retSS_no rfl (ext6 (hx1.trans hxv) (by omega) (by omega) _ _ _ _ _ _)
  rw [hV] at cV
  obtain ⟨_, _, hv3, hv4, hv5, hv6, _⟩ := fvF_of hV
  by_cases hR1 : i < 1
  · have hno : okSp S i = false := by unfold okSp; rw [inB_lo hR1]; simp
    rw [hno]
    clear hp hp1 hV
    go_enter Try.func34, Try.ntmps34
    go_wp2_with (fail)
    rw [← hW1]
    clear hW1
    go_wp2_with (go_at_call 18; refine Calls.mono cV ?_; rintro e w1 ⟨rfl, hxv⟩; obtain ⟨p0, p1, p2, _⟩ := hbox.ext hxv; have hz1v := hxv.blk hz1; have hz2v := hxv.blk hz2; obtain ⟨c0, c1, c2, x0, x1, x2⟩ := three_c hz1v; obtain ⟨d0, d1, d2, y0, y1, y2⟩ := three_c hz2v; have hszv := hxv.size)
    (try simp only [Exit.inBlock, Exit.then])
    have HB2 := two_boxes hz1v hz2v (by omega) (.int .i64 0) (.int .i64 0) (.slice none 0 0) (.int .i64 0) (.int .i64 0) (.slice none 0 0)
    refine bodyPost_ret (results_cell3 rfl _ _ (w.heap.size + 1) (w.heap.size + 1 + 1) 27 27 #[.int .i64 0, .int .i64 0, .slice none 0 0] #[.int .i64 0, .int .i64 0, .slice none 0 0] (0, 0) (0, 0) _ _ rfl rfl HB2.1 HB2.2 Try.underlying27 rfl (by kernel_rfl) Try.underlying27 rfl (by kernel_rfl)) rfl ?_
    exact retSS_no rfl (ext6 (hx1.trans hxv) (by omega) (by omega) _ _ _ _ _ _)
  by_cases hR2 : i ≥ (S.v.length : Int)
  · have hno : okSp S i = false := by unfold okSp; rw [inB_hi (by omega)]; simp
    rw [hno]
    have hR3 : (S.v.length : Int) ≤ i := hR2
    clear hp hp1 hV
    go_enter Try.func34, Try.ntmps34
    go_wp2_with (fail)
    rw [← hW1]
    clear hW1
    go_wp2_with (go_at_call 18; refine Calls.mono cV ?_; rintro e w1 ⟨rfl, hxv⟩; obtain ⟨p0, p1, p2, _⟩ := hbox.ext hxv; have hz1v := hxv.blk hz1; have hz2v := hxv.blk hz2; obtain ⟨c0, c1, c2, x0, x1, x2⟩ := three_c hz1v; obtain ⟨d0, d1, d2, y0, y1, y2⟩ := three_c hz2v; have hszv := hxv.size)
    (try simp only [Exit.inBlock, Exit.then])
    have HB2 := two_boxes hz1v hz2v (by omega) (.int .i64 0) (.int .i64 0) (.slice none 0 0) (.int .i64 0) (.int .i64 0) (.slice none 0 0)
    refine bodyPost_ret (results_cell3 rfl _ _ (w.heap.size + 1) (w.heap.size + 1 + 1) 27 27 #[.int .i64 0, .int .i64 0, .slice none 0 0] #[.int .i64 0, .int .i64 0, .slice none 0 0] (0, 0) (0, 0) _ _ rfl rfl HB2.1 HB2.2 Try.underlying27 rfl (by kernel_rfl) Try.underlying27 rfl (by kernel_rfl)) rfl ?_
    exact retSS_no rfl (ext6 (hx1.trans hxv) (by omega) (by omega) _ _ _ _ _ _)
  have hR : inB i 1 ((S.v.length : Int) - 1) = true := inB_yes (by omega) (by omega)
  have hwz : IntKind.i64.wrap (S.z + i) = S.z + i := IntWalk.i64_in _ (by omega)
  have hsec := cutB_ok hV hR
  have hOK : okSp S i = decide (S.z + i ≤ 100000) := by unfold okSp; rw [hV, hR]; rfl
  obtain ⟨a, ha⟩ : ∃ a : Nat, i = (a : Int) := ⟨i.toNat, by omega⟩
  obtain ⟨n, hn⟩ : ∃ n, S.v.length = n := ⟨_, rfl⟩
  obtain ⟨d, hd⟩ : ∃ d, n - a = d := ⟨_, rfl⟩
  subst ha
  have hta : ((a : Int)).toNat = a := Int.toNat_natCast a
  rw [hn] at cV hW1 hp hp1 hbox p2 hcA hv5 hv6 za hR2
  have ha1 : 1 ≤ a := by omega
  have han : a < n := by omega
  have hd1 : 0 < d := by omega
  have hca : ¬ c = a := by have : n ≤ c := hcA; omega
  have hcA' : n ≤ c := hcA
  obtain ⟨ba, oa, rfl, hba, _, _, _⟩ := hp.words (by omega)
  have hqA := hp.subF (lo := 0) (d := a) (by omega)
  have hqB := hp.subF (lo := a) (d := d) (by omega)
  rw [Nat.add_zero] at hqA
  have hLA : (subL S.v 0 a).length = a := subL_len _ _ _
  have hLB : (subL S.v a d).length = d := subL_len _ _ _
  have hcutA : cutA S (a : Int) = ⟨S.x, S.z, subL S.v 0 a⟩ := by unfold cutA; rw [hta]
  have hcutB : cutB S (a : Int) = ⟨S.x, S.z + (a : Int), subL S.v a d⟩ := by unfold cutB; rw [hta, hn, hd]
  have hclA := fun (W : World) (hW : Ext w W) => c_cloneN (w := W) (c := c) (hqA.below (hW.mono hB)) (Nat.le_trans hB hW.size) (by omega) ha1
  have hclB := fun (W : World) (hW : Ext w W) => c_cloneN (w := W) (c := c - a) (hqB.below (hW.mono hB)) (Nat.le_trans hB hW.size) (by omega) hd1
  have CLA := Lib.hid hclA
  have CLB := Lib.hid hclB
  have HLA := Lib.hid hLA
  have HLB := Lib.hid hLB
  have HCA := Lib.hid hcutA
  have HCB := Lib.hid hcutB
  have HSEC := Lib.hid hsec
  have h3 : (a : Int) ≤ (c : Int) := by omega
  have h4 : (a : Int) ≤ (n : Int) := by omega
  obtain ⟨bk, hbk⟩ : ∃ bk, decide (S.z + (a : Int) ≤ 100000) = bk := ⟨_, rfl⟩
  rw [hOK, hbk]
  have HBK := Lib.hid hbk
  clear hp hp1 hqA hqB hR hV hclA hclB hLA hLB hcutA hcutB hsec hOK hbk
  go_enter Try.func34, Try.ntmps34
  go_wp2_with (fail)
  rw [← hW1]
  clear hW1
  go_wp2_with (go_at_call 18; refine Calls.mono cV ?_; rintro e Wa ⟨rfl, hxv⟩; obtain ⟨p0, p1, p2, _⟩ := hbox.ext hxv)
  have hbxa := hbox.ext hxv
  have hz1a := hxv.blk hz1
  have hz2a := hxv.blk hz2
  have hsa : w.heap.size + 1 + 1 + 1 ≤ Wa.heap.size := by have := hxv.size; omega
  have hxa : Ext w Wa := hx1.trans hxv
  clear hxv hx1 hbox hz1 hz2 hs1 cV
  obtain ⟨p0, p1, p2, hbla⟩ := id hbxa
  refine wp_region_any (by kernel_rfl) ?_
  refine wpAny_mo_go (md := .any) (R := Ext) (w := Wa) [(0, 25), (1, 26), (2, 27), (3, 28), (4, 29), (5, 30), (6, 31), (7, 32), (8, 33), (9, 34), (10, 7)] [11] (tl := [_]) (S := ?S3_) (by kernel_rfl) (by rfl) (by rfl) Ext.refl ext_tr (ext_drew1 _) ?hS3_ ?go3_
  case hS3_ => intro vs; simp only [putAll, Act.put, List.setIfInBounds_toArray, List.set_cons_zero, List.set_cons_succ]; rfl
  case go3_ =>
  refine mo_fix _ (by rfl) (by rfl) (by intro vs w1 hx_ hd; have q0 := (hx_.cell hbla).trans p0; have q1 := (hx_.cell hbla).trans p1; have q2 := (hx_.cell hbla).trans p2; go_simp; first | done | rfl) ?_
  refine mo_fix _ (by rfl) (by rfl) (by intro vs w1 hx_ hd; have q0 := (hx_.cell hbla).trans p0; have q1 := (hx_.cell hbla).trans p1; have q2 := (hx_.cell hbla).trans p2; have e0 := hd 0 (by kernel_rfl); simp (decide := true) only [factAt, if_true, if_false] at e0; simp only [e0]; go_simp; first | done | rfl) ?_
  refine mo_fix _ (by rfl) (by rfl) (by intro vs w1 hx_ hd; have q0 := (hx_.cell hbla).trans p0; have q1 := (hx_.cell hbla).trans p1; have q2 := (hx_.cell hbla).trans p2; go_simp; first | done | rfl) ?_
  refine mo_fix _ (by rfl) (by rfl) (by intro vs w1 hx_ hd; have q0 := (hx_.cell hbla).trans p0; have q1 := (hx_.cell hbla).trans p1; have q2 := (hx_.cell hbla).trans p2; have e2 := hd 2 (by kernel_rfl); simp (decide := true) only [factAt, if_true, if_false] at e2; simp only [e2]; go_simp; first | done | rfl) ?_
  refine mo_fix _ (by rfl) (by rfl) (by intro vs w1 hx_ hd; have q0 := (hx_.cell hbla).trans p0; have q1 := (hx_.cell hbla).trans p1; have q2 := (hx_.cell hbla).trans p2; go_simp; first | done | rfl) ?_
  refine mo_fix _ (by rfl) (by rfl) (by intro vs w1 hx_ hd; have q0 := (hx_.cell hbla).trans p0; have q1 := (hx_.cell hbla).trans p1; have q2 := (hx_.cell hbla).trans p2; have e4 := hd 4 (by kernel_rfl); simp (decide := true) only [factAt, if_true, if_false] at e4; simp only [e4]; go_simp; first | done | rfl) ?_
  refine mo_fix _ (by rfl) (by rfl) (by intro vs w1 hx_ hd; have q0 := (hx_.cell hbla).trans p0; have q1 := (hx_.cell hbla).trans p1; have q2 := (hx_.cell hbla).trans p2; go_simp; first | done | rfl) ?_
  refine mo_fix _ (by rfl) (by rfl) (by intro vs w1 hx_ hd; have q0 := (hx_.cell hbla).trans p0; have q1 := (hx_.cell hbla).trans p1; have q2 := (hx_.cell hbla).trans p2; have e5 := hd 5 (by kernel_rfl); have e6 := hd 6 (by kernel_rfl); simp (decide := true) only [factAt, if_true, if_false] at e5 e6; simp only [e5, e6]; go_simp; first | done | rfl) ?_
  refine mo_call (NewL Wa a (subL S.v 0 a)) (by rfl) (by rfl) (by intro v wa wb h1 h2; exact h1.ext h2) (by intro vs w9 hx_ hd; have e7 := hd 7 (by kernel_rfl); simp (decide := true) only [factAt, if_true, if_false] at e7; simp only [e7]; refine ⟨_, _, by go_simp; first | done | rfl | exact ⟨rfl, rfl⟩, ?_⟩; refine Calls.mono (CLA.out w9 (hxa.trans hx_)) ?_; rintro e w4 ⟨v4, rfl, h4, h5⟩; exact ⟨_, rfl, h4.later hx_.size, h5⟩) ?_
  refine mo_of (fun us => .agg #[us 1, us 3, us 8]) (by rfl) (by rfl) (by intro us vs w1 hu hx_ hd; have q0 := (hx_.cell hbla).trans p0; have q1 := (hx_.cell hbla).trans p1; have q2 := (hx_.cell hbla).trans p2; have e1 := hd 1 (by kernel_rfl); have e3 := hd 3 (by kernel_rfl); have e8 := hd 8 (by kernel_rfl); simp (decide := true) only [factAt, if_true, if_false] at e1 e3 e8; rw [hu 1 (by kernel_rfl)]; rw [hu 3 (by kernel_rfl)]; rw [hu 8 (by kernel_rfl)]; obtain ⟨g9, c9, e8, _⟩ := e8; rw [e1, e3, e8]; go_simp; first | done | rfl) ?_
  refine mo_make (fun a => .pointer (some a)) (.cells #[.int .i64 0, .int .i64 0, .slice none 0 0] 27) (by rfl) (by rfl) (by intro vs w1 hx_ hd; have q0 := (hx_.cell hbla).trans p0; have q1 := (hx_.cell hbla).trans p1; have q2 := (hx_.cell hbla).trans p2; go_simp; first | done | rfl) ?_
  refine mo_end ?_
  intro vs w2 hx2 hd
  have e1 := hd 1 (by kernel_rfl)
  have e3 := hd 3 (by kernel_rfl)
  have e8 := hd 8 (by kernel_rfl)
  have e10 := hd 10 (by kernel_rfl)
  obtain ⟨us, hu, e9⟩ := seen_got (hd 9 (by kernel_rfl))
  simp (decide := true) only [factAt, if_true, if_false] at e1 e3 e8 e9 e10
  rw [hu 1 (by kernel_rfl), hu 3 (by kernel_rfl), hu 8 (by kernel_rfl)] at e9
  obtain ⟨gA, capA, e8, hgA, hnA, hgA2, hoA⟩ := e8
  rw [e1, e3, e8] at e9
  obtain ⟨gP, e10, hgP, hbP⟩ := e10
  generalize vs 9 = v9 at e9 ⊢
  generalize vs 10 = v10 at e10 ⊢
  subst e9
  subst e10
  clear hd hu e1 e3 e8
  have hneP := own_ne hoA (by omega) hbP
  obtain ⟨Wb, hWb, hxb, hbPb, hoAb, hsb⟩ := fill_box hx2 hgP hbP hoA hneP (.int .i64 S.x) (.int .i64 S.z) (.slice (some ⟨gA, 0, none⟩) a capA)
  obtain ⟨c0, c1, c2, x0, x1, x2⟩ := three_c hbP
  go_wp2_with (fail)
  (try rw [hWb])
  clear hWb c0 c1 c2 x0 x1 x2 hbP hx2 hoA
  have hbxb := hbxa.ext hxb
  have hz1b := hxb.blk hz1a
  have hz2b := hxb.blk hz2a
  have hszb := hxb.size
  clear p0 p1 p2 hbxa hz1a hz2a
  obtain ⟨p0, p1, p2, hblb⟩ := id hbxb
  refine wp_region_any (by kernel_rfl) ?_
  refine wpAny_mo_go (md := .any) (R := Ext) (w := Wb) [(0, 35), (1, 36), (2, 37), (3, 38), (4, 39), (5, 40), (6, 41), (7, 42), (8, 43), (9, 44), (10, 45), (11, 46), (12, 8)] [13] (tl := [_]) (S := ?S4_) (by kernel_rfl) (by rfl) (by rfl) Ext.refl ext_tr (ext_drew1 _) ?hS4_ ?go4_
  case hS4_ => intro vs; simp only [putAll, Act.put, List.setIfInBounds_toArray, List.set_cons_zero, List.set_cons_succ]; rfl
  case go4_ =>
  refine mo_fix _ (by rfl) (by rfl) (by intro vs w1 hx_ hd; have q0 := (hx_.cell hblb).trans p0; have q1 := (hx_.cell hblb).trans p1; have q2 := (hx_.cell hblb).trans p2; go_simp; first | done | rfl) ?_
  refine mo_fix _ (by rfl) (by rfl) (by intro vs w1 hx_ hd; have q0 := (hx_.cell hblb).trans p0; have q1 := (hx_.cell hblb).trans p1; have q2 := (hx_.cell hblb).trans p2; have e0 := hd 0 (by kernel_rfl); simp (decide := true) only [factAt, if_true, if_false] at e0; simp only [e0]; go_simp; first | done | rfl) ?_
  refine mo_fix _ (by rfl) (by rfl) (by intro vs w1 hx_ hd; have q0 := (hx_.cell hblb).trans p0; have q1 := (hx_.cell hblb).trans p1; have q2 := (hx_.cell hblb).trans p2; go_simp; first | done | rfl) ?_
  refine mo_fix _ (by rfl) (by rfl) (by intro vs w1 hx_ hd; have q0 := (hx_.cell hblb).trans p0; have q1 := (hx_.cell hblb).trans p1; have q2 := (hx_.cell hblb).trans p2; have e2 := hd 2 (by kernel_rfl); simp (decide := true) only [factAt, if_true, if_false] at e2; simp only [e2]; go_simp; first | done | rfl) ?_
  refine mo_fix _ (by rfl) (by rfl) (by intro vs w1 hx_ hd; have q0 := (hx_.cell hblb).trans p0; have q1 := (hx_.cell hblb).trans p1; have q2 := (hx_.cell hblb).trans p2; go_simp; first | done | rfl) ?_
  refine mo_fix _ (by rfl) (by rfl) (by intro vs w1 hx_ hd; have q0 := (hx_.cell hblb).trans p0; have q1 := (hx_.cell hblb).trans p1; have q2 := (hx_.cell hblb).trans p2; have e3 := hd 3 (by kernel_rfl); have e4 := hd 4 (by kernel_rfl); simp (decide := true) only [factAt, if_true, if_false] at e3 e4; simp only [e3, e4]; go_simp; first | done | rfl) ?_
  refine mo_fix _ (by rfl) (by rfl) (by intro vs w1 hx_ hd; have q0 := (hx_.cell hblb).trans p0; have q1 := (hx_.cell hblb).trans p1; have q2 := (hx_.cell hblb).trans p2; go_simp; first | done | rfl) ?_
  refine mo_fix _ (by rfl) (by rfl) (by intro vs w1 hx_ hd; have q0 := (hx_.cell hblb).trans p0; have q1 := (hx_.cell hblb).trans p1; have q2 := (hx_.cell hblb).trans p2; have e6 := hd 6 (by kernel_rfl); simp (decide := true) only [factAt, if_true, if_false] at e6; simp only [e6]; go_simp; first | done | rfl) ?_
  refine mo_fix _ (by rfl) (by rfl) (by intro vs w1 hx_ hd; have q0 := (hx_.cell hblb).trans p0; have q1 := (hx_.cell hblb).trans p1; have q2 := (hx_.cell hblb).trans p2; go_simp; first | done | rfl) ?_
  refine mo_fix _ (by rfl) (by rfl) (by intro vs w1 hx_ hd; have q0 := (hx_.cell hblb).trans p0; have q1 := (hx_.cell hblb).trans p1; have q2 := (hx_.cell hblb).trans p2; have e7 := hd 7 (by kernel_rfl); have e8 := hd 8 (by kernel_rfl); simp (decide := true) only [factAt, if_true, if_false] at e7 e8; simp only [e7, e8]; go_simp; first | done | rfl) ?_
  refine mo_call (NewL Wb d (subL S.v a d)) (by rfl) (by rfl) (by intro v wa wb h1 h2; exact h1.ext h2) (by intro vs w9 hx_ hd; have e7 := hd 9 (by kernel_rfl); simp (decide := true) only [factAt, if_true, if_false] at e7; simp only [e7]; refine ⟨_, _, by go_simp; first | done | rfl | exact ⟨rfl, rfl⟩, ?_⟩; refine Calls.mono (CLB.out w9 ((hxa.trans hxb).trans hx_)) ?_; rintro e w4 ⟨v4, rfl, h4, h5⟩; exact ⟨_, rfl, h4.later hx_.size, h5⟩) ?_
  refine mo_of (fun us => .agg #[us 1, us 5, us 10]) (by rfl) (by rfl) (by intro us vs w1 hu hx_ hd; have q0 := (hx_.cell hblb).trans p0; have q1 := (hx_.cell hblb).trans p1; have q2 := (hx_.cell hblb).trans p2; have e1 := hd 1 (by kernel_rfl); have e5 := hd 5 (by kernel_rfl); have e10 := hd 10 (by kernel_rfl); simp (decide := true) only [factAt, if_true, if_false] at e1 e5 e10; rw [hu 1 (by kernel_rfl)]; rw [hu 5 (by kernel_rfl)]; rw [hu 10 (by kernel_rfl)]; obtain ⟨g9, c9, e10, _⟩ := e10; rw [e1, e5, e10]; go_simp; first | done | rfl) ?_
  refine mo_make (fun a => .pointer (some a)) (.cells #[.int .i64 0, .int .i64 0, .slice none 0 0] 27) (by rfl) (by rfl) (by intro vs w1 hx_ hd; have q0 := (hx_.cell hblb).trans p0; have q1 := (hx_.cell hblb).trans p1; have q2 := (hx_.cell hblb).trans p2; go_simp; first | done | rfl) ?_
  refine mo_end ?_
  intro vs w3 hx3 hd
  have e1 := hd 1 (by kernel_rfl)
  have e5 := hd 5 (by kernel_rfl)
  have e10 := hd 10 (by kernel_rfl)
  have e12 := hd 12 (by kernel_rfl)
  obtain ⟨us, hu, e11⟩ := seen_got (hd 11 (by kernel_rfl))
  simp (decide := true) only [factAt, if_true, if_false] at e1 e5 e10 e11 e12
  rw [hu 1 (by kernel_rfl), hu 5 (by kernel_rfl), hu 10 (by kernel_rfl)] at e11
  obtain ⟨gB, capB, e10, hgB, hnB, hgB2, hoB⟩ := e10
  rw [e1, e5, e10] at e11
  obtain ⟨gQ, e12, hgQ, hbQ⟩ := e12
  generalize vs 11 = v11 at e11 ⊢
  generalize vs 12 = v12 at e12 ⊢
  subst e11
  subst e12
  clear hd hu e1 e5 e10
  have hneQ := own_ne hoB (by omega) hbQ
  obtain ⟨Wc, hWc, hxc, hbQc, hoBc, hsc⟩ := fill_box hx3 hgQ hbQ hoB hneQ (.int .i64 S.x) (.int .i64 (S.z + (a : Int))) (.slice (some ⟨gB, 0, none⟩) d capB)
  obtain ⟨c0, c1, c2, x0, x1, x2⟩ := three_c hbQ
  have hz1c := hxc.blk hz1b
  have hz2c := hxc.blk hz2b
  have hbPc := hxc.blk hbPb
  have hoAc := hoAb.ext (by omega) hxc
  have hszc := hxc.size
  have hxw : Ext w Wc := (hxa.trans hxb).trans hxc
  obtain ⟨g0, g1, g2, _, _, _⟩ := three_c hbQc
  have hrB : RdT Wc (gB + 1) (.agg #[.int .i64 S.x, .int .i64 (S.z + (a : Int)), .slice (some ⟨gB, 0, none⟩) d capB]) ⟨S.x, S.z + (a : Int), subL S.v a d⟩ := (OwT.of (lo := gB) (hi := gB + 1) hoBc hnB).rd
  have cV2 := c_impl_ValidFrame hrB (by omega) (by rw [HLB.out]; omega)
  have hfv : fvF ⟨S.x, S.z + (a : Int), subL S.v a d⟩ = decide (S.z + (a : Int) ≤ 100000) := by rw [← HCB.out]; exact HSEC.out
  rw [hfv] at cV2
  clear p0 p1 p2 hz1b hz2b hbPb hoAb hbxb hrB hfv
  by_cases hZ : S.z + (a : Int) ≤ 100000
  case neg =>
    rw [decide_eq_false hZ] at cV2
    obtain rfl : bk = false := by rw [← HBK.out]; exact decide_eq_false hZ
    clear HBK
    go_wp2_with (go_at_call 18; refine Calls.mono cV2 ?_; rintro e wd ⟨rfl, hxd⟩; have hz1d := hxd.blk hz1c; have hz2d := hxd.blk hz2c; obtain ⟨c0, c1, c2, x0, x1, x2⟩ := three_c hz1d; obtain ⟨d0, d1, d2, y0, y1, y2⟩ := three_c hz2d; have hszd := hxd.size)
    (try simp only [Exit.inBlock, Exit.then])
    have HB2 := two_boxes hz1d hz2d (by omega) (.int .i64 0) (.int .i64 0) (.slice none 0 0) (.int .i64 0) (.int .i64 0) (.slice none 0 0)
    refine bodyPost_ret (results_cell3 rfl _ _ (w.heap.size + 1) (w.heap.size + 1 + 1) 27 27 #[.int .i64 0, .int .i64 0, .slice none 0 0] #[.int .i64 0, .int .i64 0, .slice none 0 0] (0, 0) (0, 0) _ _ rfl rfl HB2.1 HB2.2 Try.underlying27 rfl (by kernel_rfl) Try.underlying27 rfl (by kernel_rfl)) rfl ?_
    exact retSS_no rfl (ext6 (hxw.trans hxd) (by omega) (by omega) _ _ _ _ _ _)
  rw [decide_eq_true hZ] at cV2
  obtain rfl : bk = true := by rw [← HBK.out]; exact decide_eq_true hZ
  clear HBK
  go_wp2_with (go_at_call 18; refine Calls.mono cV2 ?_; rintro e wd ⟨rfl, hxd⟩)
  have hz1d := hxd.blk hz1c
  have hz2d := hxd.blk hz2c
  have hbPd := hxd.blk hbPc
  have hbQd := hxd.blk hbQc
  have hoAd := hoAc.ext (by omega) hxd
  have hoBd := hoBc.ext (by omega) hxd
  have hszd := hxd.size
  have hxwd : Ext w wd := hxw.trans hxd
  clear hz1c hz2c hbPc hbQc hoAc hoBc hxw c0 c1 c2 x0 x1 x2 g0 g1 g2 cV2
  obtain ⟨c0, c1, c2, x0, x1, x2⟩ := three_c hz1d
  obtain ⟨d0, d1, d2, y0, y1, y2⟩ := three_c hz2d
  obtain ⟨f0, f1, f2, _, _, _⟩ := three_c hbPd
  obtain ⟨g0, g1, g2, _, _, _⟩ := three_c hbQd
  have HB2 := Lib.hid (two_boxes hz1d hz2d (by omega) (.int .i64 S.x) (.int .i64 S.z) (.slice (some ⟨gA, 0, none⟩) a capA) (.int .i64 S.x) (.int .i64 (S.z + (a : Int))) (.slice (some ⟨gB, 0, none⟩) d capB))
  have HE6 := Lib.hid (ext6 (g1 := w.heap.size + 1) (g2 := w.heap.size + 1 + 1) hxwd (by omega) (by omega) (.int .i64 S.x) (.int .i64 S.z) (.slice (some ⟨gA, 0, none⟩) a capA) (.int .i64 S.x) (.int .i64 (S.z + (a : Int))) (.slice (some ⟨gB, 0, none⟩) d capB))
  have HOA := Lib.hid (own6 (g1 := w.heap.size + 1) (g2 := w.heap.size + 1 + 1) hoAd (by omega) (by omega) (.int .i64 S.x) (.int .i64 S.z) (.slice (some ⟨gA, 0, none⟩) a capA) (.int .i64 S.x) (.int .i64 (S.z + (a : Int))) (.slice (some ⟨gB, 0, none⟩) d capB))
  have HOB := Lib.hid (own6 (g1 := w.heap.size + 1) (g2 := w.heap.size + 1 + 1) hoBd (by omega) (by omega) (.int .i64 S.x) (.int .i64 S.z) (.slice (some ⟨gA, 0, none⟩) a capA) (.int .i64 S.x) (.int .i64 (S.z + (a : Int))) (.slice (some ⟨gB, 0, none⟩) d capB))
  go_region_with (fail)
  all_goals
    go_wp2_with (fail)
    (try simp only [Exit.inBlock, Exit.then])
    (try simp only [List.getElem_toArray, List.getElem_cons_succ, List.getElem_cons_zero])
    (try simp only [Act.put, List.setIfInBounds_toArray, List.set_cons_zero, List.set_cons_succ])
    refine bodyPost_ret (results_cell3 rfl _ _ (w.heap.size + 1) (w.heap.size + 1 + 1) 27 27 #[.int .i64 S.x, .int .i64 S.z, .slice (some ⟨gA, 0, none⟩) a capA] #[.int .i64 S.x, .int .i64 (S.z + (a : Int)), .slice (some ⟨gB, 0, none⟩) d capB] (0, 0) (0, 0) _ _ rfl rfl (by exact drew_heap HB2.out.1) (by exact drew_heap HB2.out.2) Try.underlying27 rfl (by kernel_rfl) Try.underlying27 rfl (by kernel_rfl)) rfl ?_
    refine ⟨_, _, gA + 1, rfl, ?_, ?_, by omega, by simp; omega, Ext.drew HE6.out⟩
    · rw [show outT true (cutA S (a : Int)) = ⟨S.x, S.z, subL S.v 0 a⟩ from HCA.out]
      exact OwT.of ((OwL.drew HOA.out).more (by omega) (Nat.le_refl _)) hnA
    · rw [show outT true (cutB S (a : Int)) = ⟨S.x, S.z + (a : Int), subL S.v a d⟩ from HCB.out]
      exact OwT.of ((OwL.drew HOB.out).more (by omega) (by simp; omega)) hnB
theorem both_SplitFrame {S0 : Sct} (za0 : S0.v.length ≤ 1048576) (hok0 : S0.Ok) {i1 : Int} (hi1 : -9223372036854775808 ≤ i1) (hj1 : i1 ≤ 9223372036854775807) :
    ∃ ok Q1 Q2, Q1.v.length ≤ 1048576 ∧ Q2.v.length ≤ 1048576 ∧ (∀ W : World, ∀ (B0 : Nat) (v0 : Value), RdT W B0 v0 S0 → B0 ≤ W.heap.size → Calls Try.prog 33 #[v0, .int .i64 i1] W fun e w' => RetSS W e w' ok Q1 Q2) ∧
      (∀ W : World, ∀ (B0 : Nat) (v0 : Value), RdT W B0 v0 S0 → B0 ≤ W.heap.size → Calls Try.prog 34 #[v0, .int .i64 i1] W fun e w' => RetSS W e w' ok Q1 Q2) := by
  refine ⟨okSp S0 i1, outT (okSp S0 i1) (cutA S0 i1), outT (okSp S0 i1) (cutB S0 i1), ?_, ?_, fun _ _ _ h0 hB0 => c_spec_SplitFrame h0 hB0 za0 hok0 hi1 hj1, fun _ _ _ h0 hB0 => c_impl_SplitFrame h0 hB0 za0 hok0 hi1 hj1⟩
  · cases hV : okSp S0 i1
    · exact Nat.zero_le _
    · obtain ⟨_, a, n, h1, h2, h3, h4, h5, h6, _⟩ := okSp_of hV
      show (subL S0.v 0 i1.toNat).length ≤ _
      rw [subL_len]; omega
  · cases hV : okSp S0 i1
    · exact Nat.zero_le _
    · obtain ⟨_, a, n, h1, h2, h3, h4, h5, h6, _⟩ := okSp_of hV
      show (subL S0.v i1.toNat (S0.v.length - i1.toNat)).length ≤ _
      rw [subL_len]; omega
end Go.Proofs.Ytfmhdnhaaohdjaa
