/- Contracts: all traces of a gather become others, the program. Condition: the gather is read. -/
import Derived.Test.YtceldjkgddbfaaaZc
import Derived.Test.YtceldjkgddbfaaaYe
namespace Go.Proofs.Ytceldjkgddbfaaa
open Go.RowKit Ieee

set_option linter.unusedSimpArgs false in
set_option maxRecDepth 20000 in
set_option maxHeartbeats 40000000 in
theorem c_retimeG_curve {w : World} {B : Nat} {v : Value} {G : Gat} (h : RdG w B v G) (hB : B ≤ w.heap.size) (h1 : G.p.length ≤ 1048576) (h2 : G.r.length ≤ 1048576) (h3 : ∀ j, j < G.r.length → (G.r.getD j []).length ≤ 1048576) {s : Nat} {S : Option Nat} (fs : Fl .f32 s S) :
    Calls Try.prog 75 #[v, .float .f32 s, .func (.func 73) #[] #[]] w fun e w' => RetG w e w' (fvG G && fabove S) (allG fcorr S G) := by
  obtain ⟨Ap, cp, At, ct, rfl, hp, hr, hcp, hct⟩ := h.ex
  obtain ⟨W1, hW1⟩ : ∃ W1, W1 = (w.alloc (.cells #[.int .i64 G.t, .slice Ap G.p.length cp, .slice At G.r.length ct] 25)).alloc (.cells #[.int .i64 0, .slice none 0 0, .slice none 0 0] 25) := ⟨_, rfl⟩
  have hbx : GbAt W1 w.heap.size G.t Ap G.p.length cp At G.r.length ct := by rw [hW1]; exact (GbAt.blk (T := 25) (by repeat (first | (refine al_at ?_ ?_ <;> first | rfl | (simp only [al_size] <;> omega)) | apply al_old))).ext (Ext.alloc (Ext.refl _) _)
  have hx1 : Ext w W1 := by rw [hW1]; exact (by repeat (first | assumption | exact Ext.refl _ | apply Ext.drewN | apply Ext.drew | apply Ext.alloc | (refine Ext.trans ?_ (by assumption)) | (refine Ext.set ?_ (by dsimp only; omega) _)))
  have hz1 : W1.heap[w.heap.size + 1]? = some (.cells #[.int .i64 0, .slice none 0 0, .slice none 0 0] 25 (0, 0)) := by rw [hW1]; exact al_at (al_size _ _).symm rfl
  have hs1 : W1.heap.size = w.heap.size + 1 + 1 := by rw [hW1, al_size, al_size]
  have HVA := Lib.hid (c_impl_ValidGather (h.below (hx1.mono hB)) (Nat.le_trans hB hx1.size) h1 h2 h3)
  obtain ⟨p0, p1, p2, _⟩ := id hbx
  cases hV : fvG G
  · rw [hV] at HVA
    go_enter Try.func75, Try.ntmps75
    go_wp2_with (fail)
    rw [← hW1]
    clear hW1
    go_wp2_with ((go_at_call 57; refine Calls.mono HVA.out ?_; rintro e w1 ⟨rfl, hxv⟩; have hbv := hbx.ext hxv; obtain ⟨p0, p1, p2, _⟩ := id hbv; have hzv := hxv.blk hz1; obtain ⟨c0, c1, c2, x0, x1, x2⟩ := three_c hzv))
    (try simp only [Exit.inBlock, Exit.then])
    refine bodyPost_ret (results_cell2 rfl _ _ (w.heap.size + 1) 25 #[.int .i64 0, .slice none 0 0, .slice none 0 0] (0, 0) _ rfl (by repeat (first | exact hzv | exact blk_set1 (blk_set1 (blk_set1 hzv 0 _) 1 _) 2 _)) Try.underlying25 rfl (by kernel_rfl)) rfl ?_
    exact retG_no rfl (by repeat (first | assumption | exact Ext.refl _ | apply Ext.drewN | apply Ext.drew | apply Ext.alloc | (refine Ext.trans ?_ (by assumption)) | (refine Ext.set ?_ (by dsimp only; omega) _)))
  rw [hV] at HVA
  have hVG := fvG_of hV
  rw [Bool.true_and]
  cases hA : fabove S
  · go_enter Try.func75, Try.ntmps75
    go_wp2_with (fail)
    rw [← hW1]
    clear hW1
    go_wp2_with (first | (go_at_call 57; refine Calls.mono HVA.out ?_; rintro e w1 ⟨rfl, hxv⟩; have hbv := hbx.ext hxv; obtain ⟨p0, p1, p2, _⟩ := id hbv; have hzv := hxv.blk hz1; obtain ⟨c0, c1, c2, x0, x1, x2⟩ := three_c hzv) | (go_at_call 71; refine Calls.mono (c_isPositive fs) ?_; rw [hA]; rintro e w4 ⟨rfl, n2, rfl⟩))
    (try simp only [Exit.inBlock, Exit.then])
    refine bodyPost_ret (results_cell2 rfl _ _ (w.heap.size + 1) 25 #[.int .i64 0, .slice none 0 0, .slice none 0 0] (0, 0) _ rfl (by repeat (first | exact hzv | exact blk_set1 (blk_set1 (blk_set1 hzv 0 _) 1 _) 2 _)) Try.underlying25 rfl (by kernel_rfl)) rfl ?_
    exact retG_no rfl (by repeat (first | assumption | exact Ext.refl _ | apply Ext.drewN | apply Ext.drew | apply Ext.alloc | (refine Ext.trans ?_ (by assumption)) | (refine Ext.set ?_ (by dsimp only; omega) _)))
  have hpl := hp.len
  have hrl := hr.len
  have hn1 := hVG.n1
  have hmn := hVG.m
  have hrw : ∀ j, j < G.r.length → 1 ≤ (G.r.getD j []).length ∧ (G.r.getD j []).length ≤ 64 := fun j hj => by
    have h4 := hVG.row j hj
    have h5 := hVG.t1
    have h6 := hVG.t2
    omega
  have HCO := Lib.hid (fun (W : World) (hW : Ext W1 W) => c_copyGather (w := W) (cp := cp) (ct := ct) (hp.below ((hx1.trans hW).mono hB)) (hr.below ((hx1.trans hW).mono hB)) (Nat.le_trans hB (hx1.trans hW).size) h1 h2 h3 (by omega) (by omega) (fun j hj => (hrw j hj).1))
  obtain ⟨m, hm⟩ : ∃ m, G.p.length = m := ⟨_, rfl⟩
  rw [hmn, hm] at hrw
  rw [hm] at hn1 hp hbx h1 HVA HCO p1 hcp
  rw [hmn, hm] at hr hbx h2 HVA HCO p2 hct
  have hRL : G.r.length = m := hmn.trans hm
  have HRW := Lib.hid hrw
  have HPL := Lib.hid hm
  have HRL := Lib.hid hRL
  have HP := Lib.hid hp
  have HR := Lib.hid hr
  have HBX1 := Lib.hid hbx
  have hn2 : m ≤ 16 := by rw [← hm]; exact hVG.n2
  rw [hm, hRL] at hW1
  rw [hm, hRL]
  clear hVG hmn hpl hrl hrw hp hr h3 h hm hRL
  go_enter Try.func75, Try.ntmps75
  go_wp2_with (fail)
  rw [← hW1]
  clear hW1
  go_wp2_with (first | (go_at_call 57; refine Calls.mono HVA.out ?_; rintro e w1 ⟨rfl, hxv⟩; have hbv := hbx.ext hxv; obtain ⟨p0, p1, p2, _⟩ := id hbv; have hzv := hxv.blk hz1; obtain ⟨c0, c1, c2, x0, x1, x2⟩ := three_c hzv) | (go_at_call 71; refine Calls.mono (c_isPositive fs) ?_; rw [hA]; rintro e w4 ⟨rfl, n2, rfl⟩) | (go_at_call 72; refine Calls.mono (HCO.out _ (by repeat (first | assumption | exact Ext.refl _ | apply Ext.drewN | apply Ext.drew | apply Ext.alloc | (refine Ext.trans ?_ (by assumption)) | (refine Ext.set ?_ (by dsimp only; omega) _)))) ?_; rintro e w2 ⟨x, rfl, ho, hx2⟩; obtain ⟨Ap2, cp2, At2, ct2, gp, g, f, hv, hop⟩ := ho.inP; rw [HPL.out, HRL.out] at hv hop; subst hv; have hx12 : Ext W1 w2 := (by repeat (first | assumption | exact Ext.refl _ | apply Ext.drewN | apply Ext.drew | apply Ext.alloc | (refine Ext.trans ?_ (by assumption)) | (refine Ext.set ?_ (by dsimp only; omega) _))); have hb2 := HBX1.out.ext hx12; obtain ⟨b0, b1', b2', _⟩ := id hb2))
  have hx02 : Ext w w2 := hx1.trans hx12
  have hzb := hx12.blk hz1
  have hz2 := hx12.size
  have hz3 := hx2.size
  simp only [size_drewN] at hz3 hop
  have hz4 := hxv.size
  have hgb := hop.g_in.resolve_left (by omega)
  have HOP := Lib.hid hop
  have HZB := Lib.hid hzb
  clear hop hzb ho p0 p1 p2 b0 b1' b2'
  go_loopw [25] (fun y wr => ∃ (k : Nat) (f' : Nat → Nat) (R' : List (List (Option Nat))), k ≤ m ∧ y = .int .i64 k ∧ wr.heap[w2.heap.size]? = some (.cells #[.int .i64 G.t, .slice Ap2 m cp2, .slice At2 m ct2] 25 (0, 0)) ∧ wr.heap[w.heap.size + 1]? = some (.cells #[.int .i64 0, .slice none 0 0, .slice none 0 0] 25 (0, 0)) ∧ OwP wr (w.heap.size + 1 + 1) wr.heap.size Ap2 m cp2 At2 m ct2 gp g f' G.p R' ∧ (∀ j, j < k → R'.getD j [] = allF fcorr S G j) ∧ Ext W1 wr) (fun y _ => m - (intOf y).toNat)
  case atStart => exact ⟨0, f, G.r, Nat.zero_le _, rfl, (by first | exact heap_alloc_new w2 _ | exact blk_set1 (blk_set1 (blk_set1 (heap_alloc_new w2 _) 0 _) 1 _) 2 _), (by repeat (first | exact HZB.out | apply al_old | (refine set_other ?_ (by dsimp only; omega)))), ((HOP.out.ext (Nat.le_refl _) (by repeat (first | assumption | exact Ext.refl _ | apply Ext.drewN | apply Ext.drew | apply Ext.alloc | (refine Ext.trans ?_ (by assumption)) | (refine Ext.set ?_ (by dsimp only; omega) _)))).more (by omega) (by simp)), fun j hj => absurd hj (Nat.not_lt_zero _), (by repeat (first | assumption | exact Ext.refl _ | apply Ext.drewN | apply Ext.drew | apply Ext.alloc | (refine Ext.trans ?_ (by assumption)) | (refine Ext.set ?_ (by dsimp only; omega) _)))⟩
  case round =>
    obtain ⟨k, f', R', hk, rfl, hbX, hzX, hop, hpt, hx⟩ := hrel
    have HBX := Lib.hid hbX
    have HZX := Lib.hid hzX
    have HPT := Lib.hid hpt
    have HOQ := Lib.hid hop
    have hs2 := blk_lt hbX
    have hx0r : Ext w wr := hx1.trans hx
    by_cases hlt : k < m
    · have hlt' : (k : Int) < (m : Int) := by omega
      obtain ⟨b1, o1, A', c', rfl, hb1, hc1, hrd, hlc⟩ := (HR.out.below (hx0r.mono hB)).cell hlt
      obtain ⟨b3, o3, t3, rfl, hb3, hc3, ht3⟩ := (HP.out.below (hx0r.mono hB)).cell hlt
      obtain ⟨off, A4, c4, rfl, hc4, hz4, _⟩ := hop.row hlt
      obtain ⟨g1, g2⟩ := HRW.out k hlt
      obtain ⟨Lk, hLk⟩ : ∃ x, (G.r.getD k []).length = x := ⟨_, rfl⟩
      rw [hLk] at hc1 hrd hlc g1 g2
      have HLK := Lib.hid hLk
      have hbr := HBX1.out.ext hx
      have hblr := hbr.lt
      have hb1r : b1 < wr.heap.size := by have := hx0r.size; omega
      have hb3r : b3 < wr.heap.size := by have := hx0r.size; omega
      have p2r := hbr.p2
      obtain ⟨P3, hP3⟩ : ∃ P3, G.p.getD k none = P3 := ⟨_, rfl⟩
      rw [hP3] at ht3
      have HP3 := Lib.hid hP3
      have HCU := Lib.hid (fun (W : World) => c_curveOf (w := W) ht3 fs)
      have HRO := Lib.hid (fun (W : World) (hW : Ext wr W) (gq q : Nat) (hq : W.cell? ⟨gq, 0, none⟩ = some (.float .f32 q)) (hl : gq < W.heap.size) (fq : Fl .f32 q (fop .quo .f32 P3 S)) => c_sampled_curve (w := W) (c := c') (hrd.below (hW.mono (Nat.le_trans hB hx0r.size))) (Nat.le_trans hB (hx0r.trans hW).size) g1 g2 hq hl fq)
      have hRl := hop.sp.len
      have HRLn := Lib.hid hRl
      obtain ⟨d0, d1, d2, y0, y1, y2⟩ := three_c hbX
      clear hbX hzX hpt hop hrd hLk hc4 hz4 hRl hbr hP3
      go_wp2_with (fail)
      refine wp_region_any (by kernel_rfl) ?_
      refine wpAny_mo_go (md := .any) (R := Ext) (w := wr) [(0, 30), (1, 31), (2, 32), (3, 33), (4, 34), (5, 35), (6, 36), (7, 37), (8, 38), (9, 39), (10, 40), (11, 41), (12, 42)] [13, 14] (tl := [_, _]) (S := ?S1_) (by kernel_rfl) (by rfl) (by rfl) Ext.refl ext_tr (ext_drew1 _) ?hS1_ ?go1_
      case hS1_ => intro vs; simp only [putAll, Act.put, List.setIfInBounds_toArray, List.set_cons_zero, List.set_cons_succ]; rfl
      case go1_ =>
      refine mo_fix _ (by rfl) (by rfl) (by intro vs w1 hx_ hd; have q0 := (three_c (hx_.blk HBX.out)).2.2.1; have q2 := (hx_.cell (p := ⟨w.heap.size, 2, none⟩) hblr).trans p2r; have q3 := (hx_.cell (p := ⟨b1, o1 + k, none⟩) hb1r).trans hc1; go_simp; first | done | rfl) ?_
      refine mo_fix _ (by rfl) (by rfl) (by intro vs w1 hx_ hd; have q0 := (three_c (hx_.blk HBX.out)).2.2.1; have q2 := (hx_.cell (p := ⟨w.heap.size, 2, none⟩) hblr).trans p2r; have q3 := (hx_.cell (p := ⟨b1, o1 + k, none⟩) hb1r).trans hc1; have e0 := hd 0 (by kernel_rfl); simp (decide := true) only [factAt, if_true, if_false] at e0; simp only [e0]; go_simp; first | done | rfl) ?_
      refine mo_fix _ (by rfl) (by rfl) (by intro vs w1 hx_ hd; have q0 := (three_c (hx_.blk HBX.out)).2.2.1; have q2 := (hx_.cell (p := ⟨w.heap.size, 2, none⟩) hblr).trans p2r; have q3 := (hx_.cell (p := ⟨b1, o1 + k, none⟩) hb1r).trans hc1; go_simp; first | done | rfl) ?_
      refine mo_fix _ (by rfl) (by rfl) (by intro vs w1 hx_ hd; have q0 := (three_c (hx_.blk HBX.out)).2.2.1; have q2 := (hx_.cell (p := ⟨w.heap.size, 2, none⟩) hblr).trans p2r; have q3 := (hx_.cell (p := ⟨b1, o1 + k, none⟩) hb1r).trans hc1; go_simp; first | done | rfl) ?_
      refine mo_fix _ (by rfl) (by rfl) (by intro vs w1 hx_ hd; have q0 := (three_c (hx_.blk HBX.out)).2.2.1; have q2 := (hx_.cell (p := ⟨w.heap.size, 2, none⟩) hblr).trans p2r; have q3 := (hx_.cell (p := ⟨b1, o1 + k, none⟩) hb1r).trans hc1; have e3 := hd 3 (by kernel_rfl); simp (decide := true) only [factAt, if_true, if_false] at e3; simp only [e3]; go_simp; first | done | rfl) ?_
      refine mo_fix _ (by rfl) (by rfl) (by intro vs w1 hx_ hd; have q0 := (three_c (hx_.blk HBX.out)).2.2.1; have q2 := (hx_.cell (p := ⟨w.heap.size, 2, none⟩) hblr).trans p2r; have q3 := (hx_.cell (p := ⟨b1, o1 + k, none⟩) hb1r).trans hc1; go_simp; first | done | rfl) ?_
      refine mo_fix _ (by rfl) (by rfl) (by intro vs w1 hx_ hd; have q0 := (three_c (hx_.blk HBX.out)).2.2.1; have q2 := (hx_.cell (p := ⟨w.heap.size, 2, none⟩) hblr).trans p2r; have q3 := (hx_.cell (p := ⟨b1, o1 + k, none⟩) hb1r).trans hc1; have e4 := hd 4 (by kernel_rfl); have e5 := hd 5 (by kernel_rfl); simp (decide := true) only [factAt, if_true, if_false] at e4 e5; simp only [e4, e5]; go_simp; first | done | rfl) ?_
      refine mo_fix _ (by rfl) (by rfl) (by intro vs w1 hx_ hd; have q0 := (three_c (hx_.blk HBX.out)).2.2.1; have q2 := (hx_.cell (p := ⟨w.heap.size, 2, none⟩) hblr).trans p2r; have q3 := (hx_.cell (p := ⟨b1, o1 + k, none⟩) hb1r).trans hc1; have e6 := hd 6 (by kernel_rfl); simp (decide := true) only [factAt, if_true, if_false] at e6; simp only [e6]; go_simp; first | done | rfl) ?_
      refine mo_fix _ (by rfl) (by rfl) (by intro vs w1 hx_ hd; have q0 := (three_c (hx_.blk HBX.out)).2.2.1; have q2 := (hx_.cell (p := ⟨w.heap.size, 2, none⟩) hblr).trans p2r; have q3 := (hx_.cell (p := ⟨b1, o1 + k, none⟩) hb1r).trans hc1; go_simp; first | done | rfl) ?_
      refine mo_fix _ (by rfl) (by rfl) (by intro vs w1 hx_ hd; have q0 := (three_c (hx_.blk HBX.out)).2.2.1; have q2 := (hx_.cell (p := ⟨w.heap.size, 2, none⟩) hblr).trans p2r; have q3 := (hx_.cell (p := ⟨b1, o1 + k, none⟩) hb1r).trans hc1; go_simp; first | done | rfl) ?_
      refine mo_fix _ (by rfl) (by rfl) (by intro vs w1 hx_ hd; have q0 := (three_c (hx_.blk HBX.out)).2.2.1; have q2 := (hx_.cell (p := ⟨w.heap.size, 2, none⟩) hblr).trans p2r; have q3 := (hx_.cell (p := ⟨b1, o1 + k, none⟩) hb1r).trans hc1; go_simp; first | done | rfl) ?_
      refine mo_call (fun v w => ∃ gq q, v = .func (.func 99) #[] #[.pointer (some ⟨gq, 0, none⟩)] ∧ gq < w.heap.size ∧ w.cell? ⟨gq, 0, none⟩ = some (.float .f32 q) ∧ Fl .f32 q (fop .quo .f32 P3 S)) (by rfl) (by rfl) (by rintro v wa wb ⟨gq, q, h1, h2, h3, h4⟩ hxab; exact ⟨gq, q, h1, Nat.lt_of_lt_of_le h2 hxab.size, (hxab.cell (p := ⟨gq, 0, none⟩) h2).trans h3, h4⟩) (by intro vs w1 hx_ hd; have e8 := hd 8 (by kernel_rfl); have e9 := hd 9 (by kernel_rfl); have e10 := hd 10 (by kernel_rfl); simp (decide := true) only [factAt, if_true, if_false] at e8 e9 e10; simp only [e8, e9, e10]; refine ⟨_, _, by go_simp; first | done | rfl | exact ⟨rfl, rfl⟩, ?_⟩; refine Calls.mono (HCU.out w1) ?_; rintro e w5 ⟨gq, q, rfl, _, h2, h3, h4, hx5⟩; exact ⟨_, rfl, ⟨gq, q, rfl, h2, h3, h4⟩, hx5⟩) ?_
      refine mo_call (fun v w => ∃ b9 c9, v = .slice (some ⟨b9, 0, none⟩) Lk c9 ∧ Lk ≤ c9 ∧ wr.heap.size ≤ b9 ∧ b9 < w.heap.size ∧ OwL w b9 (b9 + 1) (some ⟨b9, 0, none⟩) Lk (lst (fcorr (G.r.getD k []) P3 S) Lk)) (by rfl) (by rfl) (by rintro v wa wb ⟨b9, c9, h1, h2, h3, h4, h5⟩ hxab; exact ⟨b9, c9, h1, h2, h3, Nat.lt_of_lt_of_le h4 hxab.size, h5.ext (by omega) hxab⟩) (by intro vs w1 hx_ hd; have e7 := hd 7 (by kernel_rfl); have e11 := hd 11 (by kernel_rfl); simp (decide := true) only [factAt, if_true, if_false] at e7 e11; obtain ⟨gq, q, e11, q2, q3, q4⟩ := e11; simp only [e7, e11]; refine ⟨_, _, by go_simp; first | done | rfl | exact ⟨rfl, rfl⟩, ?_⟩; refine Calls.mono (HRO.out w1 hx_ gq q q3 q2 q4) ?_; rintro e w5 ⟨rfl, ho5, hx5, hs5⟩; exact ⟨_, rfl, ⟨w1.heap.size, Lk, rfl, Nat.le_refl _, hx_.size, hs5, ho5⟩, hx5⟩) ?_
      refine mo_end ?_
      intro vs w3 hx3 hd
      have e1 := hd 1 (by kernel_rfl)
      have e2 := hd 2 (by kernel_rfl)
      have e12 := hd 12 (by kernel_rfl)
      simp (decide := true) only [factAt, if_true, if_false] at e1 e2 e12
      obtain ⟨b9, c9, e12, h2, h3, h4, h5⟩ := e12
      have hll : (lst (fcorr (G.r.getD k []) P3 S) Lk).length = Lk := lst_len _ _
      obtain ⟨off', u, hA4, hc4, hz4, hput⟩ := HOQ.out.put (A' := some ⟨b9, 0, none⟩) (c' := c9) (row := lst (fcorr (G.r.getD k []) P3 S) Lk) hx3 (Nat.le_refl _) hlt (by rw [hll]; exact h5) (by rw [hll]; exact h2) h3 h4 (by have := hx.size; omega) hn1
      obtain rfl : off = off' := by simpa using hA4
      rw [hll] at hput
      have HPUT := Lib.hid hput
      have HBX3 := Lib.hid (hx3.blk HBX.out)
      have HZX3 := Lib.hid (hx3.blk HZX.out)
      simp only [e1, e2, e12]
      clear hd hput h5 hll e1 e2 e12
      go_wp2_with (fail)
      exact ⟨⟨k + 1, fun j => if j = k then b9 else f' j, R'.set k (lst (fcorr (G.r.getD k []) P3 S) Lk), by omega, by go_num, set_other HBX3.out (by dsimp only; omega), set_other HZX3.out (by dsimp only; omega), HPUT.out.more (Nat.le_refl _) (by simp), fun j hj => by
        by_cases hjk : j = k
        · subst hjk
          rw [getD_set_at (by rw [HRLn.out]; exact hlt)]
          unfold allF
          rw [HLK.out, HP3.out]
        · rw [getD_set_no hjk]; exact HPT.out j (by omega), Ext.set (hx.trans hx3) (by dsimp only; omega) _⟩, by simp [intOf]; omega⟩
    · obtain rfl : k = m := by omega
      obtain ⟨d0, d1, d2, y0, y1, y2⟩ := three_c hbX
      obtain ⟨c0', c1', c2', x0', x1', x2'⟩ := three_c hzX
      have hR : R' = lstS (allF fcorr S G) k := lstS_all hop.sp.len hpt
      have hG : OwG wr (w.heap.size + 1 + 1) wr.heap.size (.agg #[.int .i64 G.t, .slice Ap2 k cp2, .slice At2 k ct2]) (allG fcorr S G) := by
        have h1 := hop.toG (t := G.t)
        rw [hR] at h1
        unfold allG
        rw [HRL.out]
        exact h1
      have HG := Lib.hid hG
      have HBZ := Lib.hid (fun u0 u1 u2 => blk_set1 (blk_set1 (blk_set1 hzX 0 u0) 1 u1) 2 u2)
      clear hG hbX hzX hpt hop hR
      go_wp2_with (fail)
      (try simp only [Exit.inBlock, Exit.then])
      refine bodyPost_ret (results_cell2 rfl _ _ (w.heap.size + 1) 25 #[.int .i64 G.t, .slice Ap2 k cp2, .slice At2 k ct2] (0, 0) _ rfl (HBZ.out _ _ _) Try.underlying25 rfl (by kernel_rfl)) rfl ?_
      exact ⟨_, rfl, by
        refine OwG.more (lo := w.heap.size + 1 + 1) (hi := wr.heap.size) ?_ (by omega) (by simp)
        repeat (first | exact HG.out | (refine OwG.setOther ?_ (by left; dsimp only; omega) _)), (by repeat (first | assumption | exact Ext.refl _ | apply Ext.drewN | apply Ext.drew | apply Ext.alloc | (refine Ext.trans ?_ (by assumption)) | (refine Ext.set ?_ (by dsimp only; omega) _)))⟩
set_option linter.unusedSimpArgs false in
set_option maxRecDepth 20000 in
set_option maxHeartbeats 40000000 in
theorem c_retimeG_straight {w : World} {B : Nat} {v : Value} {G : Gat} (h : RdG w B v G) (hB : B ≤ w.heap.size) (h1 : G.p.length ≤ 1048576) (h2 : G.r.length ≤ 1048576) (h3 : ∀ j, j < G.r.length → (G.r.getD j []).length ≤ 1048576) {s : Nat} {S : Option Nat} (fs : Fl .f32 s S) :
    Calls Try.prog 75 #[v, .float .f32 s, .func (.func 76) #[] #[]] w fun e w' => RetG w e w' (fvG G && fabove S) (allG fbend S G) := by
  obtain ⟨Ap, cp, At, ct, rfl, hp, hr, hcp, hct⟩ := h.ex
  obtain ⟨W1, hW1⟩ : ∃ W1, W1 = (w.alloc (.cells #[.int .i64 G.t, .slice Ap G.p.length cp, .slice At G.r.length ct] 25)).alloc (.cells #[.int .i64 0, .slice none 0 0, .slice none 0 0] 25) := ⟨_, rfl⟩
  have hbx : GbAt W1 w.heap.size G.t Ap G.p.length cp At G.r.length ct := by rw [hW1]; exact (GbAt.blk (T := 25) (by repeat (first | (refine al_at ?_ ?_ <;> first | rfl | (simp only [al_size] <;> omega)) | apply al_old))).ext (Ext.alloc (Ext.refl _) _)
  have hx1 : Ext w W1 := by rw [hW1]; exact (by repeat (first | assumption | exact Ext.refl _ | apply Ext.drewN | apply Ext.drew | apply Ext.alloc | (refine Ext.trans ?_ (by assumption)) | (refine Ext.set ?_ (by dsimp only; omega) _)))
  have hz1 : W1.heap[w.heap.size + 1]? = some (.cells #[.int .i64 0, .slice none 0 0, .slice none 0 0] 25 (0, 0)) := by rw [hW1]; exact al_at (al_size _ _).symm rfl
  have hs1 : W1.heap.size = w.heap.size + 1 + 1 := by rw [hW1, al_size, al_size]
  have HVA := Lib.hid (c_impl_ValidGather (h.below (hx1.mono hB)) (Nat.le_trans hB hx1.size) h1 h2 h3)
  obtain ⟨p0, p1, p2, _⟩ := id hbx
  cases hV : fvG G
  · rw [hV] at HVA
    go_enter Try.func75, Try.ntmps75
    go_wp2_with (fail)
    rw [← hW1]
    clear hW1
    go_wp2_with ((go_at_call 57; refine Calls.mono HVA.out ?_; rintro e w1 ⟨rfl, hxv⟩; have hbv := hbx.ext hxv; obtain ⟨p0, p1, p2, _⟩ := id hbv; have hzv := hxv.blk hz1; obtain ⟨c0, c1, c2, x0, x1, x2⟩ := three_c hzv))
    (try simp only [Exit.inBlock, Exit.then])
    refine bodyPost_ret (results_cell2 rfl _ _ (w.heap.size + 1) 25 #[.int .i64 0, .slice none 0 0, .slice none 0 0] (0, 0) _ rfl (by repeat (first | exact hzv | exact blk_set1 (blk_set1 (blk_set1 hzv 0 _) 1 _) 2 _)) Try.underlying25 rfl (by kernel_rfl)) rfl ?_
    exact retG_no rfl (by repeat (first | assumption | exact Ext.refl _ | apply Ext.drewN | apply Ext.drew | apply Ext.alloc | (refine Ext.trans ?_ (by assumption)) | (refine Ext.set ?_ (by dsimp only; omega) _)))
  rw [hV] at HVA
  have hVG := fvG_of hV
  rw [Bool.true_and]
  cases hA : fabove S
  · go_enter Try.func75, Try.ntmps75
    go_wp2_with (fail)
    rw [← hW1]
    clear hW1
    go_wp2_with (first | (go_at_call 57; refine Calls.mono HVA.out ?_; rintro e w1 ⟨rfl, hxv⟩; have hbv := hbx.ext hxv; obtain ⟨p0, p1, p2, _⟩ := id hbv; have hzv := hxv.blk hz1; obtain ⟨c0, c1, c2, x0, x1, x2⟩ := three_c hzv) | (go_at_call 71; refine Calls.mono (c_isPositive fs) ?_; rw [hA]; rintro e w4 ⟨rfl, n2, rfl⟩))
    (try simp only [Exit.inBlock, Exit.then])
    refine bodyPost_ret (results_cell2 rfl _ _ (w.heap.size + 1) 25 #[.int .i64 0, .slice none 0 0, .slice none 0 0] (0, 0) _ rfl (by repeat (first | exact hzv | exact blk_set1 (blk_set1 (blk_set1 hzv 0 _) 1 _) 2 _)) Try.underlying25 rfl (by kernel_rfl)) rfl ?_
    exact retG_no rfl (by repeat (first | assumption | exact Ext.refl _ | apply Ext.drewN | apply Ext.drew | apply Ext.alloc | (refine Ext.trans ?_ (by assumption)) | (refine Ext.set ?_ (by dsimp only; omega) _)))
  have hpl := hp.len
  have hrl := hr.len
  have hn1 := hVG.n1
  have hmn := hVG.m
  have hrw : ∀ j, j < G.r.length → 1 ≤ (G.r.getD j []).length ∧ (G.r.getD j []).length ≤ 64 := fun j hj => by
    have h4 := hVG.row j hj
    have h5 := hVG.t1
    have h6 := hVG.t2
    omega
  have HCO := Lib.hid (fun (W : World) (hW : Ext W1 W) => c_copyGather (w := W) (cp := cp) (ct := ct) (hp.below ((hx1.trans hW).mono hB)) (hr.below ((hx1.trans hW).mono hB)) (Nat.le_trans hB (hx1.trans hW).size) h1 h2 h3 (by omega) (by omega) (fun j hj => (hrw j hj).1))
  obtain ⟨m, hm⟩ : ∃ m, G.p.length = m := ⟨_, rfl⟩
  rw [hmn, hm] at hrw
  rw [hm] at hn1 hp hbx h1 HVA HCO p1 hcp
  rw [hmn, hm] at hr hbx h2 HVA HCO p2 hct
  have hRL : G.r.length = m := hmn.trans hm
  have HRW := Lib.hid hrw
  have HPL := Lib.hid hm
  have HRL := Lib.hid hRL
  have HP := Lib.hid hp
  have HR := Lib.hid hr
  have HBX1 := Lib.hid hbx
  have hn2 : m ≤ 16 := by rw [← hm]; exact hVG.n2
  rw [hm, hRL] at hW1
  rw [hm, hRL]
  clear hVG hmn hpl hrl hrw hp hr h3 h hm hRL
  go_enter Try.func75, Try.ntmps75
  go_wp2_with (fail)
  rw [← hW1]
  clear hW1
  go_wp2_with (first | (go_at_call 57; refine Calls.mono HVA.out ?_; rintro e w1 ⟨rfl, hxv⟩; have hbv := hbx.ext hxv; obtain ⟨p0, p1, p2, _⟩ := id hbv; have hzv := hxv.blk hz1; obtain ⟨c0, c1, c2, x0, x1, x2⟩ := three_c hzv) | (go_at_call 71; refine Calls.mono (c_isPositive fs) ?_; rw [hA]; rintro e w4 ⟨rfl, n2, rfl⟩) | (go_at_call 72; refine Calls.mono (HCO.out _ (by repeat (first | assumption | exact Ext.refl _ | apply Ext.drewN | apply Ext.drew | apply Ext.alloc | (refine Ext.trans ?_ (by assumption)) | (refine Ext.set ?_ (by dsimp only; omega) _)))) ?_; rintro e w2 ⟨x, rfl, ho, hx2⟩; obtain ⟨Ap2, cp2, At2, ct2, gp, g, f, hv, hop⟩ := ho.inP; rw [HPL.out, HRL.out] at hv hop; subst hv; have hx12 : Ext W1 w2 := (by repeat (first | assumption | exact Ext.refl _ | apply Ext.drewN | apply Ext.drew | apply Ext.alloc | (refine Ext.trans ?_ (by assumption)) | (refine Ext.set ?_ (by dsimp only; omega) _))); have hb2 := HBX1.out.ext hx12; obtain ⟨b0, b1', b2', _⟩ := id hb2))
  have hx02 : Ext w w2 := hx1.trans hx12
  have hzb := hx12.blk hz1
  have hz2 := hx12.size
  have hz3 := hx2.size
  simp only [size_drewN] at hz3 hop
  have hz4 := hxv.size
  have hgb := hop.g_in.resolve_left (by omega)
  have HOP := Lib.hid hop
  have HZB := Lib.hid hzb
  clear hop hzb ho p0 p1 p2 b0 b1' b2'
  go_loopw [25] (fun y wr => ∃ (k : Nat) (f' : Nat → Nat) (R' : List (List (Option Nat))), k ≤ m ∧ y = .int .i64 k ∧ wr.heap[w2.heap.size]? = some (.cells #[.int .i64 G.t, .slice Ap2 m cp2, .slice At2 m ct2] 25 (0, 0)) ∧ wr.heap[w.heap.size + 1]? = some (.cells #[.int .i64 0, .slice none 0 0, .slice none 0 0] 25 (0, 0)) ∧ OwP wr (w.heap.size + 1 + 1) wr.heap.size Ap2 m cp2 At2 m ct2 gp g f' G.p R' ∧ (∀ j, j < k → R'.getD j [] = allF fbend S G j) ∧ Ext W1 wr) (fun y _ => m - (intOf y).toNat)
  case atStart => exact ⟨0, f, G.r, Nat.zero_le _, rfl, (by first | exact heap_alloc_new w2 _ | exact blk_set1 (blk_set1 (blk_set1 (heap_alloc_new w2 _) 0 _) 1 _) 2 _), (by repeat (first | exact HZB.out | apply al_old | (refine set_other ?_ (by dsimp only; omega)))), ((HOP.out.ext (Nat.le_refl _) (by repeat (first | assumption | exact Ext.refl _ | apply Ext.drewN | apply Ext.drew | apply Ext.alloc | (refine Ext.trans ?_ (by assumption)) | (refine Ext.set ?_ (by dsimp only; omega) _)))).more (by omega) (by simp)), fun j hj => absurd hj (Nat.not_lt_zero _), (by repeat (first | assumption | exact Ext.refl _ | apply Ext.drewN | apply Ext.drew | apply Ext.alloc | (refine Ext.trans ?_ (by assumption)) | (refine Ext.set ?_ (by dsimp only; omega) _)))⟩
  case round =>
    obtain ⟨k, f', R', hk, rfl, hbX, hzX, hop, hpt, hx⟩ := hrel
    have HBX := Lib.hid hbX
    have HZX := Lib.hid hzX
    have HPT := Lib.hid hpt
    have HOQ := Lib.hid hop
    have hs2 := blk_lt hbX
    have hx0r : Ext w wr := hx1.trans hx
    by_cases hlt : k < m
    · have hlt' : (k : Int) < (m : Int) := by omega
      obtain ⟨b1, o1, A', c', rfl, hb1, hc1, hrd, hlc⟩ := (HR.out.below (hx0r.mono hB)).cell hlt
      obtain ⟨b3, o3, t3, rfl, hb3, hc3, ht3⟩ := (HP.out.below (hx0r.mono hB)).cell hlt
      obtain ⟨off, A4, c4, rfl, hc4, hz4, _⟩ := hop.row hlt
      obtain ⟨g1, g2⟩ := HRW.out k hlt
      obtain ⟨Lk, hLk⟩ : ∃ x, (G.r.getD k []).length = x := ⟨_, rfl⟩
      rw [hLk] at hc1 hrd hlc g1 g2
      have HLK := Lib.hid hLk
      have hbr := HBX1.out.ext hx
      have hblr := hbr.lt
      have hb1r : b1 < wr.heap.size := by have := hx0r.size; omega
      have hb3r : b3 < wr.heap.size := by have := hx0r.size; omega
      have p2r := hbr.p2
      obtain ⟨P3, hP3⟩ : ∃ P3, G.p.getD k none = P3 := ⟨_, rfl⟩
      rw [hP3] at ht3
      have HP3 := Lib.hid hP3
      have HCU := Lib.hid (fun (W : World) => c_straightOf (w := W) ht3 fs)
      have HRO := Lib.hid (fun (W : World) (hW : Ext wr W) (gq q : Nat) (hq : W.cell? ⟨gq, 0, none⟩ = some (.float .f32 q)) (hl : gq < W.heap.size) (fq : Fl .f32 q (fsqq P3 S)) => c_sampled_straight (w := W) (c := c') (hrd.below (hW.mono (Nat.le_trans hB hx0r.size))) (Nat.le_trans hB (hx0r.trans hW).size) g1 g2 hq hl fq)
      have hRl := hop.sp.len
      have HRLn := Lib.hid hRl
      obtain ⟨d0, d1, d2, y0, y1, y2⟩ := three_c hbX
      clear hbX hzX hpt hop hrd hLk hc4 hz4 hRl hbr hP3
      go_wp2_with (fail)
      refine wp_region_any (by kernel_rfl) ?_
      refine wpAny_mo_go (md := .any) (R := Ext) (w := wr) [(0, 30), (1, 31), (2, 32), (3, 33), (4, 34), (5, 35), (6, 36), (7, 37), (8, 38), (9, 39), (10, 40), (11, 41), (12, 42)] [13, 14] (tl := [_, _]) (S := ?S2_) (by kernel_rfl) (by rfl) (by rfl) Ext.refl ext_tr (ext_drew1 _) ?hS2_ ?go2_
      case hS2_ => intro vs; simp only [putAll, Act.put, List.setIfInBounds_toArray, List.set_cons_zero, List.set_cons_succ]; rfl
      case go2_ =>
      refine mo_fix _ (by rfl) (by rfl) (by intro vs w1 hx_ hd; have q0 := (three_c (hx_.blk HBX.out)).2.2.1; have q2 := (hx_.cell (p := ⟨w.heap.size, 2, none⟩) hblr).trans p2r; have q3 := (hx_.cell (p := ⟨b1, o1 + k, none⟩) hb1r).trans hc1; go_simp; first | done | rfl) ?_
      refine mo_fix _ (by rfl) (by rfl) (by intro vs w1 hx_ hd; have q0 := (three_c (hx_.blk HBX.out)).2.2.1; have q2 := (hx_.cell (p := ⟨w.heap.size, 2, none⟩) hblr).trans p2r; have q3 := (hx_.cell (p := ⟨b1, o1 + k, none⟩) hb1r).trans hc1; have e0 := hd 0 (by kernel_rfl); simp (decide := true) only [factAt, if_true, if_false] at e0; simp only [e0]; go_simp; first | done | rfl) ?_
      refine mo_fix _ (by rfl) (by rfl) (by intro vs w1 hx_ hd; have q0 := (three_c (hx_.blk HBX.out)).2.2.1; have q2 := (hx_.cell (p := ⟨w.heap.size, 2, none⟩) hblr).trans p2r; have q3 := (hx_.cell (p := ⟨b1, o1 + k, none⟩) hb1r).trans hc1; go_simp; first | done | rfl) ?_
      refine mo_fix _ (by rfl) (by rfl) (by intro vs w1 hx_ hd; have q0 := (three_c (hx_.blk HBX.out)).2.2.1; have q2 := (hx_.cell (p := ⟨w.heap.size, 2, none⟩) hblr).trans p2r; have q3 := (hx_.cell (p := ⟨b1, o1 + k, none⟩) hb1r).trans hc1; go_simp; first | done | rfl) ?_
      refine mo_fix _ (by rfl) (by rfl) (by intro vs w1 hx_ hd; have q0 := (three_c (hx_.blk HBX.out)).2.2.1; have q2 := (hx_.cell (p := ⟨w.heap.size, 2, none⟩) hblr).trans p2r; have q3 := (hx_.cell (p := ⟨b1, o1 + k, none⟩) hb1r).trans hc1; have e3 := hd 3 (by kernel_rfl); simp (decide := true) only [factAt, if_true, if_false] at e3; simp only [e3]; go_simp; first | done | rfl) ?_
      refine mo_fix _ (by rfl) (by rfl) (by intro vs w1 hx_ hd; have q0 := (three_c (hx_.blk HBX.out)).2.2.1; have q2 := (hx_.cell (p := ⟨w.heap.size, 2, none⟩) hblr).trans p2r; have q3 := (hx_.cell (p := ⟨b1, o1 + k, none⟩) hb1r).trans hc1; go_simp; first | done | rfl) ?_
      refine mo_fix _ (by rfl) (by rfl) (by intro vs w1 hx_ hd; have q0 := (three_c (hx_.blk HBX.out)).2.2.1; have q2 := (hx_.cell (p := ⟨w.heap.size, 2, none⟩) hblr).trans p2r; have q3 := (hx_.cell (p := ⟨b1, o1 + k, none⟩) hb1r).trans hc1; have e4 := hd 4 (by kernel_rfl); have e5 := hd 5 (by kernel_rfl); simp (decide := true) only [factAt, if_true, if_false] at e4 e5; simp only [e4, e5]; go_simp; first | done | rfl) ?_
      refine mo_fix _ (by rfl) (by rfl) (by intro vs w1 hx_ hd; have q0 := (three_c (hx_.blk HBX.out)).2.2.1; have q2 := (hx_.cell (p := ⟨w.heap.size, 2, none⟩) hblr).trans p2r; have q3 := (hx_.cell (p := ⟨b1, o1 + k, none⟩) hb1r).trans hc1; have e6 := hd 6 (by kernel_rfl); simp (decide := true) only [factAt, if_true, if_false] at e6; simp only [e6]; go_simp; first | done | rfl) ?_
      refine mo_fix _ (by rfl) (by rfl) (by intro vs w1 hx_ hd; have q0 := (three_c (hx_.blk HBX.out)).2.2.1; have q2 := (hx_.cell (p := ⟨w.heap.size, 2, none⟩) hblr).trans p2r; have q3 := (hx_.cell (p := ⟨b1, o1 + k, none⟩) hb1r).trans hc1; go_simp; first | done | rfl) ?_
      refine mo_fix _ (by rfl) (by rfl) (by intro vs w1 hx_ hd; have q0 := (three_c (hx_.blk HBX.out)).2.2.1; have q2 := (hx_.cell (p := ⟨w.heap.size, 2, none⟩) hblr).trans p2r; have q3 := (hx_.cell (p := ⟨b1, o1 + k, none⟩) hb1r).trans hc1; go_simp; first | done | rfl) ?_
      refine mo_fix _ (by rfl) (by rfl) (by intro vs w1 hx_ hd; have q0 := (three_c (hx_.blk HBX.out)).2.2.1; have q2 := (hx_.cell (p := ⟨w.heap.size, 2, none⟩) hblr).trans p2r; have q3 := (hx_.cell (p := ⟨b1, o1 + k, none⟩) hb1r).trans hc1; go_simp; first | done | rfl) ?_
      refine mo_call (fun v w => ∃ gq q, v = .func (.func 105) #[] #[.pointer (some ⟨gq, 0, none⟩)] ∧ gq < w.heap.size ∧ w.cell? ⟨gq, 0, none⟩ = some (.float .f32 q) ∧ Fl .f32 q (fsqq P3 S)) (by rfl) (by rfl) (by rintro v wa wb ⟨gq, q, h1, h2, h3, h4⟩ hxab; exact ⟨gq, q, h1, Nat.lt_of_lt_of_le h2 hxab.size, (hxab.cell (p := ⟨gq, 0, none⟩) h2).trans h3, h4⟩) (by intro vs w1 hx_ hd; have e8 := hd 8 (by kernel_rfl); have e9 := hd 9 (by kernel_rfl); have e10 := hd 10 (by kernel_rfl); simp (decide := true) only [factAt, if_true, if_false] at e8 e9 e10; simp only [e8, e9, e10]; refine ⟨_, _, by go_simp; first | done | rfl | exact ⟨rfl, rfl⟩, ?_⟩; refine Calls.mono (HCU.out w1) ?_; rintro e w5 ⟨gq, q, rfl, _, h2, h3, h4, hx5⟩; exact ⟨_, rfl, ⟨gq, q, rfl, h2, h3, h4⟩, hx5⟩) ?_
      refine mo_call (fun v w => ∃ b9 c9, v = .slice (some ⟨b9, 0, none⟩) Lk c9 ∧ Lk ≤ c9 ∧ wr.heap.size ≤ b9 ∧ b9 < w.heap.size ∧ OwL w b9 (b9 + 1) (some ⟨b9, 0, none⟩) Lk (lst (fbend (G.r.getD k []) P3 S) Lk)) (by rfl) (by rfl) (by rintro v wa wb ⟨b9, c9, h1, h2, h3, h4, h5⟩ hxab; exact ⟨b9, c9, h1, h2, h3, Nat.lt_of_lt_of_le h4 hxab.size, h5.ext (by omega) hxab⟩) (by intro vs w1 hx_ hd; have e7 := hd 7 (by kernel_rfl); have e11 := hd 11 (by kernel_rfl); simp (decide := true) only [factAt, if_true, if_false] at e7 e11; obtain ⟨gq, q, e11, q2, q3, q4⟩ := e11; simp only [e7, e11]; refine ⟨_, _, by go_simp; first | done | rfl | exact ⟨rfl, rfl⟩, ?_⟩; refine Calls.mono (HRO.out w1 hx_ gq q q3 q2 q4) ?_; rintro e w5 ⟨rfl, ho5, hx5, hs5⟩; exact ⟨_, rfl, ⟨w1.heap.size, Lk, rfl, Nat.le_refl _, hx_.size, hs5, ho5⟩, hx5⟩) ?_
      refine mo_end ?_
      intro vs w3 hx3 hd
      have e1 := hd 1 (by kernel_rfl)
      have e2 := hd 2 (by kernel_rfl)
      have e12 := hd 12 (by kernel_rfl)
      simp (decide := true) only [factAt, if_true, if_false] at e1 e2 e12
      obtain ⟨b9, c9, e12, h2, h3, h4, h5⟩ := e12
      have hll : (lst (fbend (G.r.getD k []) P3 S) Lk).length = Lk := lst_len _ _
      obtain ⟨off', u, hA4, hc4, hz4, hput⟩ := HOQ.out.put (A' := some ⟨b9, 0, none⟩) (c' := c9) (row := lst (fbend (G.r.getD k []) P3 S) Lk) hx3 (Nat.le_refl _) hlt (by rw [hll]; exact h5) (by rw [hll]; exact h2) h3 h4 (by have := hx.size; omega) hn1
      obtain rfl : off = off' := by simpa using hA4
      rw [hll] at hput
      have HPUT := Lib.hid hput
      have HBX3 := Lib.hid (hx3.blk HBX.out)
      have HZX3 := Lib.hid (hx3.blk HZX.out)
      simp only [e1, e2, e12]
      clear hd hput h5 hll e1 e2 e12
      go_wp2_with (fail)
      exact ⟨⟨k + 1, fun j => if j = k then b9 else f' j, R'.set k (lst (fbend (G.r.getD k []) P3 S) Lk), by omega, by go_num, set_other HBX3.out (by dsimp only; omega), set_other HZX3.out (by dsimp only; omega), HPUT.out.more (Nat.le_refl _) (by simp), fun j hj => by
        by_cases hjk : j = k
        · subst hjk
          rw [getD_set_at (by rw [HRLn.out]; exact hlt)]
          unfold allF
          rw [HLK.out, HP3.out]
        · rw [getD_set_no hjk]; exact HPT.out j (by omega), Ext.set (hx.trans hx3) (by dsimp only; omega) _⟩, by simp [intOf]; omega⟩
    · obtain rfl : k = m := by omega
      obtain ⟨d0, d1, d2, y0, y1, y2⟩ := three_c hbX
      obtain ⟨c0', c1', c2', x0', x1', x2'⟩ := three_c hzX
      have hR : R' = lstS (allF fbend S G) k := lstS_all hop.sp.len hpt
      have hG : OwG wr (w.heap.size + 1 + 1) wr.heap.size (.agg #[.int .i64 G.t, .slice Ap2 k cp2, .slice At2 k ct2]) (allG fbend S G) := by
        have h1 := hop.toG (t := G.t)
        rw [hR] at h1
        unfold allG
        rw [HRL.out]
        exact h1
      have HG := Lib.hid hG
      have HBZ := Lib.hid (fun u0 u1 u2 => blk_set1 (blk_set1 (blk_set1 hzX 0 u0) 1 u1) 2 u2)
      clear hG hbX hzX hpt hop hR
      go_wp2_with (fail)
      (try simp only [Exit.inBlock, Exit.then])
      refine bodyPost_ret (results_cell2 rfl _ _ (w.heap.size + 1) 25 #[.int .i64 G.t, .slice Ap2 k cp2, .slice At2 k ct2] (0, 0) _ rfl (HBZ.out _ _ _) Try.underlying25 rfl (by kernel_rfl)) rfl ?_
      exact ⟨_, rfl, by
        refine OwG.more (lo := w.heap.size + 1 + 1) (hi := wr.heap.size) ?_ (by omega) (by simp)
        repeat (first | exact HG.out | (refine OwG.setOther ?_ (by left; dsimp only; omega) _)), (by repeat (first | assumption | exact Ext.refl _ | apply Ext.drewN | apply Ext.drew | apply Ext.alloc | (refine Ext.trans ?_ (by assumption)) | (refine Ext.set ?_ (by dsimp only; omega) _)))⟩
end Go.Proofs.Ytceldjkgddbfaaa
