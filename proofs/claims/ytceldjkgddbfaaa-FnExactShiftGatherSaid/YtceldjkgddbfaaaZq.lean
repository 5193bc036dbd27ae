/- Contract: gathers of shifted traces, the program. Condition: the gather and the list are read. -/
import Derived.Test.YtceldjkgddbfaaaZp
namespace Go.Proofs.Ytceldjkgddbfaaa
open Go.RowKit Ieee

set_option linter.unusedSimpArgs false in
set_option maxRecDepth 20000 in
set_option maxHeartbeats 40000000 in
theorem c_impl_ShiftGather {w : World} {B : Nat} {v : Value} {G : Gat} (h : RdG w B v G) (hB : B ≤ w.heap.size) (h1 : G.p.length ≤ 1048576) (h2 : G.r.length ≤ 1048576) (h3 : ∀ j, j < G.r.length → (G.r.getD j []).length ≤ 1048576) {B' n c : Nat} {A' : Option Addr} {X : List Int} (h' : RdI w B' A' n X) (hB' : B' ≤ w.heap.size) (hn : n ≤ 1048576) :
    Calls Try.prog 39 #[v, .slice A' n c] w fun e w' => RetG w e w' (okSh G n X) (genG (shF G X) G) := by
  unfold okSh
  obtain ⟨Ap, cp, At, ct, rfl, hp, hr, hcp, hct⟩ := h.ex
  obtain ⟨W1, hW1⟩ : ∃ W1, W1 = (w.alloc (.cells #[.int .i64 G.t, .slice Ap G.p.length cp, .slice At G.r.length ct] 25)).alloc (.cells #[.int .i64 0, .slice none 0 0, .slice none 0 0] 25) := ⟨_, rfl⟩
  have hbx : GbAt W1 w.heap.size G.t Ap G.p.length cp At G.r.length ct := by rw [hW1]; exact (GbAt.blk (T := 25) (by repeat (first | (refine al_at ?_ ?_ <;> first | rfl | (simp only [al_size] <;> omega)) | apply al_old))).ext (Ext.alloc (Ext.refl _) _)
  have hx1 : Ext w W1 := by rw [hW1]; exact (by repeat (first | assumption | exact Ext.refl _ | apply Ext.drewN | apply Ext.drew | apply Ext.alloc | (refine Ext.trans ?_ (by assumption)) | (refine Ext.set ?_ (by dsimp only; omega) _)))
  have hz1 : W1.heap[w.heap.size + 1]? = some (.cells #[.int .i64 0, .slice none 0 0, .slice none 0 0] 25 (0, 0)) := by rw [hW1]; exact al_at (al_size _ _).symm rfl
  have hs1 : W1.heap.size = w.heap.size + 1 + 1 := by rw [hW1, al_size, al_size]
  have HIS := Lib.hid (c_impl_ValidGather (h.below (hx1.mono hB)) (Nat.le_trans hB hx1.size) h1 h2 h3)
  obtain ⟨p0, p1, p2, _⟩ := id hbx
  cases hV : fvG G
  · rw [hV] at HIS
    go_enter Try.func39, Try.ntmps39
    go_wp2_with (fail)
    rw [← hW1]
    clear hW1
    go_wp2_with ((go_at_call 57; refine Calls.mono HIS.out ?_; rintro e w1 ⟨rfl, hxv⟩; have hbv := hbx.ext hxv; obtain ⟨p0, p1, p2, _⟩ := id hbv; have hzv := hxv.blk hz1; obtain ⟨c0, c1, c2, x0, x1, x2⟩ := three_c hzv))
    (try simp only [Exit.inBlock, Exit.then])
    refine bodyPost_ret (results_cell2 rfl _ _ (w.heap.size + 1) 25 #[.int .i64 0, .slice none 0 0, .slice none 0 0] (0, 0) _ rfl (by repeat (first | exact hzv | exact blk_set1 (blk_set1 (blk_set1 hzv 0 _) 1 _) 2 _)) Try.underlying25 rfl (by kernel_rfl)) rfl ?_
    exact retG_no rfl (by repeat (first | assumption | exact Ext.refl _ | apply Ext.drewN | apply Ext.drew | apply Ext.alloc | (refine Ext.trans ?_ (by assumption)) | (refine Ext.set ?_ (by dsimp only; omega) _)))
  rw [hV] at HIS
  have hVG := fvG_of hV
  rw [Bool.true_and]
  by_cases hnm : n = G.r.length
  case neg =>
    have i3 : ((n : Int) != (G.r.length : Int)) = true := by rw [bne_iff_ne]; omega
    rw [decide_eq_false hnm, Bool.false_and]
    clear hnm
    go_enter Try.func39, Try.ntmps39
    go_wp2_with (fail)
    rw [← hW1]
    clear hW1
    go_wp2_with ((go_at_call 57; refine Calls.mono HIS.out ?_; rintro e w1 ⟨rfl, hxv⟩; have hbv := hbx.ext hxv; obtain ⟨p0, p1, p2, _⟩ := id hbv; have hzv := hxv.blk hz1; obtain ⟨c0, c1, c2, x0, x1, x2⟩ := three_c hzv))
    (try simp only [Exit.inBlock, Exit.then])
    refine bodyPost_ret (results_cell2 rfl _ _ (w.heap.size + 1) 25 #[.int .i64 0, .slice none 0 0, .slice none 0 0] (0, 0) _ rfl (by repeat (first | exact hzv | exact blk_set1 (blk_set1 (blk_set1 hzv 0 _) 1 _) 2 _)) Try.underlying25 rfl (by kernel_rfl)) rfl ?_
    exact retG_no rfl (by repeat (first | assumption | exact Ext.refl _ | apply Ext.drewN | apply Ext.drew | apply Ext.alloc | (refine Ext.trans ?_ (by assumption)) | (refine Ext.set ?_ (by dsimp only; omega) _)))
  rw [decide_eq_true hnm, Bool.true_and]
  have hpl := hp.len
  have hrl := hr.len
  have hn1 := hVG.n1
  have hmn := hVG.m
  have hrw : ∀ j, j < G.r.length → 1 ≤ (G.r.getD j []).length ∧ (G.r.getD j []).length ≤ 64 := fun j hj => by
    have h4 := hVG.row j hj
    have h5 := hVG.t1
    have h6 := hVG.t2
    omega
  have hgt1 := hVG.t1
  have hgt2 := hVG.t2
  have HCO := Lib.hid (fun (W : World) (hW : Ext W1 W) => c_copyGather (w := W) (cp := cp) (ct := ct) (hp.below ((hx1.trans hW).mono hB)) (hr.below ((hx1.trans hW).mono hB)) (Nat.le_trans hB (hx1.trans hW).size) h1 h2 h3 (by omega) (by omega) (fun j hj => (hrw j hj).1))
  obtain ⟨m, hm⟩ : ∃ m, G.p.length = m := ⟨_, rfl⟩
  rw [hmn, hm] at hrw
  rw [hm] at hn1 hp hbx h1 hcp p1 HIS HCO
  rw [hmn, hm] at hr hbx h2 hct p2 HIS HCO
  have hRL : G.r.length = m := hmn.trans hm
  have HRW := Lib.hid hrw
  have HPL := Lib.hid hm
  have HRL := Lib.hid hRL
  have HP := Lib.hid hp
  have HBX1 := Lib.hid hbx
  have HR := Lib.hid hr
  have hmn3 : m = n := by omega
  have hn2 : m ≤ 16 := by rw [← hm]; exact hVG.n2
  rw [hm, hRL] at hW1
  rw [hm, hRL]
  obtain ⟨mu, hmu⟩ : ∃ mu, mu = shF G X := ⟨_, rfl⟩
  rw [← hmu]
  have HMU := Lib.hid hmu
  clear hVG hmn hpl hrl hrw hp hr h3 h hm hRL hmu hnm
  subst hmn3
  have i4 : ((m : Int) != (m : Int)) = false := by simp
  have HXL := Lib.hid h'.1
  have HI := Lib.hid h'
  go_enter Try.func39, Try.ntmps39
  go_wp2_with (fail)
  rw [← hW1]
  clear hW1
  go_wp2_with (first | (go_at_call 57; refine Calls.mono HIS.out ?_; rintro e w1 ⟨rfl, hxv⟩; have hbv := hbx.ext hxv; obtain ⟨p0, p1, p2, _⟩ := id hbv; have hzv := hxv.blk hz1; obtain ⟨c0, c1, c2, x0, x1, x2⟩ := three_c hzv) | (go_at_call 72; refine Calls.mono (HCO.out _ (by repeat (first | assumption | exact Ext.refl _ | apply Ext.drewN | apply Ext.drew | apply Ext.alloc | (refine Ext.trans ?_ (by assumption)) | (refine Ext.set ?_ (by dsimp only; omega) _)))) ?_; rintro e w2 ⟨x, rfl, ho, hx2⟩; obtain ⟨Ap2, cp2, At2, ct2, gp, g, f, hv, hop⟩ := ho.inP; rw [HPL.out, HRL.out] at hv hop; subst hv; have hx12 : Ext W1 w2 := (by repeat (first | assumption | exact Ext.refl _ | apply Ext.drewN | apply Ext.drew | apply Ext.alloc | (refine Ext.trans ?_ (by assumption)) | (refine Ext.set ?_ (by dsimp only; omega) _))); have hb2 := HBX1.out.ext hx12; obtain ⟨b0, b1', b2', _⟩ := id hb2))
  have hx02 : Ext w w2 := hx1.trans hx12
  have hzb := hx12.blk hz1
  have hz2 := hx12.size
  have hz3 := hx2.size
  try simp only [size_drewN] at hz3 hop
  have hz4 := hxv.size
  have hgb := hop.g_in.resolve_left (by omega)
  obtain ⟨off, _, _, hAt2, _⟩ := hop.row (i := 0) hn1
  subst hAt2
  have HOP := Lib.hid (hop.more (lo' := w.heap.size + 1 + 1) (by omega) (Nat.le_refl _))
  have HZB := Lib.hid hzb
  clear hop hzb ho b0 b1' b2' p0 p1 p2
  go_loopw [25] (fun y wr => ∃ (k : Nat) (f' : Nat → Nat), k ≤ m ∧ y = .int .i64 k ∧ wr.heap[w2.heap.size]? = some (.cells #[.int .i64 G.t, .slice Ap2 m cp2, .slice (some ⟨g, off, none⟩) m ct2] 25 (0, 0)) ∧ wr.heap[w.heap.size + 1]? = some (.cells #[.int .i64 0, .slice none 0 0, .slice none 0 0] 25 (0, 0)) ∧ OwP wr (w.heap.size + 1 + 1) wr.heap.size Ap2 m cp2 (some ⟨g, off, none⟩) m ct2 gp g f' G.p (gstS mu G k 0) ∧ (∀ j, j < k → inR (X.getD j 0) = true) ∧ Ext W1 wr) (fun y _ => m - (intOf y).toNat)
  case atStart => exact ⟨0, f, Nat.zero_le _, rfl, (by first | exact heap_alloc_new w2 _ | exact blk_set1 (blk_set1 (blk_set1 (heap_alloc_new w2 _) 0 _) 1 _) 2 _), (by repeat (first | exact HZB.out | apply al_old | (refine set_other ?_ (by dsimp only; omega)))), by rw [gst_start]; exact (HOP.out.ext (Nat.le_refl _) (by repeat (first | assumption | exact Ext.refl _ | apply Ext.drewN | apply Ext.drew | apply Ext.alloc | (refine Ext.trans ?_ (by assumption)) | (refine Ext.set ?_ (by dsimp only; omega) _)))).more (Nat.le_refl _) (by simp), fun j hj => absurd hj (Nat.not_lt_zero _), (by repeat (first | assumption | exact Ext.refl _ | apply Ext.drewN | apply Ext.drew | apply Ext.alloc | (refine Ext.trans ?_ (by assumption)) | (refine Ext.set ?_ (by dsimp only; omega) _)))⟩
  case round =>
    obtain ⟨k, f', hk, rfl, hbX, hzX, hop, hko, hx⟩ := hrel
    have HKO := Lib.hid hko
    have HBX := Lib.hid hbX
    have HZX := Lib.hid hzX
    have HOQ := Lib.hid hop
    have hs2 := blk_lt hbX
    have hx0r : Ext w wr := hx1.trans hx
    by_cases hlt : k < m
    · have hlt' : (k : Int) < (m : Int) := by omega
      have hRl : k < G.r.length := by rw [HRL.out]; exact hlt
      obtain ⟨b3, o3, rfl, hb3, hc3w⟩ := (HI.out.below (hx1.mono hB')).2 k hlt
      have hb3w : b3 < W1.heap.size := Nat.lt_of_lt_of_le hb3 (Nat.le_trans hB' hx1.size)
      obtain ⟨sx, hsx⟩ : ∃ sx, X.getD k 0 = sx := ⟨_, rfl⟩
      rw [hsx] at hc3w
      have HSX := Lib.hid hsx
      have hc3 := (hx.cell (p := ⟨b3, o3 + k, none⟩) hb3w).trans hc3w
      obtain ⟨b1, o1, A1, c1r, rfl, hb1, hc1w, hrd1, hlc1⟩ := (HR.out.below (hx1.mono hB)).cell hlt
      have hb1w : b1 < W1.heap.size := Nat.lt_of_lt_of_le hb1 (Nat.le_trans hB hx1.size)
      obtain ⟨g1, g2⟩ := HRW.out k hlt
      obtain ⟨Lk, hLk⟩ : ∃ x, (G.r.getD k []).length = x := ⟨_, rfl⟩
      rw [hLk] at g1 g2 hc1w hrd1 hlc1
      have HLK := Lib.hid hLk
      have hc1 := (hx.cell (p := ⟨b1, o1 + k, none⟩) hb1w).trans hc1w
      have hb1r : b1 < wr.heap.size := Nat.lt_of_lt_of_le hb1w hx.size
      have hbr := HBX1.out.ext hx
      have hblr := hbr.lt
      have p2r := hbr.p2
      have HRD1 := Lib.hid hrd1
      obtain ⟨d0, d1, d2, y0, y1, y2⟩ := three_c hbX
      clear hop hLk hbr hsx hrd1 hko
      cases hR : inR sx
      · have HNO := Lib.hid (allR_no (X := X) (k := k) (by rw [HXL.out]; exact hlt) (by rw [HSX.out]; exact hR))
        unfold inR at hR
        obtain ⟨c0', c1', c2', x0', x1', x2'⟩ := three_c hzX
        clear hbX hzX
        go_wp2_with (go_at_call 83; refine Calls.mono (c_isShift _ _) ?_; rw [hR]; rintro e w7 ⟨rfl, rfl⟩)
        (try simp only [Exit.inBlock, Exit.then])
        refine bodyPost_ret (results_cell2 rfl _ _ (w.heap.size + 1) 25 #[.int .i64 0, .slice none 0 0, .slice none 0 0] (0, 0) _ rfl (by repeat (first | exact HZX.out | exact blk_set1 (blk_set1 (blk_set1 HZX.out 0 _) 1 _) 2 _)) Try.underlying25 rfl (by kernel_rfl)) rfl ?_
        exact retG_no HNO.out (by repeat (first | assumption | exact Ext.refl _ | apply Ext.drewN | apply Ext.drew | apply Ext.alloc | (refine Ext.trans ?_ (by assumption)) | (refine Ext.set ?_ (by dsimp only; omega) _)))
      have HRS := Lib.hid hR
      unfold inR at hR
      obtain ⟨hs1', hs2'⟩ := inB_of hR
      obtain ⟨ns, hns⟩ : ∃ ns : Int, -sx = ns := ⟨_, rfl⟩
      have hwns : IntKind.i64.wrap ns = ns := IntWalk.i64_in _ (by omega)
      have HNS := Lib.hid hns
      have HSH := Lib.hid (fun (W : World) (hW : Ext wr W) => c_shiftIn (w := W) (c := c1r) (i := ns) (HRD1.out.below (Below.mono (hx.trans hW) (Nat.le_trans hB hx1.size))) (Nat.le_trans hB (hx0r.trans hW).size) (by omega) (tlen_yes (by omega) (by omega)) (by omega) (by omega))
      have HROWS : Hid ((gstS mu G k 0).set k (lst (fshift (G.r.getD k []) ns) Lk) = gstS mu G (k + 1) 0) := Lib.hid (by
        rw [← gst_row hRl, HLK.out]
        congr 2
        funext t
        rw [HMU.out, ← HNS.out]; unfold shF; rw [HSX.out])
      clear hbX hzX
      go_wp2_with (go_at_call 83; refine Calls.mono (c_isShift _ _) ?_; rw [hR]; rintro e w7 ⟨rfl, rfl⟩)
      go_region_with (first | (go_at_call 84; refine Calls.mono (HSH.out _ (by repeat (first | assumption | exact Ext.refl _ | apply Ext.drewN | apply Ext.drew | apply Ext.alloc | (refine Ext.trans ?_ (by assumption)) | (refine Ext.set ?_ (by dsimp only; omega) _)))) ?_; rintro e w5 ⟨rfl, hs5, ho5, hx5'⟩; have hx5 : Ext wr w5 := (by repeat (first | assumption | exact Ext.refl _ | apply Ext.drewN | apply Ext.drew | apply Ext.alloc | (refine Ext.trans ?_ (by assumption)) | (refine Ext.set ?_ (by dsimp only; omega) _))); (try simp only [size_drewN, size_drew] at hs5 ho5); obtain ⟨v0, v1, v2, v3, v4, v5⟩ := three_c (hx5.blk HBX.out); have hll : (lst (fshift (G.r.getD k []) ns) Lk).length = Lk := lst_len _ _; obtain ⟨off', u, hA4, hc4, hz4, hput⟩ := HOQ.out.put (A' := some ⟨wr.heap.size, 0, none⟩) (c' := Lk) (row := lst (fshift (G.r.getD k []) ns) Lk) hx5 (Nat.le_refl _) hlt (by rw [hll]; exact ho5) (by rw [hll]; exact Nat.le_refl _) (Nat.le_refl _) hs5 (by have := hx0r.size; omega) hn1; (obtain rfl : off = off' := by simpa using hA4); rw [hll] at hput; rw [HROWS.out] at hput; have HPUT := Lib.hid hput; have HBX3 := Lib.hid (hx5.blk HBX.out); have HZX3 := Lib.hid (hx5.blk HZX.out); clear hput hll hA4 ho5))
      all_goals
        go_wp2_with (fail)
        exact ⟨⟨k + 1, fun j => if j = k then wr.heap.size else f' j, by omega, by go_num, set_other HBX3.out (by dsimp only; omega), set_other HZX3.out (by dsimp only; omega), HPUT.out.more (Nat.le_refl _) (by simp), fun j hj => by rcases Nat.lt_or_ge j k with h9 | h9; exact HKO.out j h9; (obtain rfl : j = k := by omega); rw [HSX.out]; exact HRS.out, Ext.set (hx.trans (by assumption)) (by dsimp only; omega) _⟩, by simp [intOf]; omega⟩
    · obtain rfl : k = m := by omega
      obtain ⟨d0, d1, d2, y0, y1, y2⟩ := three_c hbX
      obtain ⟨c0', c1', c2', x0', x1', x2'⟩ := three_c hzX
      have hG : OwG wr (w.heap.size + 1 + 1) wr.heap.size (.agg #[.int .i64 G.t, .slice Ap2 k cp2, .slice (some ⟨g, off, none⟩) k ct2]) (genG mu G) := by
        have h1 := hop.toG (t := G.t)
        unfold genG
        rw [HRL.out]
        exact h1
      have HALL := Lib.hid (allR_yes (X := X) (by rw [HXL.out]; exact hko))
      have HG := Lib.hid hG
      have HBZ := Lib.hid (fun u0 u1 u2 => blk_set1 (blk_set1 (blk_set1 hzX 0 u0) 1 u1) 2 u2)
      clear hG hbX hzX hop hko
      go_wp2_with (fail)
      (try simp only [Exit.inBlock, Exit.then])
      refine bodyPost_ret (results_cell2 rfl _ _ (w.heap.size + 1) 25 #[.int .i64 G.t, .slice Ap2 k cp2, .slice (some ⟨g, off, none⟩) k ct2] (0, 0) _ rfl (HBZ.out _ _ _) Try.underlying25 rfl (by kernel_rfl)) rfl ?_
      show RetG _ _ _ (allR X) (genG mu G)
      rw [HALL.out]
      exact ⟨_, rfl, by
        refine OwG.more (lo := w.heap.size + 1 + 1) (hi := wr.heap.size) ?_ (by omega) (by simp)
        repeat (first | exact HG.out | (refine OwG.setOther ?_ (by left; dsimp only; omega) _)), (by repeat (first | assumption | exact Ext.refl _ | apply Ext.drewN | apply Ext.drew | apply Ext.alloc | (refine Ext.trans ?_ (by assumption)) | (refine Ext.set ?_ (by dsimp only; omega) _)))⟩
end Go.Proofs.Ytceldjkgddbfaaa
