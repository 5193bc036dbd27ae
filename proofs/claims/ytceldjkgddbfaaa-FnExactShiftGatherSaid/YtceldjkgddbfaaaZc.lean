/- Contracts: gathers without distances and with them, the reference. Condition: the gather is read. -/
import Derived.Test.YtceldjkgddbfaaaZb
import Derived.Laws.ResultCell
namespace Go.Proofs.Ytceldjkgddbfaaa
open Go.RowKit Ieee

theorem results_cell2 {P : Program} {fn : Func} {p u : Tmp} {ty : TypeId} (h : fn.results = #[.cell p ty, .tmp u]) (tmps : Array Value) (w : World) (g : Nat) (t : TypeId) (cs : Array Value) (fr : Nat × Nat) (d : TypeDesc)
    (hp : tmps.getD p undef = .pointer (some ⟨g, 0, none⟩)) (hg : w.heap[g]? = some (.cells cs t fr))
    (hu : P.underlying ty = some d) (hd : (match d with | .struct _ | .array _ _ => true | _ => false) = true) (hi : (P.info? ty).map (·.size) = some cs.size) :
    (results fn tmps).run P w = .ok (.tuple #[.agg cs, tmps.getD u undef]) w := by
  rw [results_cell_tmp h, hp]
  simp [asAddr, run_loadVar_row w g t ty cs fr d hg hu hd hi]
set_option linter.unusedSimpArgs false in
set_option maxRecDepth 20000 in
set_option maxHeartbeats 8000000 in
theorem c_spec_CorrectGather {w : World} {B : Nat} {v : Value} {G : Gat} (h : RdG w B v G) (hB : B ≤ w.heap.size) (h1 : G.p.length ≤ 1048576) (h2 : G.r.length ≤ 1048576) (h3 : ∀ j, j < G.r.length → (G.r.getD j []).length ≤ 1048576) {s : Nat} {S : Option Nat} (fs : Fl .f32 s S) :
    Calls Try.prog 27 #[v, .float .f32 s] w fun e w' => RetG w e w' (fvG G && fabove S) (allG fcorr S G) := by
  obtain ⟨Ap, cp, At, ct, rfl, hp, hr, hcp, hct⟩ := h.ex
  obtain ⟨W1, hW1⟩ : ∃ W1, W1 = (w.alloc (.cells #[.int .i64 G.t, .slice Ap G.p.length cp, .slice At G.r.length ct] 25)).alloc (.cells #[.int .i64 0, .slice none 0 0, .slice none 0 0] 25) := ⟨_, rfl⟩
  have hbx : GbAt W1 w.heap.size G.t Ap G.p.length cp At G.r.length ct := by rw [hW1]; exact (GbAt.blk (T := 25) (by repeat (first | (refine al_at ?_ ?_ <;> first | rfl | (simp only [al_size] <;> omega)) | apply al_old))).ext (Ext.alloc (Ext.refl _) _)
  have hx1 : Ext w W1 := by rw [hW1]; exact (by repeat (first | assumption | exact Ext.refl _ | apply Ext.drewN | apply Ext.drew | apply Ext.alloc | (refine Ext.trans ?_ (by assumption)) | (refine Ext.set ?_ (by dsimp only; omega) _)))
  have hz1 : W1.heap[w.heap.size + 1]? = some (.cells #[.int .i64 0, .slice none 0 0, .slice none 0 0] 25 (0, 0)) := by rw [hW1]; exact al_at (al_size _ _).symm rfl
  have hs1 : W1.heap.size = w.heap.size + 1 + 1 := by rw [hW1, al_size, al_size]
  have HIS := Lib.hid (c_l04Is hbx (hp.below (hx1.mono hB)) (hr.below (hx1.mono hB)) h1 h2 h3)
  cases hV : fvG G
  · rw [hV] at HIS
    go_enter Try.func27, Try.ntmps27
    go_wp2_with (fail)
    rw [← hW1]
    obtain ⟨c0, c1, c2, x0, x1, x2⟩ := three_c hz1
    clear hW1
    go_wp2_with ((go_at_call 63; refine Calls.mono HIS.out ?_; rintro e w1 ⟨rfl, n1, rfl⟩))
    (try simp only [Exit.inBlock, Exit.then])
    refine bodyPost_ret (results_cell2 rfl _ _ (w.heap.size + 1) 25 #[.int .i64 0, .slice none 0 0, .slice none 0 0] (0, 0) _ rfl (by repeat (first | exact hz1 | exact blk_set1 (blk_set1 (blk_set1 hz1 0 _) 1 _) 2 _)) Try.underlying25 rfl (by kernel_rfl)) rfl ?_
    exact retG_no rfl (by repeat (first | assumption | exact Ext.refl _ | apply Ext.drewN | apply Ext.drew | apply Ext.alloc | (refine Ext.trans ?_ (by assumption)) | (refine Ext.set ?_ (by dsimp only; omega) _)))
  rw [hV] at HIS
  have hVG := fvG_of hV
  rw [Bool.true_and]
  cases hA : fabove S
  · go_enter Try.func27, Try.ntmps27
    go_wp2_with (fail)
    rw [← hW1]
    obtain ⟨c0, c1, c2, x0, x1, x2⟩ := three_c hz1
    clear hW1
    go_wp2_with (first | (go_at_call 63; refine Calls.mono HIS.out ?_; rintro e w1 ⟨rfl, n1, rfl⟩) | (go_at_call 65; refine Calls.mono (c_l02Above fs _) ?_; rw [hA]; rintro e w1 ⟨rfl, n2, rfl⟩))
    (try simp only [Exit.inBlock, Exit.then])
    refine bodyPost_ret (results_cell2 rfl _ _ (w.heap.size + 1) 25 #[.int .i64 0, .slice none 0 0, .slice none 0 0] (0, 0) _ rfl (by repeat (first | exact hz1 | exact blk_set1 (blk_set1 (blk_set1 hz1 0 _) 1 _) 2 _)) Try.underlying25 rfl (by kernel_rfl)) rfl ?_
    exact retG_no rfl (by repeat (first | assumption | exact Ext.refl _ | apply Ext.drewN | apply Ext.drew | apply Ext.alloc | (refine Ext.trans ?_ (by assumption)) | (refine Ext.set ?_ (by dsimp only; omega) _)))
  have HALL := Lib.hid (fun (W : World) (hW : Ext W1 W) => c_l04All_corr (w := W) (hbx.ext hW) (hp.below ((hx1.trans hW).mono hB)) (hr.below ((hx1.trans hW).mono hB)) (Nat.le_trans hB (hx1.trans hW).size) hVG fs)
  go_enter Try.func27, Try.ntmps27
  go_wp2_with (fail)
  rw [← hW1]
  clear hW1
  go_wp2_with (first | (go_at_call 63; refine Calls.mono HIS.out ?_; rintro e w1 ⟨rfl, n1, rfl⟩) | (go_at_call 65; refine Calls.mono (c_l02Above fs _) ?_; rw [hA]; rintro e w1 ⟨rfl, n2, rfl⟩) | (go_at_call 74; refine Calls.mono (HALL.out _ (by repeat (first | assumption | exact Ext.refl _ | apply Ext.drewN | apply Ext.drew | apply Ext.alloc | (refine Ext.trans ?_ (by assumption)) | (refine Ext.set ?_ (by dsimp only; omega) _)))) ?_; rintro e w2 ⟨x, rfl, ho, hx2⟩; obtain ⟨Ap2, cp2, At2, ct2, hv⟩ := ho.val; have hz2 := hx2.blk hz1; obtain ⟨c0, c1, c2, x0, x1, x2⟩ := three_c hz2; subst hv; have HO := Lib.hid ho; clear ho))
  (try simp only [Exit.inBlock, Exit.then])
  have hs2 := hx2.size
  simp only [size_drewN] at hs2
  have HBZ := Lib.hid (fun u0 u1 u2 => blk_set1 (blk_set1 (blk_set1 hz2 0 u0) 1 u1) 2 u2)
  refine bodyPost_ret (results_cell2 rfl _ _ (w.heap.size + 1) 25 #[.int .i64 (allG fcorr S G).t, .slice Ap2 (allG fcorr S G).p.length cp2, .slice At2 (allG fcorr S G).r.length ct2] (0, 0) _ rfl (HBZ.out _ _ _) Try.underlying25 rfl (by kernel_rfl)) rfl ?_
  exact ⟨_, rfl, by
    refine OwG.more (lo := w.heap.size + 1 + 1) (hi := w2.heap.size) ?_ (by omega) (by simp)
    repeat (first | exact HO.out.more (by simp only [size_drewN]; omega) (Nat.le_refl _) | (refine OwG.setOther ?_ (by left; dsimp only; omega) _)), (by repeat (first | assumption | exact Ext.refl _ | apply Ext.drewN | apply Ext.drew | apply Ext.alloc | (refine Ext.trans ?_ (by assumption)) | (refine Ext.set ?_ (by dsimp only; omega) _)))⟩
set_option linter.unusedSimpArgs false in
set_option maxRecDepth 20000 in
set_option maxHeartbeats 8000000 in
theorem c_spec_BendGather {w : World} {B : Nat} {v : Value} {G : Gat} (h : RdG w B v G) (hB : B ≤ w.heap.size) (h1 : G.p.length ≤ 1048576) (h2 : G.r.length ≤ 1048576) (h3 : ∀ j, j < G.r.length → (G.r.getD j []).length ≤ 1048576) {s : Nat} {S : Option Nat} (fs : Fl .f32 s S) :
    Calls Try.prog 29 #[v, .float .f32 s] w fun e w' => RetG w e w' (fvG G && fabove S) (allG fbend S G) := by
  obtain ⟨Ap, cp, At, ct, rfl, hp, hr, hcp, hct⟩ := h.ex
  obtain ⟨W1, hW1⟩ : ∃ W1, W1 = (w.alloc (.cells #[.int .i64 G.t, .slice Ap G.p.length cp, .slice At G.r.length ct] 25)).alloc (.cells #[.int .i64 0, .slice none 0 0, .slice none 0 0] 25) := ⟨_, rfl⟩
  have hbx : GbAt W1 w.heap.size G.t Ap G.p.length cp At G.r.length ct := by rw [hW1]; exact (GbAt.blk (T := 25) (by repeat (first | (refine al_at ?_ ?_ <;> first | rfl | (simp only [al_size] <;> omega)) | apply al_old))).ext (Ext.alloc (Ext.refl _) _)
  have hx1 : Ext w W1 := by rw [hW1]; exact (by repeat (first | assumption | exact Ext.refl _ | apply Ext.drewN | apply Ext.drew | apply Ext.alloc | (refine Ext.trans ?_ (by assumption)) | (refine Ext.set ?_ (by dsimp only; omega) _)))
  have hz1 : W1.heap[w.heap.size + 1]? = some (.cells #[.int .i64 0, .slice none 0 0, .slice none 0 0] 25 (0, 0)) := by rw [hW1]; exact al_at (al_size _ _).symm rfl
  have hs1 : W1.heap.size = w.heap.size + 1 + 1 := by rw [hW1, al_size, al_size]
  have HIS := Lib.hid (c_l04Is hbx (hp.below (hx1.mono hB)) (hr.below (hx1.mono hB)) h1 h2 h3)
  cases hV : fvG G
  · rw [hV] at HIS
    go_enter Try.func29, Try.ntmps29
    go_wp2_with (fail)
    rw [← hW1]
    obtain ⟨c0, c1, c2, x0, x1, x2⟩ := three_c hz1
    clear hW1
    go_wp2_with ((go_at_call 63; refine Calls.mono HIS.out ?_; rintro e w1 ⟨rfl, n1, rfl⟩))
    (try simp only [Exit.inBlock, Exit.then])
    refine bodyPost_ret (results_cell2 rfl _ _ (w.heap.size + 1) 25 #[.int .i64 0, .slice none 0 0, .slice none 0 0] (0, 0) _ rfl (by repeat (first | exact hz1 | exact blk_set1 (blk_set1 (blk_set1 hz1 0 _) 1 _) 2 _)) Try.underlying25 rfl (by kernel_rfl)) rfl ?_
    exact retG_no rfl (by repeat (first | assumption | exact Ext.refl _ | apply Ext.drewN | apply Ext.drew | apply Ext.alloc | (refine Ext.trans ?_ (by assumption)) | (refine Ext.set ?_ (by dsimp only; omega) _)))
  rw [hV] at HIS
  have hVG := fvG_of hV
  rw [Bool.true_and]
  cases hA : fabove S
  · go_enter Try.func29, Try.ntmps29
    go_wp2_with (fail)
    rw [← hW1]
    obtain ⟨c0, c1, c2, x0, x1, x2⟩ := three_c hz1
    clear hW1
    go_wp2_with (first | (go_at_call 63; refine Calls.mono HIS.out ?_; rintro e w1 ⟨rfl, n1, rfl⟩) | (go_at_call 65; refine Calls.mono (c_l02Above fs _) ?_; rw [hA]; rintro e w1 ⟨rfl, n2, rfl⟩))
    (try simp only [Exit.inBlock, Exit.then])
    refine bodyPost_ret (results_cell2 rfl _ _ (w.heap.size + 1) 25 #[.int .i64 0, .slice none 0 0, .slice none 0 0] (0, 0) _ rfl (by repeat (first | exact hz1 | exact blk_set1 (blk_set1 (blk_set1 hz1 0 _) 1 _) 2 _)) Try.underlying25 rfl (by kernel_rfl)) rfl ?_
    exact retG_no rfl (by repeat (first | assumption | exact Ext.refl _ | apply Ext.drewN | apply Ext.drew | apply Ext.alloc | (refine Ext.trans ?_ (by assumption)) | (refine Ext.set ?_ (by dsimp only; omega) _)))
  have HALL := Lib.hid (fun (W : World) (hW : Ext W1 W) => c_l04All_bend (w := W) (hbx.ext hW) (hp.below ((hx1.trans hW).mono hB)) (hr.below ((hx1.trans hW).mono hB)) (Nat.le_trans hB (hx1.trans hW).size) hVG fs)
  go_enter Try.func29, Try.ntmps29
  go_wp2_with (fail)
  rw [← hW1]
  clear hW1
  go_wp2_with (first | (go_at_call 63; refine Calls.mono HIS.out ?_; rintro e w1 ⟨rfl, n1, rfl⟩) | (go_at_call 65; refine Calls.mono (c_l02Above fs _) ?_; rw [hA]; rintro e w1 ⟨rfl, n2, rfl⟩) | (go_at_call 74; refine Calls.mono (HALL.out _ (by repeat (first | assumption | exact Ext.refl _ | apply Ext.drewN | apply Ext.drew | apply Ext.alloc | (refine Ext.trans ?_ (by assumption)) | (refine Ext.set ?_ (by dsimp only; omega) _)))) ?_; rintro e w2 ⟨x, rfl, ho, hx2⟩; obtain ⟨Ap2, cp2, At2, ct2, hv⟩ := ho.val; have hz2 := hx2.blk hz1; obtain ⟨c0, c1, c2, x0, x1, x2⟩ := three_c hz2; subst hv; have HO := Lib.hid ho; clear ho))
  (try simp only [Exit.inBlock, Exit.then])
  have hs2 := hx2.size
  simp only [size_drewN] at hs2
  have HBZ := Lib.hid (fun u0 u1 u2 => blk_set1 (blk_set1 (blk_set1 hz2 0 u0) 1 u1) 2 u2)
  refine bodyPost_ret (results_cell2 rfl _ _ (w.heap.size + 1) 25 #[.int .i64 (allG fbend S G).t, .slice Ap2 (allG fbend S G).p.length cp2, .slice At2 (allG fbend S G).r.length ct2] (0, 0) _ rfl (HBZ.out _ _ _) Try.underlying25 rfl (by kernel_rfl)) rfl ?_
  exact ⟨_, rfl, by
    refine OwG.more (lo := w.heap.size + 1 + 1) (hi := w2.heap.size) ?_ (by omega) (by simp)
    repeat (first | exact HO.out.more (by simp only [size_drewN]; omega) (Nat.le_refl _) | (refine OwG.setOther ?_ (by left; dsimp only; omega) _)), (by repeat (first | assumption | exact Ext.refl _ | apply Ext.drewN | apply Ext.drew | apply Ext.alloc | (refine Ext.trans ?_ (by assumption)) | (refine Ext.set ?_ (by dsimp only; omega) _)))⟩
end Go.Proofs.Ytceldjkgddbfaaa
