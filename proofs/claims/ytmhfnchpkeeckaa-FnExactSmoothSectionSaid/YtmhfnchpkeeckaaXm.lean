/- Contracts: edges of sections, sections made smooth, the program's functions; both sides. Condition: the section is read. -/
import Derived.Test.YtmhfnchpkeeckaaXl
namespace Go.Proofs.Ytmhfnchpkeeckaa
open Go.RowKit Go.ChangeShapes Go.WideShapes Go.Deep Ieee
set_option linter.unusedVariables false
set_option linter.unusedSimpArgs false

set_option maxRecDepth 20000 in
set_option maxHeartbeats 4000000 in
theorem c_impl_EdgeSection {w : World} {B : Nat} {u : Value} {S : Sct} (h : RdT w B u S) (hB : B ≤ w.heap.size) (za : S.v.length ≤ 1048576) (hok : S.Ok) :
    Calls Try.prog 40 #[u] w fun e w' => RetT w e w' (fvT S) (outT (fvT S) ⟨S.x, S.z, lst (cellF S.x.toNat (fedge S.v S.x.toNat S.z.toNat)) S.v.length⟩) := by
  obtain ⟨A, c, rfl, hp, hcA⟩ := h.ex
  clear h
  obtain ⟨x, z, L⟩ := S
  dsimp only at hp za hcA ⊢
  obtain ⟨W1, hW1⟩ : ∃ W1, W1 = (w.alloc (.cells #[.int .i64 x, .int .i64 z, .slice A L.length c] 27)).alloc (.cells #[.int .i64 0, .int .i64 0, .slice none 0 0] 27) := ⟨_, rfl⟩
  have hx1 : Ext w W1 := by rw [hW1]; exact (by repeat (first | assumption | exact Ext.refl _ | apply Ext.drewN | apply Ext.drew | apply Ext.alloc | (refine Ext.trans ?_ (by assumption)) | (refine Ext.set ?_ (by dsimp only; omega) _)))
  have HBX : Hid (SbAt W1 w.heap.size x z A L.length c) := Lib.hid (by rw [hW1]; exact SbAt.blk (T := 27) (by repeat (first | (refine al_at ?_ ?_ <;> first | rfl | (simp only [al_size] <;> omega)) | apply al_old)))
  have HZ1 : Hid (W1.heap[w.heap.size + 1]? = some (.cells #[.int .i64 0, .int .i64 0, .slice none 0 0] 27 (0, 0))) := Lib.hid (by rw [hW1]; exact al_at (by simp only [al_size]) rfl)
  have hs1 : W1.heap.size = w.heap.size + 1 + 1 := by rw [hW1]; simp only [al_size]
  have HC := Lib.hid (c_cells_EdgeSection HBX.out (hp.below (hx1.mono hB)) (Nat.le_trans hB hx1.size) hcA za)
  obtain ⟨ok, hok2⟩ : ∃ ok, fvT ⟨x, z, L⟩ = ok := ⟨_, rfl⟩
  obtain ⟨Q, hQ⟩ : ∃ Q : Sct, outT ok ⟨x, z, lst (cellF x.toNat (fedge L x.toNat z.toNat)) L.length⟩ = Q := ⟨_, rfl⟩
  rw [hok2, hQ] at HC ⊢
  go_enter Try.func40, Try.ntmps40
  go_wp2_with (fail)
  rw [← hW1]
  clear hW1 hQ hok2
  obtain ⟨p0, p1, p2, _⟩ := HBX.out
  obtain ⟨c0, c1, c2, x0, x1, x2⟩ := three_c HZ1.out
  go_wp2_with (go_at_call 75; refine Calls.mono HC.out ?_; rintro e w2 ⟨v, rfl, ho, hx2⟩; obtain ⟨A2, c2', rfl⟩ := ho.val; obtain ⟨c0, c1, c2, x0, x1, x2⟩ := three_c (hx2.blk HZ1.out))
  have hzz := hx2.blk HZ1.out
  have HBZ := Lib.hid (fun u0 u1 u2 => blk_set1 (blk_set1 (blk_set1 hzz 0 u0) 1 u1) 2 u2)
  have hs2 := hx2.size
  (try simp only [Exit.inBlock, Exit.then])
  refine bodyPost_ret (results_cellT rfl _ _ (w.heap.size + 1) 27 #[.int .i64 Q.x, .int .i64 Q.z, .slice A2 Q.v.length c2'] (0, 0) _ rfl (HBZ.out _ _ _) Try.underlying27 rfl (by kernel_rfl)) rfl ?_
  exact ⟨_, rfl, by
    refine OwT.more (lo := W1.heap.size) (hi := w2.heap.size) ?_ (by omega) (by simp)
    repeat (first | exact ho | (refine OwT.setOther ?_ (by left; dsimp only; omega) _)), (by repeat (first | assumption | exact Ext.refl _ | apply Ext.drewN | apply Ext.drew | apply Ext.alloc | (refine Ext.trans ?_ (by assumption)) | (refine Ext.set ?_ (by dsimp only; omega) _)))⟩
set_option maxRecDepth 20000 in
set_option maxHeartbeats 4000000 in
theorem c_impl_SmoothSection {w : World} {B : Nat} {u : Value} {S : Sct} (h : RdT w B u S) (hB : B ≤ w.heap.size) (za : S.v.length ≤ 1048576) (hok : S.Ok) {p : Nat} {P : Option Nat} (fp : Fl .f32 p P) :
    Calls Try.prog 42 #[u, .float .f32 p] w fun e w' => RetT w e w' (fvT S) (outT (fvT S) ⟨S.x, S.z, lst (cellF S.x.toNat (fsmooth P S.v S.x.toNat S.z.toNat)) S.v.length⟩) := by
  obtain ⟨A, c, rfl, hp, hcA⟩ := h.ex
  clear h
  obtain ⟨x, z, L⟩ := S
  dsimp only at hp za hcA ⊢
  obtain ⟨W1, hW1⟩ : ∃ W1, W1 = ((w.alloc (.cells #[.int .i64 x, .int .i64 z, .slice A L.length c] 27)).alloc (.cells #[.float .f32 p] 32)).alloc (.cells #[.int .i64 0, .int .i64 0, .slice none 0 0] 27) := ⟨_, rfl⟩
  have hx1 : Ext w W1 := by rw [hW1]; exact (by repeat (first | assumption | exact Ext.refl _ | apply Ext.drewN | apply Ext.drew | apply Ext.alloc | (refine Ext.trans ?_ (by assumption)) | (refine Ext.set ?_ (by dsimp only; omega) _)))
  have HBX : Hid (SbAt W1 w.heap.size x z A L.length c) := Lib.hid (by rw [hW1]; exact SbAt.blk (T := 27) (by repeat (first | (refine al_at ?_ ?_ <;> first | rfl | (simp only [al_size] <;> omega)) | apply al_old)))
  have hs0 : W1.heap[w.heap.size + 1]? = some (.cells #[.float .f32 p] 32 (0, 0)) := by rw [hW1]; exact al_old (al_at (by simp only [al_size]) rfl)
  have hsb := blk_lt hs0
  have hsc := cell1' hs0
  have HZ1 : Hid (W1.heap[w.heap.size + 1 + 1]? = some (.cells #[.int .i64 0, .int .i64 0, .slice none 0 0] 27 (0, 0))) := Lib.hid (by rw [hW1]; exact al_at (by simp only [al_size]) rfl)
  have hs1 : W1.heap.size = w.heap.size + 1 + 1 + 1 := by rw [hW1]; simp only [al_size]
  have HC := Lib.hid (c_cells_SmoothSection HBX.out (hp.below (hx1.mono hB)) (Nat.le_trans hB hx1.size) hcA za hsc hsb fp)
  clear hs0 hsc
  obtain ⟨ok, hok2⟩ : ∃ ok, fvT ⟨x, z, L⟩ = ok := ⟨_, rfl⟩
  obtain ⟨Q, hQ⟩ : ∃ Q : Sct, outT ok ⟨x, z, lst (cellF x.toNat (fsmooth P L x.toNat z.toNat)) L.length⟩ = Q := ⟨_, rfl⟩
  rw [hok2, hQ] at HC ⊢
  go_enter Try.func42, Try.ntmps42
  go_wp2_with (fail)
  rw [← hW1]
  clear hW1 hQ hok2
  obtain ⟨p0, p1, p2, _⟩ := HBX.out
  obtain ⟨c0, c1, c2, x0, x1, x2⟩ := three_c HZ1.out
  go_wp2_with (go_at_call 75; refine Calls.mono HC.out ?_; rintro e w2 ⟨v, rfl, ho, hx2⟩; obtain ⟨A2, c2', rfl⟩ := ho.val; obtain ⟨c0, c1, c2, x0, x1, x2⟩ := three_c (hx2.blk HZ1.out))
  have hzz := hx2.blk HZ1.out
  have HBZ := Lib.hid (fun u0 u1 u2 => blk_set1 (blk_set1 (blk_set1 hzz 0 u0) 1 u1) 2 u2)
  have hs2 := hx2.size
  (try simp only [Exit.inBlock, Exit.then])
  refine bodyPost_ret (results_cellT rfl _ _ (w.heap.size + 1 + 1) 27 #[.int .i64 Q.x, .int .i64 Q.z, .slice A2 Q.v.length c2'] (0, 0) _ rfl (HBZ.out _ _ _) Try.underlying27 rfl (by kernel_rfl)) rfl ?_
  exact ⟨_, rfl, by
    refine OwT.more (lo := W1.heap.size) (hi := w2.heap.size) ?_ (by omega) (by simp)
    repeat (first | exact ho | (refine OwT.setOther ?_ (by left; dsimp only; omega) _)), (by repeat (first | assumption | exact Ext.refl _ | apply Ext.drewN | apply Ext.drew | apply Ext.alloc | (refine Ext.trans ?_ (by assumption)) | (refine Ext.set ?_ (by dsimp only; omega) _)))⟩
theorem both_EdgeSection {S0 : Sct} (za0 : S0.v.length ≤ 1048576) (hok0 : S0.Ok) :
    ∃ ok Q, Q.v.length ≤ 1048576 ∧ (∀ W : World, ∀ (B0 : Nat) (v0 : Value), RdT W B0 v0 S0 → B0 ≤ W.heap.size → Calls Try.prog 39 #[v0] W fun e w' => RetT W e w' ok Q) ∧
      (∀ W : World, ∀ (B0 : Nat) (v0 : Value), RdT W B0 v0 S0 → B0 ≤ W.heap.size → Calls Try.prog 40 #[v0] W fun e w' => RetT W e w' ok Q) :=
  ⟨fvT S0, outT (fvT S0) (⟨S0.x, S0.z, lst (cellF S0.x.toNat (fedge S0.v S0.x.toNat S0.z.toNat)) S0.v.length⟩), outT_len (by rw [lst_len]; exact za0),
    fun W _ _ h0 hB0 => c_spec_EdgeSection (w := W) h0 hB0 za0 hok0, fun W _ _ h0 hB0 => c_impl_EdgeSection (w := W) h0 hB0 za0 hok0⟩

theorem both_SmoothSection {S0 : Sct} (za0 : S0.v.length ≤ 1048576) (hok0 : S0.Ok) {p1 : Nat} {P1 : Option Nat} (fp1 : Fl .f32 p1 P1) :
    ∃ ok Q, Q.v.length ≤ 1048576 ∧ (∀ W : World, ∀ (B0 : Nat) (v0 : Value), RdT W B0 v0 S0 → B0 ≤ W.heap.size → Calls Try.prog 41 #[v0, .float .f32 p1] W fun e w' => RetT W e w' ok Q) ∧
      (∀ W : World, ∀ (B0 : Nat) (v0 : Value), RdT W B0 v0 S0 → B0 ≤ W.heap.size → Calls Try.prog 42 #[v0, .float .f32 p1] W fun e w' => RetT W e w' ok Q) :=
  ⟨fvT S0, outT (fvT S0) (⟨S0.x, S0.z, lst (cellF S0.x.toNat (fsmooth P1 S0.v S0.x.toNat S0.z.toNat)) S0.v.length⟩), outT_len (by rw [lst_len]; exact za0),
    fun W _ _ h0 hB0 => c_spec_SmoothSection (w := W) h0 hB0 za0 hok0 fp1, fun W _ _ h0 hB0 => c_impl_SmoothSection (w := W) h0 hB0 za0 hok0 fp1⟩

end Go.Proofs.Ytmhfnchpkeeckaa
