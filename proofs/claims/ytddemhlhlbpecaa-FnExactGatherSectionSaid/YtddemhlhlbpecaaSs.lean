/- What cells send and gather, on both sides. Condition: the section is read. -/
import Derived.Test.YtddemhlhlbpecaaSz
namespace Go.Proofs.Ytddemhlhlbpecaa
open Go.RowKit Ieee
set_option linter.unusedVariables false
set_option linter.unusedSimpArgs false

theorem lext {L M : List (Option Nat)} (hl : L.length = M.length) (h : ∀ j, j < L.length → L.getD j none = M.getD j none) : L = M := by
  apply List.ext_getElem hl
  intro j h1 h2
  have := h j h1
  simpa [List.getD, h1, h2] using this
def okD (S : Sct) (V : Option Nat) : Bool := fvT S && fabove V
def spS (S : Sct) (V : Option Nat) : Sct := ⟨S.x, S.z, lst (sprA S.x.toNat S.z.toNat V S.v S.v.length) S.v.length⟩
def gaS (S : Sct) (V : Option Nat) : Sct := ⟨S.x, S.z, lst (gatF S.x.toNat S.z.toNat V S.v) S.v.length⟩
set_option maxRecDepth 20000 in
set_option maxHeartbeats 4000000 in
theorem c_impl_SpreadSection {w : World} {B : Nat} {u : Value} {S : Sct} (h : RdT w B u S) (hB : B ≤ w.heap.size) (za : S.v.length ≤ 1048576) (hok : S.Ok) {p : Nat} {P : Option Nat} (fp : Fl .f32 p P) :
    Calls Try.prog 32 #[u, .float .f32 p] w fun e w' => RetT w e w' (okD S P) (outT (okD S P) (spS S P)) := by
  have hsec := h
  obtain ⟨A, c, rfl, hp, hcA⟩ := h.ex
  clear h
  obtain ⟨W1, hW1⟩ : ∃ W1, W1 = ((w.alloc (.cells #[.int .i64 S.x, .int .i64 S.z, .slice A S.v.length c] 38)).alloc (.cells #[.int .i64 0, .int .i64 0, .slice none 0 0] 38)) := ⟨_, rfl⟩
  have hx1 : Ext w W1 := by rw [hW1]; exact (by repeat (first | assumption | exact Ext.refl _ | apply Ext.drewN | apply Ext.drew | apply Ext.alloc | (refine Ext.trans ?_ (by assumption)) | (refine Ext.set ?_ (by dsimp only; omega) _)))
  have hbx : W1.heap[w.heap.size]? = some (.cells #[.int .i64 S.x, .int .i64 S.z, .slice A S.v.length c] 38 (0, 0)) := by rw [hW1]; exact al_old (heap_alloc_new w _)
  have hz1 : W1.heap[w.heap.size + 1]? = some (.cells #[.int .i64 0, .int .i64 0, .slice none 0 0] 38 (0, 0)) := by rw [hW1]; exact al_at (by simp only [al_size]) rfl
  have hs1 : W1.heap.size = w.heap.size + 1 + 1 := by rw [hW1]; simp only [al_size]
  have HZ1 := Lib.hid hz1
  have HP := Lib.hid hp
  have HAL := Lib.hid (c_alongT (hsec.below (hx1.mono hB)) (Nat.le_trans hB hx1.size) za fp)
  obtain ⟨p0, p1, p2, _⟩ := three_c hbx
  clear hz1 hbx hp hsec
  cases hV : okD S P
  · have HC : Hid (Calls Try.prog 80 #[.agg #[.int .i64 S.x, .int .i64 S.z, .slice A S.v.length c], .float .f32 p, .func (.func 81) #[] #[]] W1 fun e w' => e = .returned (.tuple #[.agg #[.int .i64 0, .int .i64 0, .slice none 0 0], .bool false]) ∧ Ext W1 w') := Lib.hid (Calls.mono HAL.out (fun e w' h => by
      rcases h with ⟨_, h1, h2⟩ | ⟨_, _, _, hf, _⟩
      · exact ⟨h1, h2⟩
      · rw [show (fvT S && fabove P) = false from hV] at hf; cases hf))
    go_enter Try.func32, Try.ntmps32
    go_wp2_with (fail)
    rw [← hW1]
    clear hW1
    go_wp2_with (go_at_call 80; refine Calls.mono HC.out ?_; rintro e w1 ⟨rfl, hxa⟩; obtain ⟨c0, c1, c2, x0, x1, x2⟩ := three_c (hxa.blk HZ1.out))
    (try simp only [Exit.inBlock, Exit.then])
    refine bodyPost_ret (results_cellT rfl _ _ (w.heap.size + 1) 38 #[.int .i64 0, .int .i64 0, .slice none 0 0] (0, 0) _ rfl (by repeat (first | exact hxa.blk HZ1.out | exact blk_set1 (blk_set1 (blk_set1 (hxa.blk HZ1.out) 0 _) 1 _) 2 _)) Try.underlying38 rfl (by kernel_rfl)) rfl ?_
    exact retT_no rfl (by repeat (first | assumption | exact Ext.refl _ | apply Ext.drewN | apply Ext.drew | apply Ext.alloc | (refine Ext.trans ?_ (by assumption)) | (refine Ext.set ?_ (by dsimp only; omega) _)))
  · have HC : Hid (Calls Try.prog 80 #[.agg #[.int .i64 S.x, .int .i64 S.z, .slice A S.v.length c], .float .f32 p, .func (.func 81) #[] #[]] W1 fun e w' => ∃ g cap cs, e = .returned (.tuple #[.agg #[.int .i64 S.x, .int .i64 S.z, .slice (some ⟨g, 0, none⟩) S.v.length cap], .bool true]) ∧ W1.heap.size ≤ g ∧ w'.heap[g]? = some (.cells cs 22 (0, 0)) ∧ S.v.length ≤ cap ∧ S.v.length ≤ cs.size ∧ OwL w' W1.heap.size w'.heap.size (some ⟨g, 0, none⟩) S.v.length (spS S P).v ∧ Ext W1 w') := Lib.hid (Calls.mono HAL.out (fun e w' h => by
      rcases h with ⟨hf, _⟩ | ⟨a, b, n, _, e1, e2, e3, g, cap, cs, h1, h2, h3, h4, h5, h6, h7⟩
      · rw [show (fvT S && fabove P) = true from hV] at hf; cases hf
      · refine ⟨g, cap, cs, by rw [e1, e2, e3]; exact h1, h2, h3, by omega, by omega, ?_, h7⟩
        unfold spS
        dsimp only
        rw [e1, e2, e3, Int.toNat_natCast, Int.toNat_natCast]
        exact (rowF_lst' h6 h3 h5).more h2 (Nat.le_refl _)))
    go_enter Try.func32, Try.ntmps32
    go_wp2_with (fail)
    rw [← hW1]
    clear hW1
    go_wp2_with (go_at_call 80; refine Calls.mono HC.out ?_; rintro e w1 ⟨g, cap, cs, rfl, h2, h3, h4, h5, h6, hxa⟩; obtain ⟨c0, c1, c2, x0, x1, x2⟩ := three_c (hxa.blk HZ1.out); have HBZ := Lib.hid (fun u0 u1 u2 => blk_set1 (blk_set1 (blk_set1 (hxa.blk HZ1.out) 0 u0) 1 u1) 2 u2))
    (try simp only [Exit.inBlock, Exit.then])
    refine bodyPost_ret (results_cellT rfl _ _ (w.heap.size + 1) 38 #[.int .i64 S.x, .int .i64 S.z, .slice (some ⟨g, 0, none⟩) S.v.length cap] (0, 0) _ rfl (HBZ.out _ _ _) Try.underlying38 rfl (by kernel_rfl)) rfl ?_
    have hsa := hxa.size
    have hxw : Ext w w1 := hx1.trans hxa
    have hO : OwT w1 W1.heap.size w1.heap.size (.agg #[.int .i64 S.x, .int .i64 S.z, .slice (some ⟨g, 0, none⟩) S.v.length cap]) (spS S P) := by
      have h9 := OwT.of (x := S.x) (z := S.z) h6 h4
      have e9 : (spS S P) = ⟨S.x, S.z, (spS S P).v⟩ := rfl
      rw [e9]; exact h9
    exact ⟨_, rfl, by
      refine OwT.more (lo := W1.heap.size) (hi := w1.heap.size) ?_ (by omega) (by simp)
      repeat (first | exact hO | (refine OwT.setOther ?_ (by left; dsimp only; omega) _)), (by repeat (first | assumption | exact Ext.refl _ | apply Ext.drewN | apply Ext.drew | apply Ext.alloc | (refine Ext.trans ?_ (by assumption)) | (refine Ext.set ?_ (by dsimp only; omega) _)))⟩
set_option maxRecDepth 20000 in
set_option maxHeartbeats 4000000 in
theorem c_spec_SpreadSection {w : World} {B : Nat} {u : Value} {S : Sct} (h : RdT w B u S) (hB : B ≤ w.heap.size) (za : S.v.length ≤ 1048576) (hok : S.Ok) {p : Nat} {P : Option Nat} (fp : Fl .f32 p P) :
    Calls Try.prog 31 #[u, .float .f32 p] w fun e w' => RetT w e w' (okD S P) (outT (okD S P) (spS S P)) := by
  have hsec := h
  obtain ⟨A, c, rfl, hp, hcA⟩ := h.ex
  clear h
  obtain ⟨W1, hW1⟩ : ∃ W1, W1 = ((w.alloc (.cells #[.int .i64 S.x, .int .i64 S.z, .slice A S.v.length c] 38)).alloc (.cells #[.int .i64 0, .int .i64 0, .slice none 0 0] 38)) := ⟨_, rfl⟩
  have hx1 : Ext w W1 := by rw [hW1]; exact (by repeat (first | assumption | exact Ext.refl _ | apply Ext.drewN | apply Ext.drew | apply Ext.alloc | (refine Ext.trans ?_ (by assumption)) | (refine Ext.set ?_ (by dsimp only; omega) _)))
  have hbx : W1.heap[w.heap.size]? = some (.cells #[.int .i64 S.x, .int .i64 S.z, .slice A S.v.length c] 38 (0, 0)) := by rw [hW1]; exact al_old (heap_alloc_new w _)
  have hz1 : W1.heap[w.heap.size + 1]? = some (.cells #[.int .i64 0, .int .i64 0, .slice none 0 0] 38 (0, 0)) := by rw [hW1]; exact al_at (by simp only [al_size]) rfl
  have hs1 : W1.heap.size = w.heap.size + 1 + 1 := by rw [hW1]; simp only [al_size]
  have HZ1 := Lib.hid hz1
  have HP := Lib.hid hp
  have HBX := Lib.hid (SbAt.blk hbx)
  have hIS := c_l06Is (S := S) HBX.out rfl za
  clear hz1 hbx hp hsec
  cases hV : fvT S
  · rw [hV] at hIS
    have HIS := Lib.hid hIS
    have hk : okD S P = false := by unfold okD; rw [hV]; rfl
    clear hIS
    go_enter Try.func31, Try.ntmps31
    go_wp2_with (fail)
    rw [← hW1]
    clear hW1
    obtain ⟨c0, c1, c2, x0, x1, x2⟩ := three_c HZ1.out
    go_wp2_with (go_at_call 68; refine Calls.mono HIS.out ?_; rintro e w1 ⟨rfl, n1, rfl⟩)
    (try simp only [Exit.inBlock, Exit.then])
    refine bodyPost_ret (results_cellT rfl _ _ (w.heap.size + 1) 38 #[.int .i64 0, .int .i64 0, .slice none 0 0] (0, 0) _ rfl (by repeat (first | exact HZ1.out | exact blk_set1 (blk_set1 (blk_set1 HZ1.out 0 _) 1 _) 2 _)) Try.underlying38 rfl (by kernel_rfl)) rfl ?_
    exact retT_no hk (by repeat (first | assumption | exact Ext.refl _ | apply Ext.drewN | apply Ext.drew | apply Ext.alloc | (refine Ext.trans ?_ (by assumption)) | (refine Ext.set ?_ (by dsimp only; omega) _)))
  rw [hV] at hIS
  have HIS := Lib.hid hIS
  clear hIS
  cases hC : fabove P
  · have hk : okD S P = false := by unfold okD; rw [hV, hC]; rfl
    go_enter Try.func31, Try.ntmps31
    go_wp2_with (fail)
    rw [← hW1]
    clear hW1
    obtain ⟨c0, c1, c2, x0, x1, x2⟩ := three_c HZ1.out
    go_wp2_with (first | (go_at_call 68; refine Calls.mono HIS.out ?_; rintro e w1 ⟨rfl, n1, rfl⟩) | (go_at_call 78; refine Calls.mono (c_l02Above fp _) ?_; rw [hC]; rintro e w4 ⟨rfl, n3, rfl⟩))
    (try simp only [Exit.inBlock, Exit.then])
    refine bodyPost_ret (results_cellT rfl _ _ (w.heap.size + 1) 38 #[.int .i64 0, .int .i64 0, .slice none 0 0] (0, 0) _ rfl (by repeat (first | exact HZ1.out | exact blk_set1 (blk_set1 (blk_set1 HZ1.out 0 _) 1 _) 2 _)) Try.underlying38 rfl (by kernel_rfl)) rfl ?_
    exact retT_no hk (by repeat (first | assumption | exact Ext.refl _ | apply Ext.drewN | apply Ext.drew | apply Ext.alloc | (refine Ext.trans ?_ (by assumption)) | (refine Ext.set ?_ (by dsimp only; omega) _)))
  have hk : okD S P = true := by unfold okD; rw [hV, hC]; rfl
  obtain ⟨a, b, n, e1, e2, e3, g1, g2, g3, g4, g5, g6, g7, g8⟩ := fvT_of hV
  have HLS : ∀ W : World, Ext W1 W → Calls Try.prog 79 #[.pointer (some ⟨w.heap.size, 0, none⟩), .float .f32 p] W fun e w' => ∃ x, e = .returned x ∧ NewT W x w' S.x S.z S.v.length (spS S P |>.v.getD · none) := by
    intro W hW
    have hbW := HBX.out.ext hW
    rw [e1, e2, e3] at hbW
    have hpW := HP.out.below ((hx1.trans hW).mono hB)
    rw [e3] at hpW
    refine Calls.mono (c_l06Spread hbW hpW (Nat.le_trans hB (hx1.trans hW).size) g1 g2 g3 g4 g5 g8 g6 g7 fp hC) ?_
    rintro e w' ⟨x, rfl, g, cap, cs, h1, h2, h3, h4, h5, h6, h7⟩
    refine ⟨x, rfl, g, cap, cs, by rw [e1, e2, e3]; exact h1, h2, h3, by omega, by omega, ?_, h7⟩
    rw [e3]
    refine h6.keep (fun j hj => ?_)
    unfold spS
    dsimp only
    rw [e1, e2, e3, Int.toNat_natCast, Int.toNat_natCast, lst_at hj]
  have HLS := Lib.hid HLS
  have hlen : (spS S P).v.length = S.v.length := lst_len _ _
  rw [hk]
  clear hk hV e1 e2 e3
  go_enter Try.func31, Try.ntmps31
  go_wp2_with (fail)
  rw [← hW1]
  clear hW1
  go_wp2_with (first | (go_at_call 68; refine Calls.mono HIS.out ?_; rintro e w1 ⟨rfl, n1, rfl⟩) | (go_at_call 78; refine Calls.mono (c_l02Above fp _) ?_; rw [hC]; rintro e w4 ⟨rfl, n3, rfl⟩) | (go_at_call 79; refine Calls.mono (HLS.out _ (by repeat (first | assumption | exact Ext.refl _ | apply Ext.drewN | apply Ext.drew | apply Ext.alloc | (refine Ext.trans ?_ (by assumption)) | (refine Ext.set ?_ (by dsimp only; omega) _)))) ?_; rintro e w5 ⟨x, rfl, g, cap, cs, rfl, h2, h3, h4, h5, h6, hxa⟩; have hxb : Ext W1 w5 := Ext.trans (by repeat (first | assumption | exact Ext.refl _ | apply Ext.drewN | apply Ext.drew | apply Ext.alloc | (refine Ext.trans ?_ (by assumption)) | (refine Ext.set ?_ (by dsimp only; omega) _))) hxa; have h2' : W1.heap.size ≤ g := Nat.le_trans (by simp) h2; have HO := Lib.hid ((rowF_lst' h6 h3 h5).more h2' (Nat.le_refl _)); obtain ⟨c0, c1, c2, x0, x1, x2⟩ := three_c (hxb.blk HZ1.out); have HBZ := Lib.hid (fun u0 u1 u2 => blk_set1 (blk_set1 (blk_set1 (hxb.blk HZ1.out) 0 u0) 1 u1) 2 u2)))
  (try simp only [Exit.inBlock, Exit.then])
  refine bodyPost_ret (results_cellT rfl _ _ (w.heap.size + 1) 38 #[.int .i64 S.x, .int .i64 S.z, .slice (some ⟨g, 0, none⟩) S.v.length cap] (0, 0) _ rfl (HBZ.out _ _ _) Try.underlying38 rfl (by kernel_rfl)) rfl ?_
  have hsa := hxb.size
  have hxw : Ext w w5 := hx1.trans hxb
  have hO : OwT w5 W1.heap.size w5.heap.size (.agg #[.int .i64 S.x, .int .i64 S.z, .slice (some ⟨g, 0, none⟩) S.v.length cap]) (spS S P) := by
    have h9 := OwT.of (x := S.x) (z := S.z) HO.out h4
    have e9 : lst (fun j => (spS S P).v.getD j none) S.v.length = (spS S P).v := by
      exact lext (by rw [lst_len, hlen]) (fun j hj => by rw [lst_len] at hj; exact lst_at hj)
    have e8 : (spS S P) = ⟨S.x, S.z, (spS S P).v⟩ := rfl
    rw [e9] at h9
    rw [e8]; exact h9
  exact ⟨_, rfl, by
    refine OwT.more (lo := W1.heap.size) (hi := w5.heap.size) ?_ (by omega) (by simp)
    repeat (first | exact hO | (refine OwT.setOther ?_ (by left; dsimp only; omega) _)), (by repeat (first | assumption | exact Ext.refl _ | apply Ext.drewN | apply Ext.drew | apply Ext.alloc | (refine Ext.trans ?_ (by assumption)) | (refine Ext.set ?_ (by dsimp only; omega) _)))⟩
set_option maxRecDepth 20000 in
set_option maxHeartbeats 4000000 in
theorem c_impl_GatherSection {w : World} {B : Nat} {u : Value} {S : Sct} (h : RdT w B u S) (hB : B ≤ w.heap.size) (za : S.v.length ≤ 1048576) (hok : S.Ok) {p : Nat} {P : Option Nat} (fp : Fl .f32 p P) :
    Calls Try.prog 34 #[u, .float .f32 p] w fun e w' => RetT w e w' (okD S P) (outT (okD S P) (gaS S P)) := by
  have hsec := h
  obtain ⟨A, c, rfl, hp, hcA⟩ := h.ex
  clear h
  obtain ⟨W1, hW1⟩ : ∃ W1, W1 = ((w.alloc (.cells #[.int .i64 S.x, .int .i64 S.z, .slice A S.v.length c] 38)).alloc (.cells #[.int .i64 0, .int .i64 0, .slice none 0 0] 38)) := ⟨_, rfl⟩
  have hx1 : Ext w W1 := by rw [hW1]; exact (by repeat (first | assumption | exact Ext.refl _ | apply Ext.drewN | apply Ext.drew | apply Ext.alloc | (refine Ext.trans ?_ (by assumption)) | (refine Ext.set ?_ (by dsimp only; omega) _)))
  have hbx : W1.heap[w.heap.size]? = some (.cells #[.int .i64 S.x, .int .i64 S.z, .slice A S.v.length c] 38 (0, 0)) := by rw [hW1]; exact al_old (heap_alloc_new w _)
  have hz1 : W1.heap[w.heap.size + 1]? = some (.cells #[.int .i64 0, .int .i64 0, .slice none 0 0] 38 (0, 0)) := by rw [hW1]; exact al_at (by simp only [al_size]) rfl
  have hs1 : W1.heap.size = w.heap.size + 1 + 1 := by rw [hW1]; simp only [al_size]
  have HZ1 := Lib.hid hz1
  have HP := Lib.hid hp
  have HAL := Lib.hid (c_alongB (hsec.below (hx1.mono hB)) (Nat.le_trans hB hx1.size) za fp)
  obtain ⟨p0, p1, p2, _⟩ := three_c hbx
  clear hz1 hbx hp hsec
  cases hV : okD S P
  · have HC : Hid (Calls Try.prog 80 #[.agg #[.int .i64 S.x, .int .i64 S.z, .slice A S.v.length c], .float .f32 p, .func (.func 83) #[] #[]] W1 fun e w' => e = .returned (.tuple #[.agg #[.int .i64 0, .int .i64 0, .slice none 0 0], .bool false]) ∧ Ext W1 w') := Lib.hid (Calls.mono HAL.out (fun e w' h => by
      rcases h with ⟨_, h1, h2⟩ | ⟨_, _, _, hf, _⟩
      · exact ⟨h1, h2⟩
      · rw [show (fvT S && fabove P) = false from hV] at hf; cases hf))
    go_enter Try.func34, Try.ntmps34
    go_wp2_with (fail)
    rw [← hW1]
    clear hW1
    go_wp2_with (go_at_call 80; refine Calls.mono HC.out ?_; rintro e w1 ⟨rfl, hxa⟩; obtain ⟨c0, c1, c2, x0, x1, x2⟩ := three_c (hxa.blk HZ1.out))
    (try simp only [Exit.inBlock, Exit.then])
    refine bodyPost_ret (results_cellT rfl _ _ (w.heap.size + 1) 38 #[.int .i64 0, .int .i64 0, .slice none 0 0] (0, 0) _ rfl (by repeat (first | exact hxa.blk HZ1.out | exact blk_set1 (blk_set1 (blk_set1 (hxa.blk HZ1.out) 0 _) 1 _) 2 _)) Try.underlying38 rfl (by kernel_rfl)) rfl ?_
    exact retT_no rfl (by repeat (first | assumption | exact Ext.refl _ | apply Ext.drewN | apply Ext.drew | apply Ext.alloc | (refine Ext.trans ?_ (by assumption)) | (refine Ext.set ?_ (by dsimp only; omega) _)))
  · have HC : Hid (Calls Try.prog 80 #[.agg #[.int .i64 S.x, .int .i64 S.z, .slice A S.v.length c], .float .f32 p, .func (.func 83) #[] #[]] W1 fun e w' => ∃ g cap cs, e = .returned (.tuple #[.agg #[.int .i64 S.x, .int .i64 S.z, .slice (some ⟨g, 0, none⟩) S.v.length cap], .bool true]) ∧ W1.heap.size ≤ g ∧ w'.heap[g]? = some (.cells cs 22 (0, 0)) ∧ S.v.length ≤ cap ∧ S.v.length ≤ cs.size ∧ OwL w' W1.heap.size w'.heap.size (some ⟨g, 0, none⟩) S.v.length (gaS S P).v ∧ Ext W1 w') := Lib.hid (Calls.mono HAL.out (fun e w' h => by
      rcases h with ⟨hf, _⟩ | ⟨a, b, n, _, e1, e2, e3, g, cap, cs, h1, h2, h3, h4, h5, h6, h7⟩
      · rw [show (fvT S && fabove P) = true from hV] at hf; cases hf
      · refine ⟨g, cap, cs, by rw [e1, e2, e3]; exact h1, h2, h3, by omega, by omega, ?_, h7⟩
        unfold gaS
        dsimp only
        rw [e1, e2, e3, Int.toNat_natCast, Int.toNat_natCast]
        exact (rowF_lst' h6 h3 h5).more h2 (Nat.le_refl _)))
    go_enter Try.func34, Try.ntmps34
    go_wp2_with (fail)
    rw [← hW1]
    clear hW1
    go_wp2_with (go_at_call 80; refine Calls.mono HC.out ?_; rintro e w1 ⟨g, cap, cs, rfl, h2, h3, h4, h5, h6, hxa⟩; obtain ⟨c0, c1, c2, x0, x1, x2⟩ := three_c (hxa.blk HZ1.out); have HBZ := Lib.hid (fun u0 u1 u2 => blk_set1 (blk_set1 (blk_set1 (hxa.blk HZ1.out) 0 u0) 1 u1) 2 u2))
    (try simp only [Exit.inBlock, Exit.then])
    refine bodyPost_ret (results_cellT rfl _ _ (w.heap.size + 1) 38 #[.int .i64 S.x, .int .i64 S.z, .slice (some ⟨g, 0, none⟩) S.v.length cap] (0, 0) _ rfl (HBZ.out _ _ _) Try.underlying38 rfl (by kernel_rfl)) rfl ?_
    have hsa := hxa.size
    have hxw : Ext w w1 := hx1.trans hxa
    have hO : OwT w1 W1.heap.size w1.heap.size (.agg #[.int .i64 S.x, .int .i64 S.z, .slice (some ⟨g, 0, none⟩) S.v.length cap]) (gaS S P) := by
      have h9 := OwT.of (x := S.x) (z := S.z) h6 h4
      have e9 : (gaS S P) = ⟨S.x, S.z, (gaS S P).v⟩ := rfl
      rw [e9]; exact h9
    exact ⟨_, rfl, by
      refine OwT.more (lo := W1.heap.size) (hi := w1.heap.size) ?_ (by omega) (by simp)
      repeat (first | exact hO | (refine OwT.setOther ?_ (by left; dsimp only; omega) _)), (by repeat (first | assumption | exact Ext.refl _ | apply Ext.drewN | apply Ext.drew | apply Ext.alloc | (refine Ext.trans ?_ (by assumption)) | (refine Ext.set ?_ (by dsimp only; omega) _)))⟩
set_option maxRecDepth 20000 in
set_option maxHeartbeats 4000000 in
theorem c_spec_GatherSection {w : World} {B : Nat} {u : Value} {S : Sct} (h : RdT w B u S) (hB : B ≤ w.heap.size) (za : S.v.length ≤ 1048576) (hok : S.Ok) {p : Nat} {P : Option Nat} (fp : Fl .f32 p P) :
    Calls Try.prog 33 #[u, .float .f32 p] w fun e w' => RetT w e w' (okD S P) (outT (okD S P) (gaS S P)) := by
  have hsec := h
  obtain ⟨A, c, rfl, hp, hcA⟩ := h.ex
  clear h
  obtain ⟨W1, hW1⟩ : ∃ W1, W1 = ((w.alloc (.cells #[.int .i64 S.x, .int .i64 S.z, .slice A S.v.length c] 38)).alloc (.cells #[.int .i64 0, .int .i64 0, .slice none 0 0] 38)) := ⟨_, rfl⟩
  have hx1 : Ext w W1 := by rw [hW1]; exact (by repeat (first | assumption | exact Ext.refl _ | apply Ext.drewN | apply Ext.drew | apply Ext.alloc | (refine Ext.trans ?_ (by assumption)) | (refine Ext.set ?_ (by dsimp only; omega) _)))
  have hbx : W1.heap[w.heap.size]? = some (.cells #[.int .i64 S.x, .int .i64 S.z, .slice A S.v.length c] 38 (0, 0)) := by rw [hW1]; exact al_old (heap_alloc_new w _)
  have hz1 : W1.heap[w.heap.size + 1]? = some (.cells #[.int .i64 0, .int .i64 0, .slice none 0 0] 38 (0, 0)) := by rw [hW1]; exact al_at (by simp only [al_size]) rfl
  have hs1 : W1.heap.size = w.heap.size + 1 + 1 := by rw [hW1]; simp only [al_size]
  have HZ1 := Lib.hid hz1
  have HP := Lib.hid hp
  have HBX := Lib.hid (SbAt.blk hbx)
  have hIS := c_l06Is (S := S) HBX.out rfl za
  clear hz1 hbx hp hsec
  cases hV : fvT S
  · rw [hV] at hIS
    have HIS := Lib.hid hIS
    have hk : okD S P = false := by unfold okD; rw [hV]; rfl
    clear hIS
    go_enter Try.func33, Try.ntmps33
    go_wp2_with (fail)
    rw [← hW1]
    clear hW1
    obtain ⟨c0, c1, c2, x0, x1, x2⟩ := three_c HZ1.out
    go_wp2_with (go_at_call 68; refine Calls.mono HIS.out ?_; rintro e w1 ⟨rfl, n1, rfl⟩)
    (try simp only [Exit.inBlock, Exit.then])
    refine bodyPost_ret (results_cellT rfl _ _ (w.heap.size + 1) 38 #[.int .i64 0, .int .i64 0, .slice none 0 0] (0, 0) _ rfl (by repeat (first | exact HZ1.out | exact blk_set1 (blk_set1 (blk_set1 HZ1.out 0 _) 1 _) 2 _)) Try.underlying38 rfl (by kernel_rfl)) rfl ?_
    exact retT_no hk (by repeat (first | assumption | exact Ext.refl _ | apply Ext.drewN | apply Ext.drew | apply Ext.alloc | (refine Ext.trans ?_ (by assumption)) | (refine Ext.set ?_ (by dsimp only; omega) _)))
  rw [hV] at hIS
  have HIS := Lib.hid hIS
  clear hIS
  cases hC : fabove P
  · have hk : okD S P = false := by unfold okD; rw [hV, hC]; rfl
    go_enter Try.func33, Try.ntmps33
    go_wp2_with (fail)
    rw [← hW1]
    clear hW1
    obtain ⟨c0, c1, c2, x0, x1, x2⟩ := three_c HZ1.out
    go_wp2_with (first | (go_at_call 68; refine Calls.mono HIS.out ?_; rintro e w1 ⟨rfl, n1, rfl⟩) | (go_at_call 78; refine Calls.mono (c_l02Above fp _) ?_; rw [hC]; rintro e w4 ⟨rfl, n3, rfl⟩))
    (try simp only [Exit.inBlock, Exit.then])
    refine bodyPost_ret (results_cellT rfl _ _ (w.heap.size + 1) 38 #[.int .i64 0, .int .i64 0, .slice none 0 0] (0, 0) _ rfl (by repeat (first | exact HZ1.out | exact blk_set1 (blk_set1 (blk_set1 HZ1.out 0 _) 1 _) 2 _)) Try.underlying38 rfl (by kernel_rfl)) rfl ?_
    exact retT_no hk (by repeat (first | assumption | exact Ext.refl _ | apply Ext.drewN | apply Ext.drew | apply Ext.alloc | (refine Ext.trans ?_ (by assumption)) | (refine Ext.set ?_ (by dsimp only; omega) _)))
  have hk : okD S P = true := by unfold okD; rw [hV, hC]; rfl
  obtain ⟨a, b, n, e1, e2, e3, g1, g2, g3, g4, g5, g6, g7, g8⟩ := fvT_of hV
  have HLS : ∀ W : World, Ext W1 W → Calls Try.prog 82 #[.pointer (some ⟨w.heap.size, 0, none⟩), .float .f32 p] W fun e w' => ∃ x, e = .returned x ∧ NewT W x w' S.x S.z S.v.length (gaS S P |>.v.getD · none) := by
    intro W hW
    have hbW := HBX.out.ext hW
    rw [e1, e2, e3] at hbW
    have hpW := HP.out.below ((hx1.trans hW).mono hB)
    rw [e3] at hpW
    refine Calls.mono (c_l06Gather hbW hpW (Nat.le_trans hB (hx1.trans hW).size) g1 g2 g3 g4 g5 g8 g6 g7 fp hC) ?_
    rintro e w' ⟨x, rfl, g, cap, cs, h1, h2, h3, h4, h5, h6, h7⟩
    refine ⟨x, rfl, g, cap, cs, by rw [e1, e2, e3]; exact h1, h2, h3, by omega, by omega, ?_, h7⟩
    rw [e3]
    refine h6.keep (fun j hj => ?_)
    unfold gaS
    dsimp only
    rw [e1, e2, e3, Int.toNat_natCast, Int.toNat_natCast, lst_at hj]
  have HLS := Lib.hid HLS
  have hlen : (gaS S P).v.length = S.v.length := lst_len _ _
  rw [hk]
  clear hk hV e1 e2 e3
  go_enter Try.func33, Try.ntmps33
  go_wp2_with (fail)
  rw [← hW1]
  clear hW1
  go_wp2_with (first | (go_at_call 68; refine Calls.mono HIS.out ?_; rintro e w1 ⟨rfl, n1, rfl⟩) | (go_at_call 78; refine Calls.mono (c_l02Above fp _) ?_; rw [hC]; rintro e w4 ⟨rfl, n3, rfl⟩) | (go_at_call 82; refine Calls.mono (HLS.out _ (by repeat (first | assumption | exact Ext.refl _ | apply Ext.drewN | apply Ext.drew | apply Ext.alloc | (refine Ext.trans ?_ (by assumption)) | (refine Ext.set ?_ (by dsimp only; omega) _)))) ?_; rintro e w5 ⟨x, rfl, g, cap, cs, rfl, h2, h3, h4, h5, h6, hxa⟩; have hxb : Ext W1 w5 := Ext.trans (by repeat (first | assumption | exact Ext.refl _ | apply Ext.drewN | apply Ext.drew | apply Ext.alloc | (refine Ext.trans ?_ (by assumption)) | (refine Ext.set ?_ (by dsimp only; omega) _))) hxa; have h2' : W1.heap.size ≤ g := Nat.le_trans (by simp) h2; have HO := Lib.hid ((rowF_lst' h6 h3 h5).more h2' (Nat.le_refl _)); obtain ⟨c0, c1, c2, x0, x1, x2⟩ := three_c (hxb.blk HZ1.out); have HBZ := Lib.hid (fun u0 u1 u2 => blk_set1 (blk_set1 (blk_set1 (hxb.blk HZ1.out) 0 u0) 1 u1) 2 u2)))
  (try simp only [Exit.inBlock, Exit.then])
  refine bodyPost_ret (results_cellT rfl _ _ (w.heap.size + 1) 38 #[.int .i64 S.x, .int .i64 S.z, .slice (some ⟨g, 0, none⟩) S.v.length cap] (0, 0) _ rfl (HBZ.out _ _ _) Try.underlying38 rfl (by kernel_rfl)) rfl ?_
  have hsa := hxb.size
  have hxw : Ext w w5 := hx1.trans hxb
  have hO : OwT w5 W1.heap.size w5.heap.size (.agg #[.int .i64 S.x, .int .i64 S.z, .slice (some ⟨g, 0, none⟩) S.v.length cap]) (gaS S P) := by
    have h9 := OwT.of (x := S.x) (z := S.z) HO.out h4
    have e9 : lst (fun j => (gaS S P).v.getD j none) S.v.length = (gaS S P).v := by
      exact lext (by rw [lst_len, hlen]) (fun j hj => by rw [lst_len] at hj; exact lst_at hj)
    have e8 : (gaS S P) = ⟨S.x, S.z, (gaS S P).v⟩ := rfl
    rw [e9] at h9
    rw [e8]; exact h9
  exact ⟨_, rfl, by
    refine OwT.more (lo := W1.heap.size) (hi := w5.heap.size) ?_ (by omega) (by simp)
    repeat (first | exact hO | (refine OwT.setOther ?_ (by left; dsimp only; omega) _)), (by repeat (first | assumption | exact Ext.refl _ | apply Ext.drewN | apply Ext.drew | apply Ext.alloc | (refine Ext.trans ?_ (by assumption)) | (refine Ext.set ?_ (by dsimp only; omega) _)))⟩
theorem both_SpreadSection {S0 : Sct} (za0 : S0.v.length ≤ 1048576) (hok0 : S0.Ok) {p1 : Nat} {P1 : Option Nat} (fp1 : Fl .f32 p1 P1) :
    ∃ ok Q, Q.v.length ≤ 1048576 ∧ (∀ W : World, ∀ (B0 : Nat) (v0 : Value), RdT W B0 v0 S0 → B0 ≤ W.heap.size → Calls Try.prog 31 #[v0, .float .f32 p1] W fun e w' => RetT W e w' ok Q) ∧
      (∀ W : World, ∀ (B0 : Nat) (v0 : Value), RdT W B0 v0 S0 → B0 ≤ W.heap.size → Calls Try.prog 32 #[v0, .float .f32 p1] W fun e w' => RetT W e w' ok Q) :=
  ⟨okD S0 P1, outT (okD S0 P1) (spS S0 P1), outT_len (show (lst _ _).length ≤ _ by rw [lst_len]; exact za0),
    fun W _ _ h0 hB0 => c_spec_SpreadSection (w := W) h0 hB0 za0 hok0 fp1, fun W _ _ h0 hB0 => c_impl_SpreadSection (w := W) h0 hB0 za0 hok0 fp1⟩

theorem both_GatherSection {S0 : Sct} (za0 : S0.v.length ≤ 1048576) (hok0 : S0.Ok) {p1 : Nat} {P1 : Option Nat} (fp1 : Fl .f32 p1 P1) :
    ∃ ok Q, Q.v.length ≤ 1048576 ∧ (∀ W : World, ∀ (B0 : Nat) (v0 : Value), RdT W B0 v0 S0 → B0 ≤ W.heap.size → Calls Try.prog 33 #[v0, .float .f32 p1] W fun e w' => RetT W e w' ok Q) ∧
      (∀ W : World, ∀ (B0 : Nat) (v0 : Value), RdT W B0 v0 S0 → B0 ≤ W.heap.size → Calls Try.prog 34 #[v0, .float .f32 p1] W fun e w' => RetT W e w' ok Q) :=
  ⟨okD S0 P1, outT (okD S0 P1) (gaS S0 P1), outT_len (show (lst _ _).length ≤ _ by rw [lst_len]; exact za0),
    fun W _ _ h0 hB0 => c_spec_GatherSection (w := W) h0 hB0 za0 hok0 fp1, fun W _ _ h0 hB0 => c_impl_GatherSection (w := W) h0 hB0 za0 hok0 fp1⟩

end Go.Proofs.Ytddemhlhlbpecaa
