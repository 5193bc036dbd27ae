/- Contracts: a section of one value, on both sides. No condition. -/
import Derived.Test.YtmhfnchpkeeckaaXf
import Derived.Test.YtmhfnchpkeeckaaRp
namespace Go.Proofs.Ytmhfnchpkeeckaa
open Go.RowKit Go.ChangeShapes Go.WideShapes Go.Deep Ieee
set_option linter.unusedVariables false
set_option linter.unusedSimpArgs false

def flatT (x z : Int) (P : Option Nat) : Sct := ⟨x, z, lst (fun _ => P) (x * z).toNat⟩
set_option maxRecDepth 20000 in
set_option maxHeartbeats 4000000 in
theorem c_spec_FlatSection {w : World} {i0 : Int} (hi0 : -9223372036854775808 ≤ i0) (hj0 : i0 ≤ 9223372036854775807) {i1 : Int} (hi1 : -9223372036854775808 ≤ i1) (hj1 : i1 ≤ 9223372036854775807) {p : Nat} {P : Option Nat} (fp : Fl .f32 p P) :
    Calls Try.prog 22 #[.int .i64 i0, .int .i64 i1, .float .f32 p] w fun e w' => RetT w e w' (sizeT i0 i1) (outT (sizeT i0 i1) (flatT i0 i1 P)) := by
  obtain ⟨W1, hW1⟩ : ∃ W1, W1 = w.alloc (.cells #[.int .i64 0, .int .i64 0, .slice none 0 0] 27) := ⟨_, rfl⟩
  have hx1 : Ext w W1 := by rw [hW1]; exact (by repeat (first | assumption | exact Ext.refl _ | apply Ext.drewN | apply Ext.drew | apply Ext.alloc | (refine Ext.trans ?_ (by assumption)) | (refine Ext.set ?_ (by dsimp only; omega) _)))
  have HZ1 : Hid (W1.heap[w.heap.size]? = some (.cells #[.int .i64 0, .int .i64 0, .slice none 0 0] 27 (0, 0))) := Lib.hid (by rw [hW1]; exact heap_alloc_new w _)
  have hs1 : W1.heap.size = w.heap.size + 1 := by rw [hW1, al_size]
  cases hV : sizeT i0 i1
  · go_enter Try.func22, Try.ntmps22
    go_wp2_with (fail)
    rw [← hW1]
    clear hW1
    obtain ⟨c0, c1, c2, x0, x1, x2⟩ := three_c HZ1.out
    go_wp2_with (go_at_call 52; refine Calls.mono (c_l06Size _ _ _) ?_; rw [hV]; rintro e w1 ⟨rfl, rfl⟩)
    (try simp only [Exit.inBlock, Exit.then])
    refine bodyPost_ret (results_cellT rfl _ _ w.heap.size 27 #[.int .i64 0, .int .i64 0, .slice none 0 0] (0, 0) _ rfl (by repeat (first | exact HZ1.out | exact blk_set1 (blk_set1 (blk_set1 HZ1.out 0 _) 1 _) 2 _)) Try.underlying27 rfl (by kernel_rfl)) rfl ?_
    exact retT_no rfl (by repeat (first | assumption | exact Ext.refl _ | apply Ext.drewN | apply Ext.drew | apply Ext.alloc | (refine Ext.trans ?_ (by assumption)) | (refine Ext.set ?_ (by dsimp only; omega) _)))
  have HV := Lib.hid hV
  obtain ⟨a, b, n, rfl, rfl, e4, e5, e6, e7, e8, e9, e10, e11⟩ := sizeT_of hV
  have hq : outT true (flatT (a : Int) (b : Int) P) = ⟨(a : Int), (b : Int), lst (fun _ => P) n⟩ := by
    show flatT (a : Int) (b : Int) P = _
    unfold flatT
    rw [e11, Int.toNat_natCast]
  rw [hq]
  clear hV hq
  go_enter Try.func22, Try.ntmps22
  go_wp2_with (fail)
  rw [← hW1]
  clear hW1
  obtain ⟨c0, c1, c2, x0, x1, x2⟩ := three_c HZ1.out
  go_wp2_with (first | (go_at_call 52; refine Calls.mono (c_l06Size _ _ _) ?_; rw [HV.out]; rintro e w1 ⟨rfl, rfl⟩) | (go_at_call 53; refine Calls.mono (c_l06Flat e8 e11 e10) ?_; rintro e w2 ⟨v, rfl, g, cap, cs0, rfl, hg0, hcg, hcap, hcs0, hrow, hx2⟩))
  have HG0 := Lib.hid hcg
  have HR0 : Hid (RowF cs0 n (fmix (fun _ => P) (fun _ => fz) 0)) := Lib.hid (hrow.keep (fun j _ => fmix_zero (fun _ => P) (fun _ => fz) j))
  have HZ2 := Lib.hid (hx2.blk (g := w.heap.size) HZ1.out)
  have hg0' : w.heap.size + 1 ≤ g := by rw [← hs1]; exact hg0
  have hs2 := hx2.size
  have hg2 := blk_lt hcg
  clear hcg hrow c0 c1 c2 x0 x1 x2
  go_loopw [9] (fun y wr => ∃ (k : Nat) (cs : Array Value), k ≤ n ∧ y = .int .i64 k ∧ wr.heap[g]? = some (.cells cs 32 (0, 0)) ∧ n ≤ cs.size ∧ RowF cs n (fmix (fun _ => P) (fun _ => fz) k) ∧ wr.heap[w2.heap.size]? = some (.cells #[.int .i64 (a : Int), .int .i64 (b : Int), .slice (some ⟨g, 0, none⟩) n cap] 27 (0, 0)) ∧ wr.heap[w.heap.size]? = some (.cells #[.int .i64 0, .int .i64 0, .slice none 0 0] 27 (0, 0)) ∧ Ext w wr) (fun y _ => n - (intOf y).toNat)
  case atStart => exact ⟨0, cs0, Nat.zero_le _, rfl, (by repeat (first | exact HG0.out | apply al_old | (refine set_other ?_ (by dsimp only; omega)))), hcs0, HR0.out, (by first | exact heap_alloc_new w2 _ | exact blk_set1 (blk_set1 (blk_set1 (heap_alloc_new w2 _) 0 _) 1 _) 2 _), (by repeat (first | exact HZ2.out | apply al_old | (refine set_other ?_ (by dsimp only; omega)))), (by repeat (first | assumption | exact Ext.refl _ | apply Ext.drewN | apply Ext.drew | apply Ext.alloc | (refine Ext.trans ?_ (by assumption)) | (refine Ext.set ?_ (by dsimp only; omega) _)))⟩
  case round =>
    obtain ⟨k, cs, hk, rfl, hg, hs, hrow, hbx, hzz, hx⟩ := hrel
    obtain ⟨d0, d1, d2, y0, y1, y2⟩ := three_c hbx
    have HG := Lib.hid hg
    have HS := Lib.hid hs
    have HX := Lib.hid hrow
    have HB := Lib.hid hbx
    have HZ := Lib.hid hzz
    have hs3 := blk_lt hbx
    clear hg hs hrow hbx hzz
    by_cases hlt : k < n
    · obtain ⟨u0, f0, f1, f2⟩ := HX.out.cell HG.out hlt
      have hlt' : (k : Int) < (n : Int) := by omega
      go_wp2_with (fail)
      exact ⟨⟨k + 1, _, by omega, by go_num, blk_set1 (w := _) HG.out k (.float .f32 p), by rw [Array.size_setIfInBounds]; exact HS.out, HX.out.setX HS.out hlt (by rw [fmix_new]; exact fp) (fun j _ hj => fmix_other hj), set_other (w := _) HB.out (by dsimp only; omega), set_other (w := _) HZ.out (by dsimp only; omega), Ext.set (by repeat (first | assumption | exact Ext.refl _ | apply Ext.drewN | apply Ext.drew | apply Ext.alloc | (refine Ext.trans ?_ (by assumption)) | (refine Ext.set ?_ (by dsimp only; omega) _))) (by dsimp only; omega) _⟩, by simp [intOf]; omega⟩
    · obtain rfl : k = n := by omega
      obtain ⟨c0, c1, c2, x0, x1, x2⟩ := three_c HZ.out
      have HBZ := Lib.hid (fun u0 u1 u2 => blk_set1 (blk_set1 (blk_set1 HZ.out 0 u0) 1 u1) 2 u2)
      go_wp2_with (fail)
      (try simp only [Exit.inBlock, Exit.then])
      refine bodyPost_ret (results_cellT rfl _ _ w.heap.size 27 #[.int .i64 (a : Int), .int .i64 (b : Int), .slice (some ⟨g, 0, none⟩) k cap] (0, 0) _ rfl (HBZ.out _ _ _) Try.underlying27 rfl (by kernel_rfl)) rfl ?_
      exact ⟨_, rfl, by
        refine OwT.more (lo := w.heap.size + 1) (hi := wr.heap.size) ?_ (by omega) (by simp)
        have h0 : OwT wr (w.heap.size + 1) wr.heap.size (.agg #[.int .i64 (a : Int), .int .i64 (b : Int), .slice (some ⟨g, 0, none⟩) k cap]) ⟨(a : Int), (b : Int), lst (fun _ => P) k⟩ := OwT.of ((rowF_lst' (HX.out.keep (fun j hj => fmix_all hj)) HG.out HS.out).more hg0' (Nat.le_refl _)) hcap
        repeat (first | exact h0 | (refine OwT.setOther ?_ (by left; dsimp only; omega) _)), (by repeat (first | assumption | exact Ext.refl _ | apply Ext.drewN | apply Ext.drew | apply Ext.alloc | (refine Ext.trans ?_ (by assumption)) | (refine Ext.set ?_ (by dsimp only; omega) _)))⟩
set_option maxRecDepth 20000 in
set_option maxHeartbeats 4000000 in
theorem c_impl_FlatSection {w : World} {i0 : Int} (hi0 : -9223372036854775808 ≤ i0) (hj0 : i0 ≤ 9223372036854775807) {i1 : Int} (hi1 : -9223372036854775808 ≤ i1) (hj1 : i1 ≤ 9223372036854775807) {p : Nat} {P : Option Nat} (fp : Fl .f32 p P) :
    Calls Try.prog 23 #[.int .i64 i0, .int .i64 i1, .float .f32 p] w fun e w' => RetT w e w' (sizeT i0 i1) (outT (sizeT i0 i1) (flatT i0 i1 P)) := by
  obtain ⟨W1, hW1⟩ : ∃ W1, W1 = w.alloc (.cells #[.int .i64 0, .int .i64 0, .slice none 0 0] 27) := ⟨_, rfl⟩
  have hx1 : Ext w W1 := by rw [hW1]; exact (by repeat (first | assumption | exact Ext.refl _ | apply Ext.drewN | apply Ext.drew | apply Ext.alloc | (refine Ext.trans ?_ (by assumption)) | (refine Ext.set ?_ (by dsimp only; omega) _)))
  have HZ1 : Hid (W1.heap[w.heap.size]? = some (.cells #[.int .i64 0, .int .i64 0, .slice none 0 0] 27 (0, 0))) := Lib.hid (by rw [hW1]; exact heap_alloc_new w _)
  have hs1 : W1.heap.size = w.heap.size + 1 := by rw [hW1, al_size]
  cases hV : sizeT i0 i1
  · go_enter Try.func23, Try.ntmps23
    go_wp2_with (fail)
    rw [← hW1]
    clear hW1
    obtain ⟨c0, c1, c2, x0, x1, x2⟩ := three_c HZ1.out
    go_wp2_with (go_at_call 48; refine Calls.mono (c_isSize _ _ _) ?_; rw [hV]; rintro e w1 ⟨rfl, rfl⟩)
    (try simp only [Exit.inBlock, Exit.then])
    refine bodyPost_ret (results_cellT rfl _ _ w.heap.size 27 #[.int .i64 0, .int .i64 0, .slice none 0 0] (0, 0) _ rfl (by repeat (first | exact HZ1.out | exact blk_set1 (blk_set1 (blk_set1 HZ1.out 0 _) 1 _) 2 _)) Try.underlying27 rfl (by kernel_rfl)) rfl ?_
    exact retT_no rfl (by repeat (first | assumption | exact Ext.refl _ | apply Ext.drewN | apply Ext.drew | apply Ext.alloc | (refine Ext.trans ?_ (by assumption)) | (refine Ext.set ?_ (by dsimp only; omega) _)))
  have HV := Lib.hid hV
  obtain ⟨a, b, n, rfl, rfl, e4, e5, e6, e7, e8, e9, e10, e11⟩ := sizeT_of hV
  have hq : outT true (flatT (a : Int) (b : Int) P) = ⟨(a : Int), (b : Int), lst (fun _ => P) n⟩ := by
    show flatT (a : Int) (b : Int) P = _
    unfold flatT
    rw [e11, Int.toNat_natCast]
  rw [hq]
  have hwn := IntWalk.i64_in (n : Int) (by omega)
  clear hV hq
  go_enter Try.func23, Try.ntmps23
  go_wp2_with (fail)
  rw [← hW1]
  clear hW1
  obtain ⟨c0, c1, c2, x0, x1, x2⟩ := three_c HZ1.out
  go_wp2_with (first | (go_at_call 48; refine Calls.mono (c_isSize _ _ _) ?_; rw [HV.out]; rintro e w1 ⟨rfl, rfl⟩))
  have hnew : (w1.alloc (.cells #[.float .f32 p] 32)).cell? ⟨w.heap.size + 1, 0, none⟩ = some (.float .f32 p) := by rw [← hs1]; exact cell1' (heap_alloc_new w1 _)
  refine Calls.mono (c_Repeat1 (P := P) (by simp; omega) hnew fp e9 e10) ?_
  rintro e w2 ⟨A2, rfl, ho, hx2⟩
  have hxx : Ext w w2 := Ext.trans (by repeat (first | assumption | exact Ext.refl _ | apply Ext.drewN | apply Ext.drew | apply Ext.alloc | (refine Ext.trans ?_ (by assumption)) | (refine Ext.set ?_ (by dsimp only; omega) _))) hx2
  have hz2 := hx2.blk (al_old HZ1.out)
  obtain ⟨c0, c1, c2, x0, x1, x2⟩ := three_c hz2
  have HBZ := Lib.hid (fun u0 u1 u2 => blk_set1 (blk_set1 (blk_set1 hz2 0 u0) 1 u1) 2 u2)
  have hs2 := hx2.size
  simp only [al_size] at hs2
  have HO := Lib.hid ho
  clear hz2 ho
  go_wp2_with (fail)
  (try simp only [Exit.inBlock, Exit.then])
  refine bodyPost_ret (results_cellT rfl _ _ w.heap.size 27 #[.int .i64 (a : Int), .int .i64 (b : Int), .slice A2 n n] (0, 0) _ rfl (HBZ.out _ _ _) Try.underlying27 rfl (by kernel_rfl)) rfl ?_
  exact ⟨_, rfl, by
    refine OwT.more (lo := w1.heap.size + 1) (hi := w2.heap.size) ?_ (by omega) (by simp)
    have h0 : OwT w2 (w1.heap.size + 1) w2.heap.size (.agg #[.int .i64 (a : Int), .int .i64 (b : Int), .slice A2 n n]) ⟨(a : Int), (b : Int), lst (fun _ => P) n⟩ := OwT.of (HO.out.more (by simp) (Nat.le_refl _)) (Nat.le_refl _)
    repeat (first | exact h0 | (refine OwT.setOther ?_ (by left; dsimp only; omega) _)), (by repeat (first | assumption | exact Ext.refl _ | apply Ext.drewN | apply Ext.drew | apply Ext.alloc | (refine Ext.trans ?_ (by assumption)) | (refine Ext.set ?_ (by dsimp only; omega) _)))⟩
theorem flat_len {x z : Int} {P : Option Nat} : (outT (sizeT x z) (flatT x z P)).v.length ≤ 1048576 := by
  cases hV : sizeT x z
  · exact Nat.zero_le _
  · obtain ⟨a, b, n, rfl, rfl, e4, e5, e6, e7, e8, e9, e10, e11⟩ := sizeT_of hV
    show (lst (fun _ => P) ((a : Int) * (b : Int)).toNat).length ≤ _
    rw [e11, Int.toNat_natCast, lst_len]
    omega
theorem both_FlatSection {i0 : Int} (hi0 : -9223372036854775808 ≤ i0) (hj0 : i0 ≤ 9223372036854775807) {i1 : Int} (hi1 : -9223372036854775808 ≤ i1) (hj1 : i1 ≤ 9223372036854775807) {p2 : Nat} {P2 : Option Nat} (fp2 : Fl .f32 p2 P2) :
    ∃ ok Q, Q.v.length ≤ 1048576 ∧ (∀ W : World, Calls Try.prog 22 #[.int .i64 i0, .int .i64 i1, .float .f32 p2] W fun e w' => RetT W e w' ok Q) ∧
      (∀ W : World, Calls Try.prog 23 #[.int .i64 i0, .int .i64 i1, .float .f32 p2] W fun e w' => RetT W e w' ok Q) :=
  ⟨sizeT i0 i1, outT (sizeT i0 i1) (flatT i0 i1 P2), flat_len,
    fun W => c_spec_FlatSection (w := W) hi0 hj0 hi1 hj1 fp2, fun W => c_impl_FlatSection (w := W) hi0 hj0 hi1 hj1 fp2⟩

end Go.Proofs.Ytmhfnchpkeeckaa
