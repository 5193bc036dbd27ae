/- Contract: slices.Repeat of one float. Condition: the count is from 1 to 256. -/
import Derived.Test.YtmhfnchpkeeckaaTf
import Derived.Test.YtmhfnchpkeeckaaLo3
import Derived.Laws.CopyOwn
namespace Go.Proofs.Ytmhfnchpkeeckaa
open Go.RowKit Go.ChangeShapes Go.WideShapes Go.Deep Ieee
set_option linter.unusedVariables false
set_option linter.unusedSimpArgs false

set_option maxRecDepth 20000 in
set_option maxHeartbeats 1000000 in
theorem c_Mul64 {n : Nat} (hn : n ≤ 256) (w : World) : Calls Try.prog 100 #[.int .u64 1, .int .u64 (n : Int)] w fun e w' => e = .returned (.tuple #[.int .u64 0, .int .u64 (n : Int)]) ∧ w' = w := by
  have hb1 : bits .and .u64 1 4294967295 = 1 := by decide +kernel
  have hb0 : bits .and .u64 0 4294967295 = 0 := by decide +kernel
  have hbn : bits .and .u64 (n : Int) 4294967295 = (n : Int) := by
    have h := Go.u64_and_nat n 4294967295 (by omega) (by omega)
    have e : n &&& 4294967295 = n := by rw [show (4294967295 : Nat) = 2 ^ 32 - 1 by decide, Nat.and_two_pow_sub_one_eq_mod]; omega
    rw [e] at h
    exact h
  have hdn : (n : Int) / 4294967296 = 0 := by omega
  have hwn : IntKind.u64.wrap (n : Int) = (n : Int) := by rw [IntKind.wrap_u64]; omega
  go_enter Try.func100, Try.ntmps100
  go_wp2_with (fail)
  go_ret2
  exact ⟨rfl, rfl⟩
set_option maxRecDepth 20000 in
set_option maxHeartbeats 1000000 in
theorem c_Mul {n : Nat} (hn : n ≤ 256) (w : World) : Calls Try.prog 85 #[.int .u64 1, .int .u64 (n : Int)] w fun e w' => e = .returned (.tuple #[.int .u64 0, .int .u64 (n : Int)]) ∧ w' = w := by
  go_enter Try.func85, Try.ntmps85
  go_wp2_with (go_at_call 100; refine Calls.mono (c_Mul64 hn _) ?_; rintro e w1 ⟨rfl, rfl⟩)
  go_ret2
  exact ⟨rfl, rfl⟩
set_option maxRecDepth 20000 in
set_option maxHeartbeats 4000000 in
theorem c_Repeat1 {w : World} {b off c n p : Nat} {P : Option Nat} (hb : b < w.heap.size) (hc : w.cell? ⟨b, off, none⟩ = some (.float .f32 p)) (fp : Fl .f32 p P) (hn1 : 1 ≤ n) (hn : n ≤ 256) :
    Calls Try.prog 54 #[.slice (some ⟨b, off, none⟩) 1 c, .int .i64 (n : Int)] w fun e w' => ∃ A2, e = .returned (.slice A2 n n) ∧ OwL w' w.heap.size w'.heap.size A2 n (lst (fun _ => P) n) ∧ Ext w w' := by
  have hmk := fun W => run_make_row' (P := Try.prog) 22 32 (.float .f32 0) 4 Try.underlying22 info_f32 rfl .i64 .i64 n (by omega) (by omega) W
  have hwn : IntKind.u64.wrap (n : Int) = (n : Int) := by rw [IntKind.wrap_u64]; omega
  have hwi := IntWalk.i64_in (n : Int) (by omega)
  go_enter Try.func54, Try.ntmps54
  go_wp2_with (go_at_call 85; refine Calls.mono (c_Mul hn _) ?_; rintro e w1 ⟨rfl, rfl⟩)
  have hrun := run_copy_row (P := Try.prog) (w1.alloc (.cells (madeCells #[.float .f32 0] n) 32)) 22 22 3 32 w1.heap.size 0 n n ⟨b, off, none⟩ 1 c (madeCells #[.float .f32 0] n) 32 [.float .f32 p] Try.underlying22 (by kernel_rfl) (heap_alloc_new w1 _) (Nat.min_eq_left hn1).symm
    (by intro j u hj; match j, hj with
        | 0, hj => simp at hj; subst hj; simpa [Addr.add] using ((Ext.alloc (Ext.refl w1) _).cell (p := ⟨b, off, none⟩) hb).trans hc) (by simp [size_madeCells]; omega) (by intro u hu; simp at hu; subst hu; rfl)
  rw [hrun]
  obtain ⟨row0, hrow0⟩ : ∃ row0, (List.take 0 (madeCells #[Value.float .f32 0] n).toList ++ [Value.float .f32 p] ++ List.drop (0 + [Value.float .f32 p].length) (madeCells #[Value.float .f32 0] n).toList).toArray = row0 := ⟨_, rfl⟩
  have hr0 : row0[0]? = some (.float .f32 p) := by rw [← hrow0]; simp
  have hrs : row0.size = n := by rw [← hrow0]; simp [size_madeCells]; omega
  rw [hrow0]
  obtain ⟨W2, hW2⟩ : ∃ W2, W2 = (w1.alloc (.cells (madeCells #[.float .f32 0] n) 32)).setRow w1.heap.size row0 := ⟨_, rfl⟩
  have hg2 : W2.heap[w1.heap.size]? = some (.cells row0 32 (0, 0)) := by rw [hW2]; exact setRow_heap _ _ _ _ _ _ (heap_alloc_new w1 _)
  have hx2 : Ext w1 W2 := by rw [hW2]; exact below_setRow (Ext.alloc (Ext.refl w1) _) (Nat.le_refl _) _
  rw [← hW2]
  have HG2 := Lib.hid hg2
  have HR0 := Lib.hid hr0
  have HRS := Lib.hid hrs
  clear hW2 hrow0 hrun hg2 hr0 hrs
  go_wp2_with (fail)
  go_loopw [8] (fun y wr => ∃ (k : Nat) (cs : Array Value), 1 ≤ k ∧ k ≤ n ∧ y = .int .i64 k ∧ wr.heap[w1.heap.size]? = some (.cells cs 32 (0, 0)) ∧ cs.size = n ∧ (∀ j, j < k → cs[j]? = some (.float .f32 p)) ∧ Ext w1 wr) (fun y _ => n - (intOf y).toNat)
  case atStart => exact ⟨1, row0, Nat.le_refl _, hn1, rfl, HG2.out, HRS.out, fun j hj => (by have h0 : j = 0 := Nat.lt_one_iff.mp hj; rw [h0]; exact HR0.out), hx2⟩
  case round =>
    obtain ⟨k, cs, hk1, hk, rfl, hg, hs, hcs, hx⟩ := hrel
    have HG := Lib.hid hg
    have HS := Lib.hid hs
    have HC := Lib.hid hcs
    clear hg hs hcs
    by_cases hlt : k < n
    · have hlt' : (k : Int) < (n : Int) := by omega
      obtain ⟨ct, hct⟩ : ∃ ct, n - k = ct := ⟨_, rfl⟩
      have hcap : ¬ n = k := by omega
      have hkn0 : (0 : Int) ≤ (k : Int) := by omega
      have hkn1 : (k : Int) ≤ (n : Int) := by omega
      go_wp2_with (fail)
      refine wp_region_loose1 (v := ?v0_1) 6 (by kernel_rfl) (by kernel_rfl) (fun _ _ _ h => h) (Or.inl ⟨by rfl, ?hy0_1⟩) ?rest0_1
      case hy0_1 => intro w; go_simp; first | done | with_reducible rfl
      try simp only [Act.put, List.setIfInBounds_toArray, List.set_cons_zero, List.set_cons_succ]
      simp only [List.take_succ_cons, List.take_zero, List.drop_succ_cons, List.drop_zero]
      refine la_start ?_
      refine la_fix _ (by rfl) (by intros; go_simp; rfl) ?_
      try simp only [Act.put, List.setIfInBounds_toArray, List.set_cons_zero, List.set_cons_succ]
      refine la_fix _ (by rfl) (by intros; go_simp; rfl) ?_
      try simp only [Act.put, List.setIfInBounds_toArray, List.set_cons_zero, List.set_cons_succ]
      refine la_fix _ (by rfl) (by intros; go_simp; rfl) ?_
      try simp only [Act.put, List.setIfInBounds_toArray, List.set_cons_zero, List.set_cons_succ]
      refine la_fix _ (by rfl) (by intros; go_simp; rfl) ?_
      try simp only [Act.put, List.setIfInBounds_toArray, List.set_cons_zero, List.set_cons_succ]
      refine la_fix _ (by rfl) (by intros; go_simp; rfl) ?_
      try simp only [Act.put, List.setIfInBounds_toArray, List.set_cons_zero, List.set_cons_succ]
      refine la_fix _ (by rfl) (by intros; go_simp; rfl) ?_
      try simp only [Act.put, List.setIfInBounds_toArray, List.set_cons_zero, List.set_cons_succ]
      refine la_end ?_
      intro q
      go_wp2_with (fail)
      obtain ⟨m, hm⟩ : ∃ m, Nat.min k ct = m := ⟨_, rfl⟩
      have hmk2 : m ≤ k := by rw [← hm]; exact Nat.min_le_left _ _
      have hmc : m ≤ ct := by rw [← hm]; exact Nat.min_le_right _ _
      have hm1 : 1 ≤ m := by rw [← hm]; exact Nat.le_min.2 ⟨hk1, by omega⟩
      have hrun2 := run_copy_row (P := Try.prog) (wr.drewN q) 22 22 3 32 w1.heap.size k ct ct ⟨w1.heap.size, 0, none⟩ k n cs 32 (List.replicate m (.float .f32 p)) Try.underlying22 (by kernel_rfl) HG.out (by rw [List.length_replicate]; exact hm.symm)
        (by intro j u hj
            have hjm : j < m := by
              rcases Nat.lt_or_ge j m with h1 | h1
              · exact h1
              · rw [List.getElem?_eq_none (by simp; omega)] at hj; cases hj
            rw [List.getElem?_replicate, if_pos hjm] at hj
            cases hj
            have e0 : (⟨w1.heap.size, 0, none⟩ : Addr).add j = ⟨w1.heap.size, j, none⟩ := by simp [Addr.add]; exact Eq.symm
            rw [e0, cell_of_row (wr.drewN q) w1.heap.size j cs _ (0, 0) HG.out]
            exact HC.out j (by omega)) (by rw [List.length_replicate, HS.out]; omega) (by intro u hu; obtain rfl := List.eq_of_mem_replicate hu; rfl)
      rw [hrun2, List.length_replicate]
      obtain ⟨row, hrow⟩ : ∃ row, (List.take k cs.toList ++ List.replicate m (Value.float .f32 p) ++ List.drop (k + m) cs.toList).toArray = row := ⟨_, rfl⟩
      have hrl : row.size = n := by rw [← hrow]; simp [HS.out]; omega
      have hrc : ∀ j, j < k + m → row[j]? = some (.float .f32 p) := by
        intro j hj
        rw [← hrow]
        by_cases hjk : j < k
        · rw [List.getElem?_toArray, List.append_assoc, List.getElem?_append_left (by simp [HS.out]; omega), List.getElem?_take_of_lt hjk]
          simpa using HC.out j hjk
        · rw [List.getElem?_toArray, List.append_assoc, List.getElem?_append_right (by simp [HS.out]; omega), List.getElem?_append_left (by simp [HS.out]; omega), List.getElem?_replicate, if_pos (by simp [HS.out]; omega)]
      rw [hrow]
      obtain ⟨W3, hW3⟩ : ∃ W3, W3 = (wr.drewN q).setRow w1.heap.size row := ⟨_, rfl⟩
      have hg3 : W3.heap[w1.heap.size]? = some (.cells row 32 (0, 0)) := by rw [hW3]; exact setRow_heap _ _ _ _ _ _ HG.out
      have hx3 : Ext w1 W3 := by rw [hW3]; exact below_setRow (Ext.drewN hx q) (Nat.le_refl _) _
      rw [← hW3]
      have HG3 := Lib.hid hg3
      have HR3 := Lib.hid hrl
      have HC3 := Lib.hid hrc
      have hwkm : IntKind.i64.wrap ((k : Int) + (m : Int)) = ((k + m : Nat) : Int) := by rw [IntWalk.i64_in _ (by omega)]; omega
      have hgi : goInt m = .int .i64 (m : Int) := rfl
      rw [hgi]
      clear hW3 hrow hrun2 hg3 hrl hrc hm hgi
      go_wp2_with (fail)
      exact ⟨⟨k + m, row, by omega, by omega, by go_num, HG3.out, HR3.out, HC3.out, hx3⟩, by simp [intOf]; omega⟩
    · obtain rfl : k = n := by omega
      have hol := own_lst (F := fun _ => P) HG.out HS.out (fun j hj => ⟨p, HC.out j hj, fp⟩)
      go_wp2_with (fail)
      go_ret
      exact ⟨_, rfl, hol, hx⟩
end Go.Proofs.Ytmhfnchpkeeckaa
