/- Contracts: lists of which each number is taken from elsewhere in a list, on both sides. Condition: the list is read. -/
import Derived.Test.YtceldjkgddbfaaaWc
import Derived.Test.YtceldjkgddbfaaaTn
namespace Go.Proofs.Ytceldjkgddbfaaa
open Go.RowKit Ieee

/-- Where what is moved comes from, what is corrected, what is bent. -/
def fmove (L : List (Option Nat)) (P : Option Nat) (j : Nat) : Option Nat := fbet L (fop .sub .f32 (some (mk j)) P)
def fcorr (L : List (Option Nat)) (P V : Option Nat) (j : Nat) : Option Nat := fbet L (fsq2 (some (mk j)) (fop .quo .f32 P V))
def fbend (L : List (Option Nat)) (P V : Option Nat) (j : Nat) : Option Nat := fbet L (fstraight (some (mk j)) (fsqq P V))
theorem OwL.at1 {w : World} {g hi n : Nat} {L : List (Option Nat)} (h : OwL w g hi (some ⟨g, 0, none⟩) n L) : OwL w g (g + 1) (some ⟨g, 0, none⟩) n L := by
  refine ⟨h.len, ?_⟩
  rcases h.at_ with h0 | ⟨b, off, cs, hA, h1, h2, hrest⟩
  · exact .inl h0
  · have : g = b := by simp only [Option.some.injEq, Addr.mk.injEq] at hA; exact hA.1
    exact .inr ⟨b, off, cs, hA, h1, by omega, hrest⟩


set_option maxRecDepth 20000 in
set_option maxHeartbeats 4000000 in
theorem c_sampled_curve {w : World} {B n c : Nat} {A : Option Addr} {L : List (Option Nat)} (h : RdF w B A n L) (hB : B ≤ w.heap.size) (g1 : 1 ≤ n) (g2 : n ≤ 64) {g q : Nat} {Q : Option Nat} (hg : w.cell? ⟨g, 0, none⟩ = some (.float .f32 q)) (hgl : g < w.heap.size) (fq : Fl .f32 q Q) :
    Calls Try.prog 103 #[.slice A n c, .func (.func 99) #[] #[.pointer (some ⟨g, 0, none⟩)]] w fun e w' => e = .returned (.slice (some ⟨w.heap.size, 0, none⟩) n n) ∧ OwL w' w.heap.size (w.heap.size + 1) (some ⟨w.heap.size, 0, none⟩) n (lst (fun j => fbet L (fsq2 (some (mk j)) Q)) n) ∧ Ext w w' ∧ w.heap.size < w'.heap.size := by
  have hV : klen n = true := by unfold klen; rw [decide_eq_true g1, decide_eq_true g2]; rfl
  have hmk := fun W => run_make_row' (P := Try.prog) 22 35 (.float .f32 0) 4 Try.underlying22 info_f32 rfl .i64 .i64 n (by omega) (by omega) W
  have hs : ∀ (W : World), Ext w W → ∀ (t : Nat) (T : Option Nat), Fl .f32 t T → Calls Try.prog 124 #[.slice A n c, .float .f32 t] W fun e w' => RetX W e w' (fbet L T) true := by
    intro W hx t T ft
    have h0 := c_impl_SampleBetween (w := W) (c := c) (h.below (hx.mono hB)) (by omega) ft
    rw [hV, if_pos rfl] at h0
    exact h0
  have HS := Lib.hid hs
  clear hs
  go_enter Try.func103, Try.ntmps103
  go_wp2_with (fail)
  go_loopw [12] (fun i wr => ∃ (k : Nat) (cs : Array Value), k ≤ n ∧ i = .int .i64 k ∧ wr.heap[w.heap.size]? = some (.cells cs 35 (0, 0)) ∧ cs.size = n ∧ (∀ j, j < k → ∃ r, cs[j]? = some (.float .f32 r) ∧ Fl .f32 r (fbet L (fsq2 (some (mk j)) Q))) ∧ Ext w wr) (fun i _ => n - (intOf i).toNat)
  case atStart => exact ⟨0, _, Nat.zero_le _, rfl, heap_alloc_new w _, size_madeCells _ _, fun j hj => absurd hj (Nat.not_lt_zero _), (by repeat (first | assumption | exact Ext.refl _ | apply Ext.drewN | apply Ext.drew | apply Ext.alloc | (refine Ext.trans ?_ (by assumption)) | (refine Ext.set ?_ (by dsimp only; omega) _)))⟩
  case round =>
    obtain ⟨k, cs, hk, rfl, hgk, hsz, hp, hx⟩ := hrel
    by_cases hlt : k < n
    · have hlt' : (k : Int) < (n : Int) := by omega
      have hcg := (hx.cell (p := ⟨g, 0, none⟩) hgl).trans hg
      obtain ⟨u0, e0, z0⟩ := own_cell hgk hsz hlt
      have hmi := mk_int k
      have HP := Lib.hid hp
      have HG := Lib.hid hgk
      have HZ := Lib.hid hsz
      clear hp hgk hsz
      go_wp2_with (first | (go_at_call 99; refine Calls.mono (c_curve1 hcg fq (fl_mk k)) ?_; rintro e w4 ⟨r4, rfl, hr4, n4, rfl⟩) | (go_at_call 124; refine Calls.mono (HS.out _ (by repeat (first | assumption | exact Ext.refl _ | apply Ext.drewN | apply Ext.drew | apply Ext.alloc | (refine Ext.trans ?_ (by assumption)) | (refine Ext.set ?_ (by dsimp only; omega) _))) _ _ hr4) ?_; rintro e w5 ⟨r5, rfl, hr5, n5, rfl⟩))
      exact ⟨⟨k + 1, _, by omega, by go_num, blk_set1 (w := World.drewN _ _) HG.out k _, by rw [Array.size_setIfInBounds]; exact HZ.out, pre_setF (F := fun j => fbet L (fsq2 (some (mk j)) Q)) (by have := HZ.out; omega) HP.out hr5, (by repeat (first | assumption | exact Ext.refl _ | apply Ext.drewN | apply Ext.drew | apply Ext.alloc | (refine Ext.trans ?_ (by assumption)) | (refine Ext.set ?_ (by dsimp only; omega) _)))⟩, by simp [intOf]; omega⟩
    · obtain rfl : k = n := by omega
      go_wp2_with (fail)
      go_ret
      exact ⟨rfl, (own_lst hgk hsz hp).at1, hx, Nat.lt_of_lt_of_le (blk_lt hgk) (Nat.le_refl _)⟩

set_option maxRecDepth 20000 in
set_option maxHeartbeats 4000000 in
theorem c_sampled_straight {w : World} {B n c : Nat} {A : Option Addr} {L : List (Option Nat)} (h : RdF w B A n L) (hB : B ≤ w.heap.size) (g1 : 1 ≤ n) (g2 : n ≤ 64) {g q : Nat} {Q : Option Nat} (hg : w.cell? ⟨g, 0, none⟩ = some (.float .f32 q)) (hgl : g < w.heap.size) (fq : Fl .f32 q Q) :
    Calls Try.prog 103 #[.slice A n c, .func (.func 105) #[] #[.pointer (some ⟨g, 0, none⟩)]] w fun e w' => e = .returned (.slice (some ⟨w.heap.size, 0, none⟩) n n) ∧ OwL w' w.heap.size (w.heap.size + 1) (some ⟨w.heap.size, 0, none⟩) n (lst (fun j => fbet L (fstraight (some (mk j)) Q)) n) ∧ Ext w w' ∧ w.heap.size < w'.heap.size := by
  have hV : klen n = true := by unfold klen; rw [decide_eq_true g1, decide_eq_true g2]; rfl
  have hmk := fun W => run_make_row' (P := Try.prog) 22 35 (.float .f32 0) 4 Try.underlying22 info_f32 rfl .i64 .i64 n (by omega) (by omega) W
  have hs : ∀ (W : World), Ext w W → ∀ (t : Nat) (T : Option Nat), Fl .f32 t T → Calls Try.prog 124 #[.slice A n c, .float .f32 t] W fun e w' => RetX W e w' (fbet L T) true := by
    intro W hx t T ft
    have h0 := c_impl_SampleBetween (w := W) (c := c) (h.below (hx.mono hB)) (by omega) ft
    rw [hV, if_pos rfl] at h0
    exact h0
  have HS := Lib.hid hs
  clear hs
  go_enter Try.func103, Try.ntmps103
  go_wp2_with (fail)
  go_loopw [12] (fun i wr => ∃ (k : Nat) (cs : Array Value), k ≤ n ∧ i = .int .i64 k ∧ wr.heap[w.heap.size]? = some (.cells cs 35 (0, 0)) ∧ cs.size = n ∧ (∀ j, j < k → ∃ r, cs[j]? = some (.float .f32 r) ∧ Fl .f32 r (fbet L (fstraight (some (mk j)) Q))) ∧ Ext w wr) (fun i _ => n - (intOf i).toNat)
  case atStart => exact ⟨0, _, Nat.zero_le _, rfl, heap_alloc_new w _, size_madeCells _ _, fun j hj => absurd hj (Nat.not_lt_zero _), (by repeat (first | assumption | exact Ext.refl _ | apply Ext.drewN | apply Ext.drew | apply Ext.alloc | (refine Ext.trans ?_ (by assumption)) | (refine Ext.set ?_ (by dsimp only; omega) _)))⟩
  case round =>
    obtain ⟨k, cs, hk, rfl, hgk, hsz, hp, hx⟩ := hrel
    by_cases hlt : k < n
    · have hlt' : (k : Int) < (n : Int) := by omega
      have hcg := (hx.cell (p := ⟨g, 0, none⟩) hgl).trans hg
      obtain ⟨u0, e0, z0⟩ := own_cell hgk hsz hlt
      have hmi := mk_int k
      have HP := Lib.hid hp
      have HG := Lib.hid hgk
      have HZ := Lib.hid hsz
      clear hp hgk hsz
      go_wp2_with (first | (go_at_call 105; refine Calls.mono (c_straight1 hcg fq (fl_mk k)) ?_; rintro e w4 ⟨r4, rfl, hr4, n4, rfl⟩) | (go_at_call 124; refine Calls.mono (HS.out _ (by repeat (first | assumption | exact Ext.refl _ | apply Ext.drewN | apply Ext.drew | apply Ext.alloc | (refine Ext.trans ?_ (by assumption)) | (refine Ext.set ?_ (by dsimp only; omega) _))) _ _ hr4) ?_; rintro e w5 ⟨r5, rfl, hr5, n5, rfl⟩))
      exact ⟨⟨k + 1, _, by omega, by go_num, blk_set1 (w := World.drewN _ _) HG.out k _, by rw [Array.size_setIfInBounds]; exact HZ.out, pre_setF (F := fun j => fbet L (fstraight (some (mk j)) Q)) (by have := HZ.out; omega) HP.out hr5, (by repeat (first | assumption | exact Ext.refl _ | apply Ext.drewN | apply Ext.drew | apply Ext.alloc | (refine Ext.trans ?_ (by assumption)) | (refine Ext.set ?_ (by dsimp only; omega) _)))⟩, by simp [intOf]; omega⟩
    · obtain rfl : k = n := by omega
      go_wp2_with (fail)
      go_ret
      exact ⟨rfl, (own_lst hgk hsz hp).at1, hx, Nat.lt_of_lt_of_le (blk_lt hgk) (Nat.le_refl _)⟩

set_option maxRecDepth 20000 in
set_option maxHeartbeats 4000000 in
theorem c_loop_l04Correct {w : World} {B n c : Nat} {A : Option Addr} {L : List (Option Nat)} (h : RdF w B A n L) (hB : B ≤ w.heap.size) (g1 : 1 ≤ n) (g2 : n ≤ 64) {p v : Nat} {P V : Option Nat} (fp : Fl .f32 p P) (fv : Fl .f32 v V) :
    Calls Try.prog 102 #[.slice A n c, .float .f32 p, .float .f32 v] w fun e w' => ∃ v, e = .returned v ∧ OwF w' w.heap.size v n (fcorr L P V) ∧ Ext w w' := by
  obtain ⟨i0, hi, hz0, hz1, hz2⟩ := info_parts info_f32
  go_enter Try.func102, Try.ntmps102
  go_wp2_with (fail)
  go_loopw [7, 8] (fun v i wr => ∃ (k : Nat) (xs : List Value), k ≤ n ∧ i = .int .i64 k ∧ wr.ownsRow w.heap.size 35 1 v k xs ∧ (∀ j, j < k → ∃ r, xs[j]? = some (.float .f32 r) ∧ Fl .f32 r (fcorr L P V j)) ∧ Ext w wr) (fun _ i _ => n - (intOf i).toNat)
  case atStart => exact ⟨0, [], Nat.zero_le _, rfl, World.ownsRow_made _ _ 0 (Nat.le_refl _) (Nat.zero_le _) rfl, fun j hj => absurd hj (Nat.not_lt_zero _), (by repeat (first | assumption | exact Ext.refl _ | apply Ext.drewN | apply Ext.drew | apply Ext.alloc | (refine Ext.trans ?_ (by assumption)) | (refine Ext.set ?_ (by dsimp only; omega) _)))⟩
  case round =>
    obtain ⟨k, xs, hk, rfl, hown, hxs, hx⟩ := hrel
    have HX := Lib.hid hxs
    clear hxs
    by_cases hlt : k < n
    · have hlt' : (k : Int) < (n : Int) := by omega
      have hmi := mk_int k
      have hrd := fun (W : World) (hW : Ext w W) => h.below (hW.mono hB)
      have HRD := Lib.hid hrd
      clear hrd
      go_wp2_with (first | (go_at_call 68; refine Calls.mono (c_l04Curve (fl_mk k) fp fv _) ?_; rintro e w4 ⟨r4, rfl, hr4, n4, rfl⟩) | (go_at_call 123; refine Calls.mono (c_l04At (HRD.out _ (by repeat (first | assumption | exact Ext.refl _ | apply Ext.drewN | apply Ext.drew | apply Ext.alloc | (refine Ext.trans ?_ (by assumption)) | (refine Ext.set ?_ (by dsimp only; omega) _)))) g1 g2 hr4) ?_; rintro e w5 ⟨r5, rfl, hr5, n5, rfl⟩) | (at_builtin; refine wpList_append_own _ rfl _ _ 22 rfl w.heap.size 35 i0 (.float .f32 0) 1 4 Try.underlying22 hi hz0 hz1 hz2 rfl (by decide) _ _ _ rfl (World.ownsRow.alloc (w := wr.drewN _) hown _) ⟨wr.heap.size, 0, none⟩ 1 1 [.float .f32 r5] rfl rfl ?_ ?_ ?_ ?_ ?_ ?_))
      all_goals first
        | exact one_new (w := wr.drewN _)
        | (intro u hu; simp at hu; subst hu; rfl)
        | (unfold maxLen; omega)
        | omega
        | (have := hx.size; simp; omega)
        | (intro v' w4 hown' hgrow _
           have hl' : xs.length = k := by have := hown.1; omega
           have hx' : Ext w w4 := grown_ext (Ext.alloc (Ext.drewN hx _) _) (World.ownsRow.alloc (w := wr.drewN _) hown _) hgrow
           have HXX := Lib.hid (row_step hl' HX.out hr5)
           clear hown hgrow hx
           go_wp2_with (fail)
           exact ⟨⟨k + 1, _, by omega, by go_num, hown', HXX.out, hx'⟩, by simp [intOf]; omega⟩)
    · obtain rfl : k = n := by omega
      go_wp2_with (fail)
      go_ret
      exact ⟨_, rfl, ⟨xs, hown, HX.out⟩, hx⟩

set_option maxRecDepth 20000 in
set_option maxHeartbeats 4000000 in
theorem c_loop_l04Bend {w : World} {B n c : Nat} {A : Option Addr} {L : List (Option Nat)} (h : RdF w B A n L) (hB : B ≤ w.heap.size) (g1 : 1 ≤ n) (g2 : n ≤ 64) {p v : Nat} {P V : Option Nat} (fp : Fl .f32 p P) (fv : Fl .f32 v V) :
    Calls Try.prog 101 #[.slice A n c, .float .f32 p, .float .f32 v] w fun e w' => ∃ v, e = .returned v ∧ OwF w' w.heap.size v n (fbend L P V) ∧ Ext w w' := by
  obtain ⟨i0, hi, hz0, hz1, hz2⟩ := info_parts info_f32
  go_enter Try.func101, Try.ntmps101
  go_wp2_with (apply upon_fop rfl; (exact fp); (exact fv); intro rx nx hrx)
  go_loopw [8, 9] (fun v i wr => ∃ (k : Nat) (xs : List Value), k ≤ n ∧ i = .int .i64 k ∧ wr.ownsRow w.heap.size 35 1 v k xs ∧ (∀ j, j < k → ∃ r, xs[j]? = some (.float .f32 r) ∧ Fl .f32 r (fbend L P V j)) ∧ Ext w wr) (fun _ i _ => n - (intOf i).toNat)
  case atStart => exact ⟨0, [], Nat.zero_le _, rfl, World.ownsRow_made _ _ 0 (Nat.le_refl _) (Nat.zero_le _) rfl, fun j hj => absurd hj (Nat.not_lt_zero _), (by repeat (first | assumption | exact Ext.refl _ | apply Ext.drewN | apply Ext.drew | apply Ext.alloc | (refine Ext.trans ?_ (by assumption)) | (refine Ext.set ?_ (by dsimp only; omega) _)))⟩
  case round =>
    obtain ⟨k, xs, hk, rfl, hown, hxs, hx⟩ := hrel
    have HX := Lib.hid hxs
    clear hxs
    by_cases hlt : k < n
    · have hlt' : (k : Int) < (n : Int) := by omega
      have hmi := mk_int k
      have hrd := fun (W : World) (hW : Ext w W) => h.below (hW.mono hB)
      have HRD := Lib.hid hrd
      clear hrd
      cases hN : lt0 (fop .sub .f32 (fop .mul .f32 (some (mk k)) (some (mk k))) (fop .mul .f32 (fop .quo .f32 P V) (fop .quo .f32 P V)))
      · have HN := Lib.hid hN
        clear hN
        go_wp2_with (first | (apply upon_fop rfl; (exact (fl_mk k)); (exact (fl_mk k)); intro r6 n6 hr6) | (apply upon_fop rfl; (exact hrx); (exact hrx); intro r7 n7 hr7) | (apply upon_fop rfl; (exact hr6); (exact hr7); intro r8 n8 hr8; have hlt0 := hr8.olt0; rw [HN.out] at hlt0) | (go_at_call 97; refine Calls.mono (c_l01Sqrt hr8 _) ?_; rintro e w4 ⟨r4, rfl, hr4, n4, rfl⟩) | (go_at_call 123; refine Calls.mono (c_l04At (HRD.out _ (by repeat (first | assumption | exact Ext.refl _ | apply Ext.drewN | apply Ext.drew | apply Ext.alloc | (refine Ext.trans ?_ (by assumption)) | (refine Ext.set ?_ (by dsimp only; omega) _)))) g1 g2 hr4) ?_; rintro e w5 ⟨r5, rfl, hr5, n5, rfl⟩) | (at_builtin; refine wpList_append_own _ rfl _ _ 22 rfl w.heap.size 35 i0 (.float .f32 0) 1 4 Try.underlying22 hi hz0 hz1 hz2 rfl (by decide) _ _ _ rfl (World.ownsRow.alloc (w := wr.drewN _) hown _) ⟨wr.heap.size, 0, none⟩ 1 1 [.float .f32 r5] rfl rfl ?_ ?_ ?_ ?_ ?_ ?_))
        all_goals first
          | exact one_new (w := wr.drewN _)
          | (intro u hu; simp at hu; subst hu; rfl)
          | (unfold maxLen; omega)
          | omega
          | (have := hx.size; simp; omega)
          | (intro v' w4 hown' hgrow _
             have hl' : xs.length = k := by have := hown.1; omega
             have hx' : Ext w w4 := grown_ext (Ext.alloc (Ext.drewN hx _) _) (World.ownsRow.alloc (w := wr.drewN _) hown _) hgrow
             have HXX := Lib.hid (row_step hl' HX.out hr5)
             clear hown hgrow hx
             go_wp2_with (fail)
             exact ⟨⟨k + 1, _, by omega, by go_num, hown', HXX.out, hx'⟩, by simp [intOf]; omega⟩)
      · have hst := fun (q : Nat) (hq : Fl .f32 q (fop .sub .f32 (fop .mul .f32 (some (mk k)) (some (mk k))) (fop .mul .f32 (fop .quo .f32 P V) (fop .quo .f32 P V)))) => fbet_straight (L := L) hq hN
        have HST := Lib.hid hst
        have HN := Lib.hid hN
        clear hN hst
        go_wp2_with (first | (apply upon_fop rfl; (exact (fl_mk k)); (exact (fl_mk k)); intro r6 n6 hr6) | (apply upon_fop rfl; (exact hrx); (exact hrx); intro r7 n7 hr7) | (apply upon_fop rfl; (exact hr6); (exact hr7); intro r8 n8 hr8; have hlt0 := hr8.olt0; rw [HN.out] at hlt0; have hb5 : Fl .f32 0 (fbend L P V k) := (by rw [show fbend L P V k = fz from HST.out _ hr8]; exact fl_fz)) | (at_builtin; refine wpList_append_own _ rfl _ _ 22 rfl w.heap.size 35 i0 (.float .f32 0) 1 4 Try.underlying22 hi hz0 hz1 hz2 rfl (by decide) _ _ _ rfl (World.ownsRow.alloc (w := wr.drewN _) hown _) ⟨wr.heap.size, 0, none⟩ 1 1 [.float .f32 0] rfl rfl ?_ ?_ ?_ ?_ ?_ ?_))
        all_goals first
          | exact one_new (w := wr.drewN _)
          | (intro u hu; simp at hu; subst hu; rfl)
          | (unfold maxLen; omega)
          | omega
          | (have := hx.size; simp; omega)
          | (intro v' w4 hown' hgrow _
             have hl' : xs.length = k := by have := hown.1; omega
             have hx' : Ext w w4 := grown_ext (Ext.alloc (Ext.drewN hx _) _) (World.ownsRow.alloc (w := wr.drewN _) hown _) hgrow
             have HXX := Lib.hid (row_step hl' HX.out hb5)
             clear hown hgrow hx
             go_wp2_with (fail)
             exact ⟨⟨k + 1, _, by omega, by go_num, hown', HXX.out, hx'⟩, by simp [intOf]; omega⟩)
    · obtain rfl : k = n := by omega
      go_wp2_with (fail)
      go_ret
      exact ⟨_, rfl, ⟨xs, hown, HX.out⟩, hx⟩







end Go.Proofs.Ytceldjkgddbfaaa
