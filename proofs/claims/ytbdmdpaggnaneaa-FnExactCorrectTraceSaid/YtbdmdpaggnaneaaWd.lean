/- Contracts: lists of which each number is taken from elsewhere in a list, on both sides. Condition: the list is read. -/
import Derived.Test.YtbdmdpaggnaneaaWc
import Derived.Test.YtbdmdpaggnaneaaTn
namespace Go.Proofs.Ytbdmdpaggnaneaa
open Go.RowKit Ieee

/-- Where what is moved comes from, what is corrected, what is bent. -/
def fmove (L : List (Option Nat)) (P : Option Nat) (j : Nat) : Option Nat := fbet L (fop .sub .f32 (some (mk j)) P)
def fcorr (L : List (Option Nat)) (P V : Option Nat) (j : Nat) : Option Nat := fbet L (fsq2 (some (mk j)) (fop .quo .f32 P V))
def fbend (L : List (Option Nat)) (P V : Option Nat) (j : Nat) : Option Nat := fbet L (fstraight (some (mk j)) (fsqq P V))
theorem OwL.at1 {w : World} {g hi n : Nat} {L : List (Option Nat)} (h : OwL w g hi (some ⟨g, 0, none⟩) n L) : OwL w g (g + 1) (some ⟨g, 0, none⟩) n L := by
  refine ⟨h.len, ?_⟩
  rcases h.at_ with h0 | ⟨b, off, cs, hA, h1, h2, hrest⟩
  · exact .inl h0
  · have : g = b := by simp only [Option.some.injEq, Addr.mk.injEq] at hA; exact hA.1
    exact .inr ⟨b, off, cs, hA, h1, by omega, hrest⟩

set_option maxRecDepth 20000 in
set_option maxHeartbeats 4000000 in
theorem c_sampled_move {w : World} {B n c : Nat} {A : Option Addr} {L : List (Option Nat)} (h : RdF w B A n L) (hB : B ≤ w.heap.size) (g1 : 1 ≤ n) (g2 : n ≤ 64) {g q : Nat} {Q : Option Nat} (hg : w.cell? ⟨g, 0, none⟩ = some (.float .f32 q)) (hgl : g < w.heap.size) (fq : Fl .f32 q Q) :
    Calls Try.prog 55 #[.slice A n c, .func (.func 56) #[] #[.pointer (some ⟨g, 0, none⟩)]] w fun e w' => e = .returned (.slice (some ⟨w.heap.size, 0, none⟩) n n) ∧ OwL w' w.heap.size (w.heap.size + 1) (some ⟨w.heap.size, 0, none⟩) n (lst (fun j => fbet L (fop .sub .f32 (some (mk j)) Q)) n) ∧ Ext w w' ∧ w.heap.size < w'.heap.size := by
  have hV : klen n = true := by unfold klen; rw [decide_eq_true g1, decide_eq_true g2]; rfl
  have hmk := fun W => run_make_row' (P := Try.prog) 22 23 (.float .f32 0) 4 Try.underlying22 info_f32 rfl .i64 .i64 n (by omega) (by omega) W
  have hs : ∀ (W : World), Ext w W → ∀ (t : Nat) (T : Option Nat), Fl .f32 t T → Calls Try.prog 17 #[.slice A n c, .float .f32 t] W fun e w' => RetX W e w' (fbet L T) true := by
    intro W hx t T ft
    have h0 := c_impl_SampleBetween (w := W) (c := c) (h.below (hx.mono hB)) (by omega) ft
    rw [hV, if_pos rfl] at h0
    exact h0
  have HS := Lib.hid hs
  clear hs
  go_enter Try.func55, Try.ntmps55
  go_wp2_with (fail)
  go_loopw [12] (fun i wr => ∃ (k : Nat) (cs : Array Value), k ≤ n ∧ i = .int .i64 k ∧ wr.heap[w.heap.size]? = some (.cells cs 23 (0, 0)) ∧ cs.size = n ∧ (∀ j, j < k → ∃ r, cs[j]? = some (.float .f32 r) ∧ Fl .f32 r (fbet L (fop .sub .f32 (some (mk j)) Q))) ∧ Ext w wr) (fun i _ => n - (intOf i).toNat)
  case atStart => exact ⟨0, _, Nat.zero_le _, rfl, heap_alloc_new w _, size_madeCells _ _, fun j hj => absurd hj (Nat.not_lt_zero _), (by repeat (first | assumption | exact Ext.refl _ | apply Ext.drewN | apply Ext.drew | apply Ext.alloc | (refine Ext.trans ?_ (by assumption)) | (refine Ext.set ?_ (by dsimp only; omega) _)))⟩
  case round =>
    obtain ⟨k, cs, hk, rfl, hgk, hsz, hp, hx⟩ := hrel
    by_cases hlt : k < n
    · have hlt' : (k : Int) < (n : Int) := by omega
      have hcg := (hx.cell (p := ⟨g, 0, none⟩) hgl).trans hg
      obtain ⟨u0, e0, z0⟩ := own_cell hgk hsz hlt
      have hmi := mk_int k
      have HP := Lib.hid hp
      have HG := Lib.hid hgk
      have HZ := Lib.hid hsz
      clear hp hgk hsz
      go_wp2_with (first | (go_at_call 56; refine Calls.mono (c_move1 hcg fq (fl_mk k)) ?_; rintro e w4 ⟨r4, rfl, hr4, n4, rfl⟩) | (go_at_call 17; refine Calls.mono (HS.out _ (by repeat (first | assumption | exact Ext.refl _ | apply Ext.drewN | apply Ext.drew | apply Ext.alloc | (refine Ext.trans ?_ (by assumption)) | (refine Ext.set ?_ (by dsimp only; omega) _))) _ _ hr4) ?_; rintro e w5 ⟨r5, rfl, hr5, n5, rfl⟩))
      exact ⟨⟨k + 1, _, by omega, by go_num, blk_set1 (w := World.drewN _ _) HG.out k _, by rw [Array.size_setIfInBounds]; exact HZ.out, pre_setF (F := fun j => fbet L (fop .sub .f32 (some (mk j)) Q)) (by have := HZ.out; omega) HP.out hr5, (by repeat (first | assumption | exact Ext.refl _ | apply Ext.drewN | apply Ext.drew | apply Ext.alloc | (refine Ext.trans ?_ (by assumption)) | (refine Ext.set ?_ (by dsimp only; omega) _)))⟩, by simp [intOf]; omega⟩
    · obtain rfl : k = n := by omega
      go_wp2_with (fail)
      go_ret
      exact ⟨rfl, (own_lst hgk hsz hp).at1, hx, Nat.lt_of_lt_of_le (blk_lt hgk) (Nat.le_refl _)⟩

set_option maxRecDepth 20000 in
set_option maxHeartbeats 4000000 in
theorem c_sampled_curve {w : World} {B n c : Nat} {A : Option Addr} {L : List (Option Nat)} (h : RdF w B A n L) (hB : B ≤ w.heap.size) (g1 : 1 ≤ n) (g2 : n ≤ 64) {g q : Nat} {Q : Option Nat} (hg : w.cell? ⟨g, 0, none⟩ = some (.float .f32 q)) (hgl : g < w.heap.size) (fq : Fl .f32 q Q) :
    Calls Try.prog 55 #[.slice A n c, .func (.func 94) #[] #[.pointer (some ⟨g, 0, none⟩)]] w fun e w' => e = .returned (.slice (some ⟨w.heap.size, 0, none⟩) n n) ∧ OwL w' w.heap.size (w.heap.size + 1) (some ⟨w.heap.size, 0, none⟩) n (lst (fun j => fbet L (fsq2 (some (mk j)) Q)) n) ∧ Ext w w' ∧ w.heap.size < w'.heap.size := by
  have hV : klen n = true := by unfold klen; rw [decide_eq_true g1, decide_eq_true g2]; rfl
  have hmk := fun W => run_make_row' (P := Try.prog) 22 23 (.float .f32 0) 4 Try.underlying22 info_f32 rfl .i64 .i64 n (by omega) (by omega) W
  have hs : ∀ (W : World), Ext w W → ∀ (t : Nat) (T : Option Nat), Fl .f32 t T → Calls Try.prog 17 #[.slice A n c, .float .f32 t] W fun e w' => RetX W e w' (fbet L T) true := by
    intro W hx t T ft
    have h0 := c_impl_SampleBetween (w := W) (c := c) (h.below (hx.mono hB)) (by omega) ft
    rw [hV, if_pos rfl] at h0
    exact h0
  have HS := Lib.hid hs
  clear hs
  go_enter Try.func55, Try.ntmps55
  go_wp2_with (fail)
  go_loopw [12] (fun i wr => ∃ (k : Nat) (cs : Array Value), k ≤ n ∧ i = .int .i64 k ∧ wr.heap[w.heap.size]? = some (.cells cs 23 (0, 0)) ∧ cs.size = n ∧ (∀ j, j < k → ∃ r, cs[j]? = some (.float .f32 r) ∧ Fl .f32 r (fbet L (fsq2 (some (mk j)) Q))) ∧ Ext w wr) (fun i _ => n - (intOf i).toNat)
  case atStart => exact ⟨0, _, Nat.zero_le _, rfl, heap_alloc_new w _, size_madeCells _ _, fun j hj => absurd hj (Nat.not_lt_zero _), (by repeat (first | assumption | exact Ext.refl _ | apply Ext.drewN | apply Ext.drew | apply Ext.alloc | (refine Ext.trans ?_ (by assumption)) | (refine Ext.set ?_ (by dsimp only; omega) _)))⟩
  case round =>
    obtain ⟨k, cs, hk, rfl, hgk, hsz, hp, hx⟩ := hrel
    by_cases hlt : k < n
    · have hlt' : (k : Int) < (n : Int) := by omega
      have hcg := (hx.cell (p := ⟨g, 0, none⟩) hgl).trans hg
      obtain ⟨u0, e0, z0⟩ := own_cell hgk hsz hlt
      have hmi := mk_int k
      have HP := Lib.hid hp
      have HG := Lib.hid hgk
      have HZ := Lib.hid hsz
      clear hp hgk hsz
      go_wp2_with (first | (go_at_call 94; refine Calls.mono (c_curve1 hcg fq (fl_mk k)) ?_; rintro e w4 ⟨r4, rfl, hr4, n4, rfl⟩) | (go_at_call 17; refine Calls.mono (HS.out _ (by repeat (first | assumption | exact Ext.refl _ | apply Ext.drewN | apply Ext.drew | apply Ext.alloc | (refine Ext.trans ?_ (by assumption)) | (refine Ext.set ?_ (by dsimp only; omega) _))) _ _ hr4) ?_; rintro e w5 ⟨r5, rfl, hr5, n5, rfl⟩))
      exact ⟨⟨k + 1, _, by omega, by go_num, blk_set1 (w := World.drewN _ _) HG.out k _, by rw [Array.size_setIfInBounds]; exact HZ.out, pre_setF (F := fun j => fbet L (fsq2 (some (mk j)) Q)) (by have := HZ.out; omega) HP.out hr5, (by repeat (first | assumption | exact Ext.refl _ | apply Ext.drewN | apply Ext.drew | apply Ext.alloc | (refine Ext.trans ?_ (by assumption)) | (refine Ext.set ?_ (by dsimp only; omega) _)))⟩, by simp [intOf]; omega⟩
    · obtain rfl : k = n := by omega
      go_wp2_with (fail)
      go_ret
      exact ⟨rfl, (own_lst hgk hsz hp).at1, hx, Nat.lt_of_lt_of_le (blk_lt hgk) (Nat.le_refl _)⟩

set_option maxRecDepth 20000 in
set_option maxHeartbeats 4000000 in
theorem c_sampled_straight {w : World} {B n c : Nat} {A : Option Addr} {L : List (Option Nat)} (h : RdF w B A n L) (hB : B ≤ w.heap.size) (g1 : 1 ≤ n) (g2 : n ≤ 64) {g q : Nat} {Q : Option Nat} (hg : w.cell? ⟨g, 0, none⟩ = some (.float .f32 q)) (hgl : g < w.heap.size) (fq : Fl .f32 q Q) :
    Calls Try.prog 55 #[.slice A n c, .func (.func 97) #[] #[.pointer (some ⟨g, 0, none⟩)]] w fun e w' => e = .returned (.slice (some ⟨w.heap.size, 0, none⟩) n n) ∧ OwL w' w.heap.size (w.heap.size + 1) (some ⟨w.heap.size, 0, none⟩) n (lst (fun j => fbet L (fstraight (some (mk j)) Q)) n) ∧ Ext w w' ∧ w.heap.size < w'.heap.size := by
  have hV : klen n = true := by unfold klen; rw [decide_eq_true g1, decide_eq_true g2]; rfl
  have hmk := fun W => run_make_row' (P := Try.prog) 22 23 (.float .f32 0) 4 Try.underlying22 info_f32 rfl .i64 .i64 n (by omega) (by omega) W
  have hs : ∀ (W : World), Ext w W → ∀ (t : Nat) (T : Option Nat), Fl .f32 t T → Calls Try.prog 17 #[.slice A n c, .float .f32 t] W fun e w' => RetX W e w' (fbet L T) true := by
    intro W hx t T ft
    have h0 := c_impl_SampleBetween (w := W) (c := c) (h.below (hx.mono hB)) (by omega) ft
    rw [hV, if_pos rfl] at h0
    exact h0
  have HS := Lib.hid hs
  clear hs
  go_enter Try.func55, Try.ntmps55
  go_wp2_with (fail)
  go_loopw [12] (fun i wr => ∃ (k : Nat) (cs : Array Value), k ≤ n ∧ i = .int .i64 k ∧ wr.heap[w.heap.size]? = some (.cells cs 23 (0, 0)) ∧ cs.size = n ∧ (∀ j, j < k → ∃ r, cs[j]? = some (.float .f32 r) ∧ Fl .f32 r (fbet L (fstraight (some (mk j)) Q))) ∧ Ext w wr) (fun i _ => n - (intOf i).toNat)
  case atStart => exact ⟨0, _, Nat.zero_le _, rfl, heap_alloc_new w _, size_madeCells _ _, fun j hj => absurd hj (Nat.not_lt_zero _), (by repeat (first | assumption | exact Ext.refl _ | apply Ext.drewN | apply Ext.drew | apply Ext.alloc | (refine Ext.trans ?_ (by assumption)) | (refine Ext.set ?_ (by dsimp only; omega) _)))⟩
  case round =>
    obtain ⟨k, cs, hk, rfl, hgk, hsz, hp, hx⟩ := hrel
    by_cases hlt : k < n
    · have hlt' : (k : Int) < (n : Int) := by omega
      have hcg := (hx.cell (p := ⟨g, 0, none⟩) hgl).trans hg
      obtain ⟨u0, e0, z0⟩ := own_cell hgk hsz hlt
      have hmi := mk_int k
      have HP := Lib.hid hp
      have HG := Lib.hid hgk
      have HZ := Lib.hid hsz
      clear hp hgk hsz
      go_wp2_with (first | (go_at_call 97; refine Calls.mono (c_straight1 hcg fq (fl_mk k)) ?_; rintro e w4 ⟨r4, rfl, hr4, n4, rfl⟩) | (go_at_call 17; refine Calls.mono (HS.out _ (by repeat (first | assumption | exact Ext.refl _ | apply Ext.drewN | apply Ext.drew | apply Ext.alloc | (refine Ext.trans ?_ (by assumption)) | (refine Ext.set ?_ (by dsimp only; omega) _))) _ _ hr4) ?_; rintro e w5 ⟨r5, rfl, hr5, n5, rfl⟩))
      exact ⟨⟨k + 1, _, by omega, by go_num, blk_set1 (w := World.drewN _ _) HG.out k _, by rw [Array.size_setIfInBounds]; exact HZ.out, pre_setF (F := fun j => fbet L (fstraight (some (mk j)) Q)) (by have := HZ.out; omega) HP.out hr5, (by repeat (first | assumption | exact Ext.refl _ | apply Ext.drewN | apply Ext.drew | apply Ext.alloc | (refine Ext.trans ?_ (by assumption)) | (refine Ext.set ?_ (by dsimp only; omega) _)))⟩, by simp [intOf]; omega⟩
    · obtain rfl : k = n := by omega
      go_wp2_with (fail)
      go_ret
      exact ⟨rfl, (own_lst hgk hsz hp).at1, hx, Nat.lt_of_lt_of_le (blk_lt hgk) (Nat.le_refl _)⟩

set_option maxRecDepth 20000 in
set_option maxHeartbeats 4000000 in
theorem c_loop_l04Correct {w : World} {B n c : Nat} {A : Option Addr} {L : List (Option Nat)} (h : RdF w B A n L) (hB : B ≤ w.heap.size) (g1 : 1 ≤ n) (g2 : n ≤ 64) {p v : Nat} {P V : Option Nat} (fp : Fl .f32 p P) (fv : Fl .f32 v V) :
    Calls Try.prog 59 #[.slice A n c, .float .f32 p, .float .f32 v] w fun e w' => ∃ v, e = .returned v ∧ OwF w' w.heap.size v n (fcorr L P V) ∧ Ext w w' := by
  obtain ⟨i0, hi, hz0, hz1, hz2⟩ := info_parts info_f32
  go_enter Try.func59, Try.ntmps59
  go_wp2_with (fail)
  go_loopw [7, 8] (fun v i wr => ∃ (k : Nat) (xs : List Value), k ≤ n ∧ i = .int .i64 k ∧ wr.ownsRow w.heap.size 23 1 v k xs ∧ (∀ j, j < k → ∃ r, xs[j]? = some (.float .f32 r) ∧ Fl .f32 r (fcorr L P V j)) ∧ Ext w wr) (fun _ i _ => n - (intOf i).toNat)
  case atStart => exact ⟨0, [], Nat.zero_le _, rfl, World.ownsRow_made _ _ 0 (Nat.le_refl _) (Nat.zero_le _) rfl, fun j hj => absurd hj (Nat.not_lt_zero _), (by repeat (first | assumption | exact Ext.refl _ | apply Ext.drewN | apply Ext.drew | apply Ext.alloc | (refine Ext.trans ?_ (by assumption)) | (refine Ext.set ?_ (by dsimp only; omega) _)))⟩
  case round =>
    obtain ⟨k, xs, hk, rfl, hown, hxs, hx⟩ := hrel
    have HX := Lib.hid hxs
    clear hxs
    by_cases hlt : k < n
    · have hlt' : (k : Int) < (n : Int) := by omega
      have hmi := mk_int k
      have hrd := fun (W : World) (hW : Ext w W) => h.below (hW.mono hB)
      have HRD := Lib.hid hrd
      clear hrd
      go_wp2_with (first | (go_at_call 93; refine Calls.mono (c_l04Curve (fl_mk k) fp fv _) ?_; rintro e w4 ⟨r4, rfl, hr4, n4, rfl⟩) | (go_at_call 52; refine Calls.mono (c_l04At (HRD.out _ (by repeat (first | assumption | exact Ext.refl _ | apply Ext.drewN | apply Ext.drew | apply Ext.alloc | (refine Ext.trans ?_ (by assumption)) | (refine Ext.set ?_ (by dsimp only; omega) _)))) g1 g2 hr4) ?_; rintro e w5 ⟨r5, rfl, hr5, n5, rfl⟩) | (at_builtin; refine wpList_append_own _ rfl _ _ 22 rfl w.heap.size 23 i0 (.float .f32 0) 1 4 Try.underlying22 hi hz0 hz1 hz2 rfl (by decide) _ _ _ rfl (World.ownsRow.alloc (w := wr.drewN _) hown _) ⟨wr.heap.size, 0, none⟩ 1 1 [.float .f32 r5] rfl rfl ?_ ?_ ?_ ?_ ?_ ?_))
      all_goals first
        | exact one_new (w := wr.drewN _)
        | (intro u hu; simp at hu; subst hu; rfl)
        | (unfold maxLen; omega)
        | omega
        | (have := hx.size; simp; omega)
        | (intro v' w4 hown' hgrow _
           have hl' : xs.length = k := by have := hown.1; omega
           have hx' : Ext w w4 := grown_ext (Ext.alloc (Ext.drewN hx _) _) (World.ownsRow.alloc (w := wr.drewN _) hown _) hgrow
           have HXX := Lib.hid (row_step hl' HX.out hr5)
           clear hown hgrow hx
           go_wp2_with (fail)
           exact ⟨⟨k + 1, _, by omega, by go_num, hown', HXX.out, hx'⟩, by simp [intOf]; omega⟩)
    · obtain rfl : k = n := by omega
      go_wp2_with (fail)
      go_ret
      exact ⟨_, rfl, ⟨xs, hown, HX.out⟩, hx⟩

set_option maxRecDepth 20000 in
set_option maxHeartbeats 4000000 in
theorem c_loop_l04Bend {w : World} {B n c : Nat} {A : Option Addr} {L : List (Option Nat)} (h : RdF w B A n L) (hB : B ≤ w.heap.size) (g1 : 1 ≤ n) (g2 : n ≤ 64) {p v : Nat} {P V : Option Nat} (fp : Fl .f32 p P) (fv : Fl .f32 v V) :
    Calls Try.prog 62 #[.slice A n c, .float .f32 p, .float .f32 v] w fun e w' => ∃ v, e = .returned v ∧ OwF w' w.heap.size v n (fbend L P V) ∧ Ext w w' := by
  obtain ⟨i0, hi, hz0, hz1, hz2⟩ := info_parts info_f32
  go_enter Try.func62, Try.ntmps62
  go_wp2_with (apply upon_fop rfl; (exact fp); (exact fv); intro rx nx hrx)
  go_loopw [8, 9] (fun v i wr => ∃ (k : Nat) (xs : List Value), k ≤ n ∧ i = .int .i64 k ∧ wr.ownsRow w.heap.size 23 1 v k xs ∧ (∀ j, j < k → ∃ r, xs[j]? = some (.float .f32 r) ∧ Fl .f32 r (fbend L P V j)) ∧ Ext w wr) (fun _ i _ => n - (intOf i).toNat)
  case atStart => exact ⟨0, [], Nat.zero_le _, rfl, World.ownsRow_made _ _ 0 (Nat.le_refl _) (Nat.zero_le _) rfl, fun j hj => absurd hj (Nat.not_lt_zero _), (by repeat (first | assumption | exact Ext.refl _ | apply Ext.drewN | apply Ext.drew | apply Ext.alloc | (refine Ext.trans ?_ (by assumption)) | (refine Ext.set ?_ (by dsimp only; omega) _)))⟩
  case round =>
    obtain ⟨k, xs, hk, rfl, hown, hxs, hx⟩ := hrel
    have HX := Lib.hid hxs
    clear hxs
    by_cases hlt : k < n
    · have hlt' : (k : Int) < (n : Int) := by omega
      have hmi := mk_int k
      have hrd := fun (W : World) (hW : Ext w W) => h.below (hW.mono hB)
      have HRD := Lib.hid hrd
      clear hrd
      cases hN : lt0 (fop .sub .f32 (fop .mul .f32 (some (mk k)) (some (mk k))) (fop .mul .f32 (fop .quo .f32 P V) (fop .quo .f32 P V)))
      · have HN := Lib.hid hN
        clear hN
        go_wp2_with (first | (apply upon_fop rfl; (exact (fl_mk k)); (exact (fl_mk k)); intro r6 n6 hr6) | (apply upon_fop rfl; (exact hrx); (exact hrx); intro r7 n7 hr7) | (apply upon_fop rfl; (exact hr6); (exact hr7); intro r8 n8 hr8; have hlt0 := hr8.olt0; rw [HN.out] at hlt0) | (go_at_call 96; refine Calls.mono (c_l01Sqrt hr8 _) ?_; rintro e w4 ⟨r4, rfl, hr4, n4, rfl⟩) | (go_at_call 52; refine Calls.mono (c_l04At (HRD.out _ (by repeat (first | assumption | exact Ext.refl _ | apply Ext.drewN | apply Ext.drew | apply Ext.alloc | (refine Ext.trans ?_ (by assumption)) | (refine Ext.set ?_ (by dsimp only; omega) _)))) g1 g2 hr4) ?_; rintro e w5 ⟨r5, rfl, hr5, n5, rfl⟩) | (at_builtin; refine wpList_append_own _ rfl _ _ 22 rfl w.heap.size 23 i0 (.float .f32 0) 1 4 Try.underlying22 hi hz0 hz1 hz2 rfl (by decide) _ _ _ rfl (World.ownsRow.alloc (w := wr.drewN _) hown _) ⟨wr.heap.size, 0, none⟩ 1 1 [.float .f32 r5] rfl rfl ?_ ?_ ?_ ?_ ?_ ?_))
        all_goals first
          | exact one_new (w := wr.drewN _)
          | (intro u hu; simp at hu; subst hu; rfl)
          | (unfold maxLen; omega)
          | omega
          | (have := hx.size; simp; omega)
          | (intro v' w4 hown' hgrow _
             have hl' : xs.length = k := by have := hown.1; omega
             have hx' : Ext w w4 := grown_ext (Ext.alloc (Ext.drewN hx _) _) (World.ownsRow.alloc (w := wr.drewN _) hown _) hgrow
             have HXX := Lib.hid (row_step hl' HX.out hr5)
             clear hown hgrow hx
             go_wp2_with (fail)
             exact ⟨⟨k + 1, _, by omega, by go_num, hown', HXX.out, hx'⟩, by simp [intOf]; omega⟩)
      · have hst := fun (q : Nat) (hq : Fl .f32 q (fop .sub .f32 (fop .mul .f32 (some (mk k)) (some (mk k))) (fop .mul .f32 (fop .quo .f32 P V) (fop .quo .f32 P V)))) => fbet_straight (L := L) hq hN
        have HST := Lib.hid hst
        have HN := Lib.hid hN
        clear hN hst
        go_wp2_with (first | (apply upon_fop rfl; (exact (fl_mk k)); (exact (fl_mk k)); intro r6 n6 hr6) | (apply upon_fop rfl; (exact hrx); (exact hrx); intro r7 n7 hr7) | (apply upon_fop rfl; (exact hr6); (exact hr7); intro r8 n8 hr8; have hlt0 := hr8.olt0; rw [HN.out] at hlt0; have hb5 : Fl .f32 0 (fbend L P V k) := (by rw [show fbend L P V k = fz from HST.out _ hr8]; exact fl_fz)) | (at_builtin; refine wpList_append_own _ rfl _ _ 22 rfl w.heap.size 23 i0 (.float .f32 0) 1 4 Try.underlying22 hi hz0 hz1 hz2 rfl (by decide) _ _ _ rfl (World.ownsRow.alloc (w := wr.drewN _) hown _) ⟨wr.heap.size, 0, none⟩ 1 1 [.float .f32 0] rfl rfl ?_ ?_ ?_ ?_ ?_ ?_))
        all_goals first
          | exact one_new (w := wr.drewN _)
          | (intro u hu; simp at hu; subst hu; rfl)
          | (unfold maxLen; omega)
          | omega
          | (have := hx.size; simp; omega)
          | (intro v' w4 hown' hgrow _
             have hl' : xs.length = k := by have := hown.1; omega
             have hx' : Ext w w4 := grown_ext (Ext.alloc (Ext.drewN hx _) _) (World.ownsRow.alloc (w := wr.drewN _) hown _) hgrow
             have HXX := Lib.hid (row_step hl' HX.out hb5)
             clear hown hgrow hx
             go_wp2_with (fail)
             exact ⟨⟨k + 1, _, by omega, by go_num, hown', HXX.out, hx'⟩, by simp [intOf]; omega⟩)
    · obtain rfl : k = n := by omega
      go_wp2_with (fail)
      go_ret
      exact ⟨_, rfl, ⟨xs, hown, HX.out⟩, hx⟩

set_option maxRecDepth 20000 in
set_option maxHeartbeats 4000000 in
theorem c_spec_MoveTrace {w : World} {B n c : Nat} {A : Option Addr} {L : List (Option Nat)} (h : RdF w B A n L) (hB : B ≤ w.heap.size) (hn : n ≤ 1048576) {p : Nat} {P : Option Nat} (fp : Fl .f32 p P) :
    Calls Try.prog 20 #[.slice A n c, .float .f32 p] w fun e w' => RetL w e w' (klen n) (lst (fmove L P) n) := by
  obtain ⟨i0, hi, hz0, hz1, hz2⟩ := info_parts info_f32
  cases hV : klen n
  · go_enter Try.func20, Try.ntmps20
    go_wp2_with (go_at_call 51; refine Calls.mono (c_l04List _ _ _ hn _) ?_; rw [hV]; rintro e w1 ⟨rfl, rfl⟩)
    go_ret2
    exact retL_no rfl (by repeat (first | assumption | exact Ext.refl _ | apply Ext.drewN | apply Ext.drew | apply Ext.alloc | (refine Ext.trans ?_ (by assumption)) | (refine Ext.set ?_ (by dsimp only; omega) _)))
  obtain ⟨g1, g2⟩ := klen_of hV
  go_enter Try.func20, Try.ntmps20
  go_wp2_with (go_at_call 51; refine Calls.mono (c_l04List _ _ _ hn _) ?_; rw [hV]; rintro e w1 ⟨rfl, rfl⟩)
  go_loopw [6, 7] (fun v i wr => ∃ (k : Nat) (xs : List Value), k ≤ n ∧ i = .int .i64 k ∧ wr.ownsRow w.heap.size 23 1 v k xs ∧ (∀ j, j < k → ∃ r, xs[j]? = some (.float .f32 r) ∧ Fl .f32 r (fmove L P j)) ∧ Ext w wr) (fun _ i _ => n - (intOf i).toNat)
  case atStart => exact ⟨0, [], Nat.zero_le _, rfl, World.ownsRow_made _ _ 0 (Nat.le_refl _) (Nat.zero_le _) rfl, fun j hj => absurd hj (Nat.not_lt_zero _), (by repeat (first | assumption | exact Ext.refl _ | apply Ext.drewN | apply Ext.drew | apply Ext.alloc | (refine Ext.trans ?_ (by assumption)) | (refine Ext.set ?_ (by dsimp only; omega) _)))⟩
  case round =>
    obtain ⟨k, xs, hk, rfl, hown, hxs, hx⟩ := hrel
    have HX := Lib.hid hxs
    clear hxs
    by_cases hlt : k < n
    · have hlt' : (k : Int) < (n : Int) := by omega
      have hmi := mk_int k
      have hrd := fun (W : World) (hW : Ext w W) => h.below (hW.mono hB)
      have HRD := Lib.hid hrd
      clear hrd
      go_wp2_with (first | (apply upon_fop rfl; (exact (fl_mk k)); (exact fp); intro r4 n4 hr4) | (go_at_call 52; refine Calls.mono (c_l04At (HRD.out _ (by repeat (first | assumption | exact Ext.refl _ | apply Ext.drewN | apply Ext.drew | apply Ext.alloc | (refine Ext.trans ?_ (by assumption)) | (refine Ext.set ?_ (by dsimp only; omega) _)))) g1 g2 hr4) ?_; rintro e w5 ⟨r5, rfl, hr5, n5, rfl⟩) | (at_builtin; refine wpList_append_own _ rfl _ _ 22 rfl w.heap.size 23 i0 (.float .f32 0) 1 4 Try.underlying22 hi hz0 hz1 hz2 rfl (by decide) _ _ _ rfl (World.ownsRow.alloc (w := wr.drewN _) hown _) ⟨wr.heap.size, 0, none⟩ 1 1 [.float .f32 r5] rfl rfl ?_ ?_ ?_ ?_ ?_ ?_))
      all_goals first
        | exact one_new (w := wr.drewN _)
        | (intro u hu; simp at hu; subst hu; rfl)
        | (unfold maxLen; omega)
        | omega
        | (have := hx.size; simp; omega)
        | (intro v' w4 hown' hgrow _
           have hl' : xs.length = k := by have := hown.1; omega
           have hx' : Ext w w4 := grown_ext (Ext.alloc (Ext.drewN hx _) _) (World.ownsRow.alloc (w := wr.drewN _) hown _) hgrow
           have HXX := Lib.hid (row_step hl' HX.out hr5)
           clear hown hgrow hx
           go_wp2_with (fail)
           exact ⟨⟨k + 1, _, by omega, by go_num, hown', HXX.out, hx'⟩, by simp [intOf]; omega⟩)
    · obtain rfl : k = n := by omega
      obtain ⟨A2, c2, rfl, ho2⟩ := OwF.owl ⟨xs, hown, HX.out⟩
      go_wp2_with (fail)
      go_ret2
      exact ⟨_, _, _, rfl, ho2, hx⟩

set_option maxRecDepth 20000 in
set_option maxHeartbeats 4000000 in
theorem c_retime_curve {w : World} {B n c : Nat} {A : Option Addr} {L : List (Option Nat)} (h : RdF w B A n L) (hB : B ≤ w.heap.size) (hn : n ≤ 1048576) {p v : Nat} {P V : Option Nat} (fp : Fl .f32 p P) (fv : Fl .f32 v V) :
    Calls Try.prog 60 #[.slice A n c, .float .f32 p, .float .f32 v, .func (.func 61) #[] #[]] w fun e w' => RetL w e w' (klen n && (ffin .f32 P && fabove V)) (lst (fcorr L P V) n) := by
  cases hV : klen n
  · go_enter Try.func60, Try.ntmps60
    go_wp2_with (go_at_call 53; refine Calls.mono (c_isList _ _ _ hn _) ?_; rw [hV]; rintro e w1 ⟨rfl, rfl⟩)
    go_ret2
    exact retL_no rfl (by repeat (first | assumption | exact Ext.refl _ | apply Ext.drewN | apply Ext.drew | apply Ext.alloc | (refine Ext.trans ?_ (by assumption)) | (refine Ext.set ?_ (by dsimp only; omega) _)))
  cases hW : ffin .f32 P
  · go_enter Try.func60, Try.ntmps60
    go_wp2_with (first | (go_at_call 53; refine Calls.mono (c_isList _ _ _ hn _) ?_; rw [hV]; rintro e w1 ⟨rfl, rfl⟩) | (go_at_call 66; refine Calls.mono (c_impl_IsFinite fp _) ?_; rw [hW]; rintro e w1 ⟨rfl, n1, rfl⟩))
    go_ret2
    exact retL_no rfl (by repeat (first | assumption | exact Ext.refl _ | apply Ext.drewN | apply Ext.drew | apply Ext.alloc | (refine Ext.trans ?_ (by assumption)) | (refine Ext.set ?_ (by dsimp only; omega) _)))
  cases hX : fabove V
  · go_enter Try.func60, Try.ntmps60
    go_wp2_with (first | (go_at_call 53; refine Calls.mono (c_isList _ _ _ hn _) ?_; rw [hV]; rintro e w1 ⟨rfl, rfl⟩) | (go_at_call 66; refine Calls.mono (c_impl_IsFinite fp _) ?_; rw [hW]; rintro e w1 ⟨rfl, n1, rfl⟩) | (go_at_call 65; refine Calls.mono (c_isPositive fv) ?_; rw [hX]; rintro e w1 ⟨rfl, n2, rfl⟩))
    go_ret2
    exact retL_no rfl (by repeat (first | assumption | exact Ext.refl _ | apply Ext.drewN | apply Ext.drew | apply Ext.alloc | (refine Ext.trans ?_ (by assumption)) | (refine Ext.set ?_ (by dsimp only; omega) _)))
  obtain ⟨g1, g2⟩ := klen_of hV
  go_enter Try.func60, Try.ntmps60
  go_wp2_with (first | (go_at_call 53; refine Calls.mono (c_isList _ _ _ hn _) ?_; rw [hV]; rintro e w1 ⟨rfl, rfl⟩) | (go_at_call 66; refine Calls.mono (c_impl_IsFinite fp _) ?_; rw [hW]; rintro e w1 ⟨rfl, n1, rfl⟩) | (go_at_call 65; refine Calls.mono (c_isPositive fv) ?_; rw [hX]; rintro e w1 ⟨rfl, n2, rfl⟩) | (go_at_call 61; refine Calls.mono (c_curveOf fp fv) ?_; rintro e w3 ⟨g, q, rfl, hgl, hgh, hgc, hgq, hx3⟩) | (go_at_call 55; refine Calls.mono (c_sampled_curve (h.below (Below.mono (w := w) (by repeat (first | assumption | exact Ext.refl _ | apply Ext.drewN | apply Ext.drew | apply Ext.alloc | (refine Ext.trans ?_ (by assumption)) | (refine Ext.set ?_ (by dsimp only; omega) _))) hB)) (Nat.le_trans hB (Below.size (w := w) (B := w.heap.size) (by repeat (first | assumption | exact Ext.refl _ | apply Ext.drewN | apply Ext.drew | apply Ext.alloc | (refine Ext.trans ?_ (by assumption)) | (refine Ext.set ?_ (by dsimp only; omega) _))))) g1 g2 hgc hgh hgq) ?_; rintro e w4 ⟨rfl, ho4, hx4, hs4⟩))
  go_ret2
  have hxw : Ext w w3 := (by repeat (first | assumption | exact Ext.refl _ | apply Ext.drewN | apply Ext.drew | apply Ext.alloc | (refine Ext.trans ?_ (by assumption)) | (refine Ext.set ?_ (by dsimp only; omega) _)))
  exact ⟨_, _, _, rfl, ho4.more hxw.size hs4, hxw.trans hx4⟩
set_option maxRecDepth 20000 in
set_option maxHeartbeats 4000000 in
theorem c_impl_CorrectTrace {w : World} {B n c : Nat} {A : Option Addr} {L : List (Option Nat)} (h : RdF w B A n L) (hB : B ≤ w.heap.size) (hn : n ≤ 1048576) {p v : Nat} {P V : Option Nat} (fp : Fl .f32 p P) (fv : Fl .f32 v V) :
    Calls Try.prog 25 #[.slice A n c, .float .f32 p, .float .f32 v] w fun e w' => RetL w e w' (klen n && (ffin .f32 P && fabove V)) (lst (fcorr L P V) n) := by
  go_enter Try.func25, Try.ntmps25
  go_wp2_with (go_at_call 60; refine Calls.mono (c_retime_curve h hB hn fp fv) ?_; rintro e w1 ⟨A1, m1, c1, rfl, ho1, hx1⟩)
  go_ret2
  exact ⟨_, _, _, rfl, ho1, hx1⟩
set_option maxRecDepth 20000 in
set_option maxHeartbeats 4000000 in
theorem c_spec_CorrectTrace {w : World} {B n c : Nat} {A : Option Addr} {L : List (Option Nat)} (h : RdF w B A n L) (hB : B ≤ w.heap.size) (hn : n ≤ 1048576) {p v : Nat} {P V : Option Nat} (fp : Fl .f32 p P) (fv : Fl .f32 v V) :
    Calls Try.prog 24 #[.slice A n c, .float .f32 p, .float .f32 v] w fun e w' => RetL w e w' (klen n && (ffin .f32 P && fabove V)) (lst (fcorr L P V) n) := by
  cases hV : klen n
  · go_enter Try.func24, Try.ntmps24
    go_wp2_with (go_at_call 51; refine Calls.mono (c_l04List _ _ _ hn _) ?_; rw [hV]; rintro e w1 ⟨rfl, rfl⟩)
    go_ret2
    exact retL_no rfl (by repeat (first | assumption | exact Ext.refl _ | apply Ext.drewN | apply Ext.drew | apply Ext.alloc | (refine Ext.trans ?_ (by assumption)) | (refine Ext.set ?_ (by dsimp only; omega) _)))
  cases hW : ffin .f32 P
  · go_enter Try.func24, Try.ntmps24
    go_wp2_with (first | (go_at_call 51; refine Calls.mono (c_l04List _ _ _ hn _) ?_; rw [hV]; rintro e w1 ⟨rfl, rfl⟩) | (go_at_call 57; refine Calls.mono (c_l01Finite fp _) ?_; rw [hW]; rintro e w1 ⟨rfl, n1, rfl⟩))
    go_ret2
    exact retL_no rfl (by repeat (first | assumption | exact Ext.refl _ | apply Ext.drewN | apply Ext.drew | apply Ext.alloc | (refine Ext.trans ?_ (by assumption)) | (refine Ext.set ?_ (by dsimp only; omega) _)))
  cases hX : fabove V
  · go_enter Try.func24, Try.ntmps24
    go_wp2_with (first | (go_at_call 51; refine Calls.mono (c_l04List _ _ _ hn _) ?_; rw [hV]; rintro e w1 ⟨rfl, rfl⟩) | (go_at_call 57; refine Calls.mono (c_l01Finite fp _) ?_; rw [hW]; rintro e w1 ⟨rfl, n1, rfl⟩) | (go_at_call 58; refine Calls.mono (c_l02Above fv _) ?_; rw [hX]; rintro e w1 ⟨rfl, n2, rfl⟩))
    go_ret2
    exact retL_no rfl (by repeat (first | assumption | exact Ext.refl _ | apply Ext.drewN | apply Ext.drew | apply Ext.alloc | (refine Ext.trans ?_ (by assumption)) | (refine Ext.set ?_ (by dsimp only; omega) _)))
  obtain ⟨g1, g2⟩ := klen_of hV
  go_enter Try.func24, Try.ntmps24
  go_wp2_with (first | (go_at_call 51; refine Calls.mono (c_l04List _ _ _ hn _) ?_; rw [hV]; rintro e w1 ⟨rfl, rfl⟩) | (go_at_call 57; refine Calls.mono (c_l01Finite fp _) ?_; rw [hW]; rintro e w1 ⟨rfl, n1, rfl⟩) | (go_at_call 58; refine Calls.mono (c_l02Above fv _) ?_; rw [hX]; rintro e w1 ⟨rfl, n2, rfl⟩) | (go_at_call 59; refine Calls.mono (c_loop_l04Correct (h.below (Below.mono (w := w) (by repeat (first | assumption | exact Ext.refl _ | apply Ext.drewN | apply Ext.drew | apply Ext.alloc | (refine Ext.trans ?_ (by assumption)) | (refine Ext.set ?_ (by dsimp only; omega) _))) hB)) (Nat.le_trans hB (Below.size (w := w) (B := w.heap.size) (by repeat (first | assumption | exact Ext.refl _ | apply Ext.drewN | apply Ext.drew | apply Ext.alloc | (refine Ext.trans ?_ (by assumption)) | (refine Ext.set ?_ (by dsimp only; omega) _))))) g1 g2 fp fv) ?_; rintro e w4 ⟨v4, rfl, ho4, hx4⟩; obtain ⟨A4, c4, rfl, hp4⟩ := ho4.owl))
  go_ret2
  exact ⟨_, _, _, rfl, hp4.more (Below.size (w := w) (B := w.heap.size) (by repeat (first | assumption | exact Ext.refl _ | apply Ext.drewN | apply Ext.drew | apply Ext.alloc | (refine Ext.trans ?_ (by assumption)) | (refine Ext.set ?_ (by dsimp only; omega) _)))) (Nat.le_refl _), (by repeat (first | assumption | exact Ext.refl _ | apply Ext.drewN | apply Ext.drew | apply Ext.alloc | (refine Ext.trans ?_ (by assumption)) | (refine Ext.set ?_ (by dsimp only; omega) _)))⟩
theorem both_CorrectTrace {n0 : Nat} {L0 : List (Option Nat)} (_hl0 : L0.length = n0) (hn0 : n0 ≤ 1048576) {p1 : Nat} {P1 : Option Nat} (fp1 : Fl .f32 p1 P1) {p2 : Nat} {P2 : Option Nat} (fp2 : Fl .f32 p2 P2) :
    ∃ ok Q q, q ≤ 1048576 ∧ (∀ W : World, ∀ (B0 : Nat) (A0 : Option Addr) (c0 : Nat), RdF W B0 A0 n0 L0 → B0 ≤ W.heap.size → Calls Try.prog 24 #[.slice A0 n0 c0, .float .f32 p1, .float .f32 p2] W fun e w' => RetQ W e w' ok q Q) ∧
      (∀ W : World, ∀ (B0 : Nat) (A0 : Option Addr) (c0 : Nat), RdF W B0 A0 n0 L0 → B0 ≤ W.heap.size → Calls Try.prog 25 #[.slice A0 n0 c0, .float .f32 p1, .float .f32 p2] W fun e w' => RetQ W e w' ok q Q) :=
  ⟨klen n0 && (ffin .f32 P1 && fabove P2), outL (klen n0 && (ffin .f32 P1 && fabove P2)) (lst (fcorr L0 P1 P2) n0), (outL (klen n0 && (ffin .f32 P1 && fabove P2)) (lst (fcorr L0 P1 P2) n0)).length, Nat.le_trans (outL_len _ _) (by rw [lst_len]; exact hn0),
    fun W _ _ _ h0 hB0 => Calls.mono (c_spec_CorrectTrace (w := W) h0 hB0 hn0 fp1 fp2) (fun _ _ hr => hr.q), fun W _ _ _ h0 hB0 => Calls.mono (c_impl_CorrectTrace (w := W) h0 hB0 hn0 fp1 fp2) (fun _ _ hr => hr.q)⟩


set_option maxRecDepth 20000 in
set_option maxHeartbeats 4000000 in
theorem c_retime_straight {w : World} {B n c : Nat} {A : Option Addr} {L : List (Option Nat)} (h : RdF w B A n L) (hB : B ≤ w.heap.size) (hn : n ≤ 1048576) {p v : Nat} {P V : Option Nat} (fp : Fl .f32 p P) (fv : Fl .f32 v V) :
    Calls Try.prog 60 #[.slice A n c, .float .f32 p, .float .f32 v, .func (.func 63) #[] #[]] w fun e w' => RetL w e w' (klen n && (ffin .f32 P && fabove V)) (lst (fbend L P V) n) := by
  cases hV : klen n
  · go_enter Try.func60, Try.ntmps60
    go_wp2_with (go_at_call 53; refine Calls.mono (c_isList _ _ _ hn _) ?_; rw [hV]; rintro e w1 ⟨rfl, rfl⟩)
    go_ret2
    exact retL_no rfl (by repeat (first | assumption | exact Ext.refl _ | apply Ext.drewN | apply Ext.drew | apply Ext.alloc | (refine Ext.trans ?_ (by assumption)) | (refine Ext.set ?_ (by dsimp only; omega) _)))
  cases hW : ffin .f32 P
  · go_enter Try.func60, Try.ntmps60
    go_wp2_with (first | (go_at_call 53; refine Calls.mono (c_isList _ _ _ hn _) ?_; rw [hV]; rintro e w1 ⟨rfl, rfl⟩) | (go_at_call 66; refine Calls.mono (c_impl_IsFinite fp _) ?_; rw [hW]; rintro e w1 ⟨rfl, n1, rfl⟩))
    go_ret2
    exact retL_no rfl (by repeat (first | assumption | exact Ext.refl _ | apply Ext.drewN | apply Ext.drew | apply Ext.alloc | (refine Ext.trans ?_ (by assumption)) | (refine Ext.set ?_ (by dsimp only; omega) _)))
  cases hX : fabove V
  · go_enter Try.func60, Try.ntmps60
    go_wp2_with (first | (go_at_call 53; refine Calls.mono (c_isList _ _ _ hn _) ?_; rw [hV]; rintro e w1 ⟨rfl, rfl⟩) | (go_at_call 66; refine Calls.mono (c_impl_IsFinite fp _) ?_; rw [hW]; rintro e w1 ⟨rfl, n1, rfl⟩) | (go_at_call 65; refine Calls.mono (c_isPositive fv) ?_; rw [hX]; rintro e w1 ⟨rfl, n2, rfl⟩))
    go_ret2
    exact retL_no rfl (by repeat (first | assumption | exact Ext.refl _ | apply Ext.drewN | apply Ext.drew | apply Ext.alloc | (refine Ext.trans ?_ (by assumption)) | (refine Ext.set ?_ (by dsimp only; omega) _)))
  obtain ⟨g1, g2⟩ := klen_of hV
  go_enter Try.func60, Try.ntmps60
  go_wp2_with (first | (go_at_call 53; refine Calls.mono (c_isList _ _ _ hn _) ?_; rw [hV]; rintro e w1 ⟨rfl, rfl⟩) | (go_at_call 66; refine Calls.mono (c_impl_IsFinite fp _) ?_; rw [hW]; rintro e w1 ⟨rfl, n1, rfl⟩) | (go_at_call 65; refine Calls.mono (c_isPositive fv) ?_; rw [hX]; rintro e w1 ⟨rfl, n2, rfl⟩) | (go_at_call 63; refine Calls.mono (c_straightOf fp fv) ?_; rintro e w3 ⟨g, q, rfl, hgl, hgh, hgc, hgq, hx3⟩) | (go_at_call 55; refine Calls.mono (c_sampled_straight (h.below (Below.mono (w := w) (by repeat (first | assumption | exact Ext.refl _ | apply Ext.drewN | apply Ext.drew | apply Ext.alloc | (refine Ext.trans ?_ (by assumption)) | (refine Ext.set ?_ (by dsimp only; omega) _))) hB)) (Nat.le_trans hB (Below.size (w := w) (B := w.heap.size) (by repeat (first | assumption | exact Ext.refl _ | apply Ext.drewN | apply Ext.drew | apply Ext.alloc | (refine Ext.trans ?_ (by assumption)) | (refine Ext.set ?_ (by dsimp only; omega) _))))) g1 g2 hgc hgh hgq) ?_; rintro e w4 ⟨rfl, ho4, hx4, hs4⟩))
  go_ret2
  have hxw : Ext w w3 := (by repeat (first | assumption | exact Ext.refl _ | apply Ext.drewN | apply Ext.drew | apply Ext.alloc | (refine Ext.trans ?_ (by assumption)) | (refine Ext.set ?_ (by dsimp only; omega) _)))
  exact ⟨_, _, _, rfl, ho4.more hxw.size hs4, hxw.trans hx4⟩
set_option maxRecDepth 20000 in
set_option maxHeartbeats 4000000 in
theorem c_impl_BendTrace {w : World} {B n c : Nat} {A : Option Addr} {L : List (Option Nat)} (h : RdF w B A n L) (hB : B ≤ w.heap.size) (hn : n ≤ 1048576) {p v : Nat} {P V : Option Nat} (fp : Fl .f32 p P) (fv : Fl .f32 v V) :
    Calls Try.prog 27 #[.slice A n c, .float .f32 p, .float .f32 v] w fun e w' => RetL w e w' (klen n && (ffin .f32 P && fabove V)) (lst (fbend L P V) n) := by
  go_enter Try.func27, Try.ntmps27
  go_wp2_with (go_at_call 60; refine Calls.mono (c_retime_straight h hB hn fp fv) ?_; rintro e w1 ⟨A1, m1, c1, rfl, ho1, hx1⟩)
  go_ret2
  exact ⟨_, _, _, rfl, ho1, hx1⟩
set_option maxRecDepth 20000 in
set_option maxHeartbeats 4000000 in
theorem c_spec_BendTrace {w : World} {B n c : Nat} {A : Option Addr} {L : List (Option Nat)} (h : RdF w B A n L) (hB : B ≤ w.heap.size) (hn : n ≤ 1048576) {p v : Nat} {P V : Option Nat} (fp : Fl .f32 p P) (fv : Fl .f32 v V) :
    Calls Try.prog 26 #[.slice A n c, .float .f32 p, .float .f32 v] w fun e w' => RetL w e w' (klen n && (ffin .f32 P && fabove V)) (lst (fbend L P V) n) := by
  cases hV : klen n
  · go_enter Try.func26, Try.ntmps26
    go_wp2_with (go_at_call 51; refine Calls.mono (c_l04List _ _ _ hn _) ?_; rw [hV]; rintro e w1 ⟨rfl, rfl⟩)
    go_ret2
    exact retL_no rfl (by repeat (first | assumption | exact Ext.refl _ | apply Ext.drewN | apply Ext.drew | apply Ext.alloc | (refine Ext.trans ?_ (by assumption)) | (refine Ext.set ?_ (by dsimp only; omega) _)))
  cases hW : ffin .f32 P
  · go_enter Try.func26, Try.ntmps26
    go_wp2_with (first | (go_at_call 51; refine Calls.mono (c_l04List _ _ _ hn _) ?_; rw [hV]; rintro e w1 ⟨rfl, rfl⟩) | (go_at_call 57; refine Calls.mono (c_l01Finite fp _) ?_; rw [hW]; rintro e w1 ⟨rfl, n1, rfl⟩))
    go_ret2
    exact retL_no rfl (by repeat (first | assumption | exact Ext.refl _ | apply Ext.drewN | apply Ext.drew | apply Ext.alloc | (refine Ext.trans ?_ (by assumption)) | (refine Ext.set ?_ (by dsimp only; omega) _)))
  cases hX : fabove V
  · go_enter Try.func26, Try.ntmps26
    go_wp2_with (first | (go_at_call 51; refine Calls.mono (c_l04List _ _ _ hn _) ?_; rw [hV]; rintro e w1 ⟨rfl, rfl⟩) | (go_at_call 57; refine Calls.mono (c_l01Finite fp _) ?_; rw [hW]; rintro e w1 ⟨rfl, n1, rfl⟩) | (go_at_call 58; refine Calls.mono (c_l02Above fv _) ?_; rw [hX]; rintro e w1 ⟨rfl, n2, rfl⟩))
    go_ret2
    exact retL_no rfl (by repeat (first | assumption | exact Ext.refl _ | apply Ext.drewN | apply Ext.drew | apply Ext.alloc | (refine Ext.trans ?_ (by assumption)) | (refine Ext.set ?_ (by dsimp only; omega) _)))
  obtain ⟨g1, g2⟩ := klen_of hV
  go_enter Try.func26, Try.ntmps26
  go_wp2_with (first | (go_at_call 51; refine Calls.mono (c_l04List _ _ _ hn _) ?_; rw [hV]; rintro e w1 ⟨rfl, rfl⟩) | (go_at_call 57; refine Calls.mono (c_l01Finite fp _) ?_; rw [hW]; rintro e w1 ⟨rfl, n1, rfl⟩) | (go_at_call 58; refine Calls.mono (c_l02Above fv _) ?_; rw [hX]; rintro e w1 ⟨rfl, n2, rfl⟩) | (go_at_call 62; refine Calls.mono (c_loop_l04Bend (h.below (Below.mono (w := w) (by repeat (first | assumption | exact Ext.refl _ | apply Ext.drewN | apply Ext.drew | apply Ext.alloc | (refine Ext.trans ?_ (by assumption)) | (refine Ext.set ?_ (by dsimp only; omega) _))) hB)) (Nat.le_trans hB (Below.size (w := w) (B := w.heap.size) (by repeat (first | assumption | exact Ext.refl _ | apply Ext.drewN | apply Ext.drew | apply Ext.alloc | (refine Ext.trans ?_ (by assumption)) | (refine Ext.set ?_ (by dsimp only; omega) _))))) g1 g2 fp fv) ?_; rintro e w4 ⟨v4, rfl, ho4, hx4⟩; obtain ⟨A4, c4, rfl, hp4⟩ := ho4.owl))
  go_ret2
  exact ⟨_, _, _, rfl, hp4.more (Below.size (w := w) (B := w.heap.size) (by repeat (first | assumption | exact Ext.refl _ | apply Ext.drewN | apply Ext.drew | apply Ext.alloc | (refine Ext.trans ?_ (by assumption)) | (refine Ext.set ?_ (by dsimp only; omega) _)))) (Nat.le_refl _), (by repeat (first | assumption | exact Ext.refl _ | apply Ext.drewN | apply Ext.drew | apply Ext.alloc | (refine Ext.trans ?_ (by assumption)) | (refine Ext.set ?_ (by dsimp only; omega) _)))⟩
theorem both_BendTrace {n0 : Nat} {L0 : List (Option Nat)} (_hl0 : L0.length = n0) (hn0 : n0 ≤ 1048576) {p1 : Nat} {P1 : Option Nat} (fp1 : Fl .f32 p1 P1) {p2 : Nat} {P2 : Option Nat} (fp2 : Fl .f32 p2 P2) :
    ∃ ok Q q, q ≤ 1048576 ∧ (∀ W : World, ∀ (B0 : Nat) (A0 : Option Addr) (c0 : Nat), RdF W B0 A0 n0 L0 → B0 ≤ W.heap.size → Calls Try.prog 26 #[.slice A0 n0 c0, .float .f32 p1, .float .f32 p2] W fun e w' => RetQ W e w' ok q Q) ∧
      (∀ W : World, ∀ (B0 : Nat) (A0 : Option Addr) (c0 : Nat), RdF W B0 A0 n0 L0 → B0 ≤ W.heap.size → Calls Try.prog 27 #[.slice A0 n0 c0, .float .f32 p1, .float .f32 p2] W fun e w' => RetQ W e w' ok q Q) :=
  ⟨klen n0 && (ffin .f32 P1 && fabove P2), outL (klen n0 && (ffin .f32 P1 && fabove P2)) (lst (fbend L0 P1 P2) n0), (outL (klen n0 && (ffin .f32 P1 && fabove P2)) (lst (fbend L0 P1 P2) n0)).length, Nat.le_trans (outL_len _ _) (by rw [lst_len]; exact hn0),
    fun W _ _ _ h0 hB0 => Calls.mono (c_spec_BendTrace (w := W) h0 hB0 hn0 fp1 fp2) (fun _ _ hr => hr.q), fun W _ _ _ h0 hB0 => Calls.mono (c_impl_BendTrace (w := W) h0 hB0 hn0 fp1 fp2) (fun _ _ hr => hr.q)⟩


set_option maxRecDepth 20000 in
set_option maxHeartbeats 4000000 in
theorem c_impl_MoveTrace {w : World} {B n c : Nat} {A : Option Addr} {L : List (Option Nat)} (h : RdF w B A n L) (hB : B ≤ w.heap.size) (hn : n ≤ 1048576) {p : Nat} {P : Option Nat} (fp : Fl .f32 p P) :
    Calls Try.prog 21 #[.slice A n c, .float .f32 p] w fun e w' => RetL w e w' (klen n) (lst (fmove L P) n) := by
  cases hV : klen n
  · go_enter Try.func21, Try.ntmps21
    go_wp2_with (go_at_call 53; refine Calls.mono (c_isList _ _ _ hn _) ?_; rw [hV]; rintro e w1 ⟨rfl, rfl⟩)
    go_ret2
    exact retL_no rfl (by repeat (first | assumption | exact Ext.refl _ | apply Ext.drewN | apply Ext.drew | apply Ext.alloc | (refine Ext.trans ?_ (by assumption)) | (refine Ext.set ?_ (by dsimp only; omega) _)))
  obtain ⟨g1, g2⟩ := klen_of hV
  go_enter Try.func21, Try.ntmps21
  go_wp2_with (first | (go_at_call 53; refine Calls.mono (c_isList _ _ _ hn _) ?_; rw [hV]; rintro e w1 ⟨rfl, rfl⟩) | (go_at_call 55; refine Calls.mono (c_sampled_move (g := w.heap.size) (h.below (Below.mono (w := w) (by repeat (first | assumption | exact Ext.refl _ | apply Ext.drewN | apply Ext.drew | apply Ext.alloc | (refine Ext.trans ?_ (by assumption)) | (refine Ext.set ?_ (by dsimp only; omega) _))) hB)) (Nat.le_trans hB (Below.size (w := w) (B := w.heap.size) (by repeat (first | assumption | exact Ext.refl _ | apply Ext.drewN | apply Ext.drew | apply Ext.alloc | (refine Ext.trans ?_ (by assumption)) | (refine Ext.set ?_ (by dsimp only; omega) _))))) g1 g2 (by simp) (by simp) fp) ?_; rintro e w4 ⟨rfl, ho4, hx4, hs4⟩))
  go_ret2
  have hxw : Ext w (w.alloc (.cells #[.float .f32 p] 23)) := (by repeat (first | assumption | exact Ext.refl _ | apply Ext.drewN | apply Ext.drew | apply Ext.alloc | (refine Ext.trans ?_ (by assumption)) | (refine Ext.set ?_ (by dsimp only; omega) _)))
  have ho5 := ho4.more hxw.size hs4
  rw [al_size] at ho5
  exact ⟨_, _, _, rfl, ho5, hxw.trans hx4⟩
theorem both_MoveTrace {n0 : Nat} {L0 : List (Option Nat)} (_hl0 : L0.length = n0) (hn0 : n0 ≤ 1048576) {p1 : Nat} {P1 : Option Nat} (fp1 : Fl .f32 p1 P1) :
    ∃ ok Q q, q ≤ 1048576 ∧ (∀ W : World, ∀ (B0 : Nat) (A0 : Option Addr) (c0 : Nat), RdF W B0 A0 n0 L0 → B0 ≤ W.heap.size → Calls Try.prog 20 #[.slice A0 n0 c0, .float .f32 p1] W fun e w' => RetQ W e w' ok q Q) ∧
      (∀ W : World, ∀ (B0 : Nat) (A0 : Option Addr) (c0 : Nat), RdF W B0 A0 n0 L0 → B0 ≤ W.heap.size → Calls Try.prog 21 #[.slice A0 n0 c0, .float .f32 p1] W fun e w' => RetQ W e w' ok q Q) :=
  ⟨klen n0, outL (klen n0) (lst (fmove L0 P1) n0), (outL (klen n0) (lst (fmove L0 P1) n0)).length, Nat.le_trans (outL_len _ _) (by rw [lst_len]; exact hn0),
    fun W _ _ _ h0 hB0 => Calls.mono (c_spec_MoveTrace (w := W) h0 hB0 hn0 fp1) (fun _ _ hr => hr.q), fun W _ _ _ h0 hB0 => Calls.mono (c_impl_MoveTrace (w := W) h0 hB0 hn0 fp1) (fun _ _ hr => hr.q)⟩

end Go.Proofs.Ytbdmdpaggnaneaa
