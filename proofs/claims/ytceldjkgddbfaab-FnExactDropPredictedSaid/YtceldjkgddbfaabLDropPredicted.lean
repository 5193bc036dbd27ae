/- The law FnExactDropPredicted: every call returns true and leaves the memory as it was, whatever the arguments. No condition. -/
import Derived.Test.YtceldjkgddbfaabPf
import Derived.Test.YtceldjkgddbfaabKd
namespace Go.Proofs.Ytceldjkgddbfaab
open Go.RowKit Ieee

/-- The filter of what is not told ahead. -/
def ferr (L : List (Option Nat)) (g k : Nat) : Option Nat := if k = 0 then fu else if k < g then fz else fneg32 (L.getD (k - g) none)
theorem ferr_0 (L : List (Option Nat)) (g : Nat) : ferr L g 0 = fu := by unfold ferr; rw [if_pos rfl]
theorem ferr_z {L : List (Option Nat)} {g k : Nat} (h1 : k ≠ 0) (h2 : k < g) : ferr L g k = fz := by unfold ferr; rw [if_neg h1, if_pos h2]
theorem ferr_n {L : List (Option Nat)} {g j : Nat} (hg : 1 ≤ g) : ferr L g (g + j) = fneg32 (L.getD j none) := by unfold ferr; rw [if_neg (by omega), if_neg (by omega), Nat.add_sub_cancel_left]
set_option maxRecDepth 20000 in
set_option maxHeartbeats 8000000 in
theorem c_l05Error {w : World} {B n c : Nat} {A : Option Addr} {L : List (Option Nat)} (h : RdF w B A n L) (hB : B ≤ w.heap.size) (hn : n ≤ 24) {g : Nat} (hg1 : 1 ≤ g) (hg2 : g ≤ 24) :
    Calls Try.prog 65 #[.slice A n c, .int .i64 (g : Int)] w fun e w' => ∃ v, e = .returned v ∧ OwF w' w.heap.size v (g + n) (ferr L g) ∧ Ext w w' := by
  obtain ⟨i0, hi, hz0, hz1, hz2⟩ := info_parts info_f32
  go_enter Try.func65, Try.ntmps65
  go_wp2_with (fail)
  go_loopw [5, 6] (fun v y wr => ∃ (k : Nat) (xs : List Value), 1 ≤ k ∧ k ≤ g ∧ y = .int .i64 (k : Int) ∧ wr.ownsRow w.heap.size 28 1 v k xs ∧ (∀ j, j < k → ∃ r, xs[j]? = some (.float .f32 r) ∧ Fl .f32 r (ferr L g j)) ∧ Ext w wr) (fun _ y _ => g - (intOf y).toNat)
  case atStart => exact ⟨1, [.float .f32 1065353216], Nat.le_refl _, hg1, rfl, own_one' (Nat.le_refl _), fun j hj => ⟨1065353216, by (obtain rfl : j = 0 := by omega); rfl, by (obtain rfl : j = 0 := by omega); rw [ferr_0]; exact fl_fu⟩, (by repeat (first | assumption | exact Ext.refl _ | apply Ext.drewN | apply Ext.drew | apply Ext.alloc | (refine Ext.trans ?_ (by assumption)) | (refine Ext.set ?_ (by dsimp only; omega) _)))⟩
  case round =>
    obtain ⟨k, xs, hk1, hk, rfl, hown, hxs, hx⟩ := hrel
    have HX : Hid (∀ j, j < k → ∃ r, xs[j]? = some (.float .f32 r) ∧ Fl .f32 r (ferr L g j)) := Lib.hid hxs
    clear hxs
    by_cases hlt : k < g
    · have hlt' : (k : Int) < (g : Int) := by omega
      go_wp2_with ((at_builtin; refine wpList_append_own _ rfl _ _ 22 rfl w.heap.size 28 i0 (.float .f32 0) 1 4 Try.underlying22 hi hz0 hz1 hz2 rfl (by decide) _ _ _ rfl (World.ownsRow.alloc (w := wr) hown _) ⟨wr.heap.size, 0, none⟩ 1 1 [.float .f32 0] rfl rfl ?_ ?_ ?_ ?_ ?_ ?_))
      all_goals first
        | exact one_new (w := wr)
        | (intro u hu; simp at hu; subst hu; rfl)
        | (unfold maxLen; omega)
        | omega
        | (have := hx.size; simp at this ⊢; omega)
        | (have := hx.size; simp; omega)
        | (intro v' w4 hown' hgrow _
           have hl' : xs.length = k := by have := hown.1; omega
           have hx' := grown_ext (w := w) (Ext.alloc hx _) (World.ownsRow.alloc (w := wr) hown _) hgrow
           have HXX := Lib.hid (row_step (F := ferr L g) hl' HX.out (by rw [ferr_z (by omega) hlt]; exact fl_fz))
           clear hown hgrow hx
           go_wp2_with (fail)
           exact ⟨⟨k + 1, _, by omega, by omega, by go_num, hown', HXX.out, hx'⟩, by simp [intOf]; omega⟩)
    · obtain rfl : k = g := by omega
      go_wp2_with (fail)
      go_loopw [5, 19] (fun v y wq => ∃ (i : Nat) (ys : List Value), i ≤ n ∧ y = .int .i64 (i : Int) ∧ wq.ownsRow w.heap.size 28 1 v (k + i) ys ∧ (∀ j, j < k + i → ∃ r, ys[j]? = some (.float .f32 r) ∧ Fl .f32 r (ferr L k j)) ∧ Ext w wq) (fun _ y _ => n - (intOf y).toNat)
      case atStart => exact ⟨0, xs, Nat.zero_le _, rfl, hown, HX.out, hx⟩
      case round =>
        clear hx hown HX
        obtain ⟨i, ys, hi9, rfl, hown, hys, hx⟩ := hrel
        have HY : Hid (∀ j, j < k + i → ∃ r, ys[j]? = some (.float .f32 r) ∧ Fl .f32 r (ferr L k j)) := Lib.hid hys
        clear hys
        by_cases h1 : i < n
        · have h1' : (i : Int) < (n : Int) := by omega
          obtain ⟨b1, o1, t1, rfl, hb1, hc1, ht1⟩ := (h.below (hx.mono hB)).cell h1
          have hneg := fneg32_fl ht1
          rw [← ferr_n (L := L) (g := k) (j := i) hk1] at hneg
          obtain ⟨r1, hr1⟩ : ∃ r1, Op.negFloat .f32 t1 = r1 := ⟨_, rfl⟩
          rw [hr1] at hneg
          go_wp2_with ((at_builtin; refine wpList_append_own _ rfl _ _ 22 rfl w.heap.size 28 i0 (.float .f32 0) 1 4 Try.underlying22 hi hz0 hz1 hz2 rfl (by decide) _ _ _ rfl (World.ownsRow.alloc (w := wr) hown _) ⟨wr.heap.size, 0, none⟩ 1 1 [.float .f32 r1] rfl rfl ?_ ?_ ?_ ?_ ?_ ?_))
          all_goals first
            | exact one_new (w := wr)
            | (intro u hu; simp at hu; subst hu; rfl)
            | (unfold maxLen; omega)
            | omega
            | (have := hx.size; simp at this ⊢; omega)
            | (have := hx.size; simp; omega)
            | (intro v' w4 hown' hgrow _
               have hl' : ys.length = k + i := by have := hown.1; omega
               have hx' := grown_ext (w := w) (Ext.alloc hx _) (World.ownsRow.alloc (w := wr) hown _) hgrow
               have HYY := Lib.hid (row_step (F := ferr L k) hl' HY.out hneg)
               clear hown hgrow hx
               go_wp2_with (fail)
               exact ⟨⟨i + 1, _, by omega, by go_num, by rw [← Nat.add_assoc]; exact hown', by rw [← Nat.add_assoc]; exact HYY.out, hx'⟩, by simp [intOf]; omega⟩)
        · obtain rfl : i = n := by omega
          go_wp2_with (fail)
          go_ret
          exact ⟨_, rfl, ⟨ys, hown, HY.out⟩, hx⟩

theorem row_own {w : World} {base g n : Nat} {cs : Array Value} (hg : w.heap[g]? = some (.cells cs 28 (0, 0))) (hb : base ≤ g) (hs : cs.size = n) (hm : n ≤ maxLen) : w.ownsRow base 28 1 (.slice (some ⟨g, 0, none⟩) n n) n cs.toList :=
  ⟨by simp [hs], .inr ⟨g, n, cs, rfl, hb, hg, Nat.le_refl _, hm, by omega, by rw [List.take_of_length_le (by simp; omega)]⟩⟩
set_option maxRecDepth 20000 in
set_option maxHeartbeats 8000000 in
theorem c_impl_ErrorFilter {w : World} {B n c : Nat} {A : Option Addr} {L : List (Option Nat)} (h : RdF w B A n L) (hB : B ≤ w.heap.size) (hn : n ≤ 24) {g : Nat} (hg1 : 1 ≤ g) (hg2 : g ≤ 24) :
    Calls Try.prog 66 #[.slice A n c, .int .i64 (g : Int)] w fun e w' => ∃ v, e = .returned (.tuple #[v, .bool true]) ∧ OwF w' w.heap.size v (g + n) (ferr L g) ∧ Ext w w' := by
  obtain ⟨i0, hi, hz0, hz1, hz2⟩ := info_parts info_f32
  have hmk := fun W => run_make_row' (P := Try.prog) 22 28 (.float .f32 0) 4 Try.underlying22 info_f32 rfl .i64 .i64 g (by omega) (by omega) W
  obtain ⟨d, hd⟩ : ∃ d : Nat, 128 - n = d := ⟨_, rfl⟩
  have hdI : (128 : Int) - (n : Int) = (d : Int) := by omega
  have hwd : IntKind.i64.wrap (d : Int) = (d : Int) := IntWalk.i64_in _ (by omega)
  have q1 : ¬ ((g : Int) < 1) := by omega
  have q2 : ¬ ((d : Int) < (g : Int)) := by omega
  have q3 : (0 : Int) < (g : Int) := by omega
  clear hd
  obtain ⟨u0, e0, z0⟩ := own_cell (heap_alloc_new w (.cells (madeCells #[.float .f32 0] g) 28)) (size_madeCells #[.float .f32 0] g) (show 0 < g from hg1)
  have hrow := (RowF.made (n := g) (F := fun _ => fz) (fun j _ => rfl)).set' (t := 0) (G := ferr L g) (by rw [size_madeCells]; simp) (by rw [ferr_0]; exact fl_fu) (fun j hj hne => (ferr_z hne hj).symm)
  have HROW := Lib.hid hrow
  clear hrow
  go_enter Try.func66, Try.ntmps66
  go_wp2_with (fail)
  go_loopw [6, 24] (fun v y wq => ∃ (i : Nat) (ys : List Value), i ≤ n ∧ y = .int .i64 (i : Int) ∧ wq.ownsRow w.heap.size 28 1 v (g + i) ys ∧ (∀ j, j < g + i → ∃ r, ys[j]? = some (.float .f32 r) ∧ Fl .f32 r (ferr L g j)) ∧ Ext w wq) (fun _ y _ => n - (intOf y).toNat)
  case atStart => exact ⟨0, _, Nat.zero_le _, rfl, row_own (heap_alloc_new w _) (Nat.le_refl _) (by rw [Array.size_setIfInBounds]; exact size_madeCells _ _) (by unfold maxLen; omega), fun j hj => by
    obtain ⟨r, h1, h2⟩ := HROW.out j hj
    exact ⟨r, by rw [Array.getElem?_toList]; exact h1, h2⟩, (by repeat (first | assumption | exact Ext.refl _ | apply Ext.drewN | apply Ext.drew | apply Ext.alloc | (refine Ext.trans ?_ (by assumption)) | (refine Ext.set ?_ (by dsimp only; omega) _)))⟩
  case round =>
    obtain ⟨i, ys, hi9, rfl, hown, hys, hx⟩ := hrel
    have HY : Hid (∀ j, j < g + i → ∃ r, ys[j]? = some (.float .f32 r) ∧ Fl .f32 r (ferr L g j)) := Lib.hid hys
    clear hys
    by_cases h1 : i < n
    · have h1' : (i : Int) < (n : Int) := by omega
      obtain ⟨b1, o1, t1, rfl, hb1, hc1, ht1⟩ := (h.below (hx.mono hB)).cell h1
      have hneg := fneg32_fl ht1
      rw [← ferr_n (L := L) (g := g) (j := i) hg1] at hneg
      obtain ⟨r1, hr1⟩ : ∃ r1, Op.negFloat .f32 t1 = r1 := ⟨_, rfl⟩
      rw [hr1] at hneg
      go_wp2_with ((at_builtin; refine wpList_append_own _ rfl _ _ 22 rfl w.heap.size 28 i0 (.float .f32 0) 1 4 Try.underlying22 hi hz0 hz1 hz2 rfl (by decide) _ _ _ rfl (World.ownsRow.alloc (w := wr) hown _) ⟨wr.heap.size, 0, none⟩ 1 1 [.float .f32 r1] rfl rfl ?_ ?_ ?_ ?_ ?_ ?_))
      all_goals first
        | exact one_new (w := wr)
        | (intro u hu; simp at hu; subst hu; rfl)
        | (unfold maxLen; omega)
        | omega
        | (have := hx.size; simp at this ⊢; omega)
        | (have := hx.size; simp; omega)
        | (intro v' w4 hown' hgrow _
           have hl' : ys.length = g + i := by have := hown.1; omega
           have hx' := grown_ext (w := w) (Ext.alloc hx _) (World.ownsRow.alloc (w := wr) hown _) hgrow
           have HYY := Lib.hid (row_step (F := ferr L g) hl' HY.out hneg)
           clear hown hgrow hx
           go_wp2_with (fail)
           exact ⟨⟨i + 1, _, by omega, by go_num, by rw [← Nat.add_assoc]; exact hown', by rw [← Nat.add_assoc]; exact HYY.out, hx'⟩, by simp [intOf]; omega⟩)
    · obtain rfl : i = n := by omega
      go_wp2_with (fail)
      go_ret2
      exact ⟨_, rfl, ⟨ys, hown, HY.out⟩, hx⟩
/-- A trace without what is told ahead. -/
def dpF (n : Nat) (i j : Int) (P : Option Nat) (L : List (Option Nat)) : List (Option Nat) := lst (fun k => ffs (lst (ferr (prF n i j P L) i.toNat) (i.toNat + j.toNat)) L (k : Int) (i.toNat + j.toNat)) n
set_option maxRecDepth 20000 in
set_option maxHeartbeats 8000000 in
theorem c_spec_DropPredicted {w : World} {B n c : Nat} {A : Option Addr} {L : List (Option Nat)} (h : RdF w B A n L) (hB : B ≤ w.heap.size) (hn : n ≤ 1048576) (_hcap : n ≤ c) {i j : Int} (_hi : -9223372036854775808 ≤ i) (_hj : i ≤ 9223372036854775807) (_hi2 : -9223372036854775808 ≤ j) (_hj2 : j ≤ 9223372036854775807) {p : Nat} {P : Option Nat} (fp : Fl .f32 p P) :
    Calls Try.prog 21 #[.slice A n c, .int .i64 i, .int .i64 j, .float .f32 p] w fun e w' => RetL w e w' (okPr n i j P L) (dpF n i j P L) := by
  have HPR := Lib.hid (c_l05Predict (c := c) (i := i) (j := j) h hB hn fp)
  cases hO : okPr n i j P L
  · rw [hO] at HPR
    go_enter Try.func21, Try.ntmps21
    go_wp2_with (go_at_call 61; refine Calls.mono HPR.out ?_; rintro e w2 ⟨A2, n2, c2, rfl, ho, hx2⟩)
    go_ret2
    exact retL_no rfl hx2
  rw [hO] at HPR
  have hOO := hO
  unfold okPr at hOO
  simp only [Bool.and_eq_true] at hOO
  obtain ⟨p1, p2⟩ := inB_of hOO.2.1
  obtain ⟨p3, p4⟩ := inB_of hOO.2.2.1
  obtain ⟨gp, rfl⟩ : ∃ N : Nat, i = (N : Int) := ⟨i.toNat, by omega⟩
  obtain ⟨ct, rfl⟩ : ∃ N : Nat, j = (N : Int) := ⟨j.toNat, by omega⟩
  have hlen : (prF n (gp : Int) (ct : Int) P L).length = ct := by rw [prF_len]; omega
  obtain ⟨F, hF⟩ : ∃ F, prF n (gp : Int) (ct : Int) P L = F := ⟨_, rfl⟩
  rw [hF] at HPR hlen
  have HF := Lib.hid hF
  have HL := Lib.hid hlen
  have hg1 : 1 ≤ gp := by omega
  have hg2 : gp ≤ 24 := by omega
  have hc2 : ct ≤ 24 := by omega
  clear hOO p1 p2 p3 p4 hF hlen hO _hi _hj _hi2 _hj2
  go_enter Try.func21, Try.ntmps21
  go_wp2_with (first | (go_at_call 61; refine Calls.mono HPR.out ?_; rintro e w2 ⟨A2, n2, c2, rfl, ho, hx2⟩; simp only [outL, if_true] at ho; obtain rfl : ct = n2 := (HL.out.symm.trans ho.len)) | (go_at_call 65; refine Calls.mono (c_l05Error ho.rd (Nat.le_refl _) hc2 hg1 hg2) ?_; rintro e w3 ⟨v3, rfl, ho3, hx3⟩; obtain ⟨A3, c3, rfl, ho4⟩ := ho3.owl; have hxw3 : Ext w w3 := hx2.trans hx3) | (go_at_call 64; refine Calls.mono (c_l05Apply (h.below (hxw3.mono hB)) (Nat.le_trans hB hxw3.size) hn ho4.rd (Nat.le_refl _) (by omega)) ?_; rintro e w5 ⟨v5, rfl, ho5, hx5⟩; obtain ⟨A5, c5, rfl, ho6⟩ := ho5.owl))
  go_ret2
  refine ⟨_, _, _, rfl, ?_, hxw3.trans hx5⟩
  unfold dpF
  rw [HF.out]
  exact ho6.more hxw3.size (Nat.le_refl _)
set_option maxRecDepth 20000 in
set_option maxHeartbeats 8000000 in
theorem c_impl_DropPredicted {w : World} {B n c : Nat} {A : Option Addr} {L : List (Option Nat)} (h : RdF w B A n L) (hB : B ≤ w.heap.size) (hn : n ≤ 1048576) (hcap : n ≤ c) {i j : Int} (_hi : -9223372036854775808 ≤ i) (_hj : i ≤ 9223372036854775807) (_hi2 : -9223372036854775808 ≤ j) (_hj2 : j ≤ 9223372036854775807) {p : Nat} {P : Option Nat} (fp : Fl .f32 p P) :
    Calls Try.prog 22 #[.slice A n c, .int .i64 i, .int .i64 j, .float .f32 p] w fun e w' => RetL w e w' (okPr n i j P L) (dpF n i j P L) := by
  have HPR := Lib.hid (c_impl_PredictionOf (i := i) (j := j) h hB hn hcap _hi _hj _hi2 _hj2 fp)
  cases hO : okPr n i j P L
  · rw [hO] at HPR
    go_enter Try.func22, Try.ntmps22
    go_wp2_with (go_at_call 20; refine Calls.mono HPR.out ?_; rintro e w2 ⟨A2, n2, c2, rfl, ho, hx2⟩)
    go_ret2
    exact retL_no rfl hx2
  rw [hO] at HPR
  have hOO := hO
  unfold okPr at hOO
  simp only [Bool.and_eq_true] at hOO
  obtain ⟨p1, p2⟩ := inB_of hOO.2.1
  obtain ⟨p3, p4⟩ := inB_of hOO.2.2.1
  have hV := hOO.1
  obtain ⟨gp, rfl⟩ : ∃ N : Nat, i = (N : Int) := ⟨i.toNat, by omega⟩
  obtain ⟨ct, rfl⟩ : ∃ N : Nat, j = (N : Int) := ⟨j.toNat, by omega⟩
  have hlen : (prF n (gp : Int) (ct : Int) P L).length = ct := by rw [prF_len]; omega
  obtain ⟨F, hF⟩ : ∃ F, prF n (gp : Int) (ct : Int) P L = F := ⟨_, rfl⟩
  rw [hF] at HPR hlen
  have HF := Lib.hid hF
  have HL := Lib.hid hlen
  have hg1 : 1 ≤ gp := by omega
  have hg2 : gp ≤ 24 := by omega
  have hc2 : ct ≤ 24 := by omega
  have HAP : Hid (okAp n (gp + ct) = true) := Lib.hid (by unfold okAp; rw [hV, Bool.true_and]; exact tlen_yes (by omega) (by omega))
  clear hOO p1 p2 p3 p4 hF hlen hO _hi _hj _hi2 _hj2
  go_enter Try.func22, Try.ntmps22
  go_wp2_with (first | (go_at_call 20; refine Calls.mono HPR.out ?_; rintro e w2 ⟨A2, n2, c2, rfl, ho, hx2⟩; simp only [outL, if_true] at ho; obtain rfl : ct = n2 := (HL.out.symm.trans ho.len)) | (go_at_call 66; refine Calls.mono (c_impl_ErrorFilter ho.rd (Nat.le_refl _) hc2 hg1 hg2) ?_; rintro e w3 ⟨v3, rfl, ho3, hx3⟩; obtain ⟨A3, c3, rfl, ho4⟩ := ho3.owl; have hxw3 : Ext w w3 := hx2.trans hx3) | (go_at_call 67; refine Calls.mono (c_impl_ApplyFilter (h.below (hxw3.mono hB)) (Nat.le_trans hB hxw3.size) hn ho4.rd (Nat.le_refl _) (by omega)) ?_; rw [HAP.out]; rintro e w5 ⟨A5, n5, c5, rfl, ho6, hx5⟩))
  go_ret2
  refine ⟨_, _, _, rfl, ?_, hxw3.trans hx5⟩
  unfold dpF
  rw [HF.out]
  exact ho6.more hxw3.size (Nat.le_refl _)
theorem both_DropPredicted {n0 : Nat} {L0 : List (Option Nat)} (_hl0 : L0.length = n0) (hn0 : n0 ≤ 1048576) {i1 : Int} (hi1 : -9223372036854775808 ≤ i1) (hj1 : i1 ≤ 9223372036854775807) {i2 : Int} (hi2 : -9223372036854775808 ≤ i2) (hj2 : i2 ≤ 9223372036854775807) {p3 : Nat} {P3 : Option Nat} (fp3 : Fl .f32 p3 P3) :
    ∃ ok Q q, q ≤ 1048576 ∧ (∀ W : World, ∀ (B0 : Nat) (A0 : Option Addr) (c0 : Nat), RdF W B0 A0 n0 L0 → B0 ≤ W.heap.size → n0 ≤ c0 → Calls Try.prog 21 #[.slice A0 n0 c0, .int .i64 i1, .int .i64 i2, .float .f32 p3] W fun e w' => RetQ W e w' ok q Q) ∧
      (∀ W : World, ∀ (B0 : Nat) (A0 : Option Addr) (c0 : Nat), RdF W B0 A0 n0 L0 → B0 ≤ W.heap.size → n0 ≤ c0 → Calls Try.prog 22 #[.slice A0 n0 c0, .int .i64 i1, .int .i64 i2, .float .f32 p3] W fun e w' => RetQ W e w' ok q Q) :=
  ⟨okPr n0 i1 i2 P3 L0, outL (okPr n0 i1 i2 P3 L0) (dpF n0 i1 i2 P3 L0), (outL (okPr n0 i1 i2 P3 L0) (dpF n0 i1 i2 P3 L0)).length, Nat.le_trans (outL_len _ _) (by unfold dpF; rw [lst_len]; omega),
    fun W _ _ _ h0 hB0 hc0 => Calls.mono (c_spec_DropPredicted (w := W) h0 hB0 hn0 hc0 hi1 hj1 hi2 hj2 fp3) (fun _ _ hr => hr.q), fun W _ _ _ h0 hB0 hc0 => Calls.mono (c_impl_DropPredicted (w := W) h0 hB0 hn0 hc0 hi1 hj1 hi2 hj2 fp3) (fun _ _ hr => hr.q)⟩


set_option linter.unusedSimpArgs false in
set_option maxRecDepth 20000 in
set_option maxHeartbeats 8000000 in
theorem w_FnExactDropPredicted {w : World} {v0 : Value} (o0 : ∃ A n c L, v0 = .slice A n c ∧ n ≤ maxLen ∧ RdF w w.heap.size A n L) {i1 : Int} (hi1 : -9223372036854775808 ≤ i1) (hj1 : i1 ≤ 9223372036854775807) {i2 : Int} (hi2 : -9223372036854775808 ≤ i2) (hj2 : i2 ≤ 9223372036854775807) {p3 : Nat} (hp3 : p3 < 4294967296) :
    Calls Try.prog 5 #[v0, .int .i64 i1, .int .i64 i2, .float .f32 p3] w fun e w' => e = .returned (.bool true) ∧ Below w.heap.size w w' := by
  obtain ⟨A0, n0, c0, L0, rfl, hm0, h0⟩ := o0
  unfold maxLen at hm0
  have fp3 := Fl.of32 hp3
  generalize fl .f32 p3 = P3 at fp3
  by_cases hn0 : n0 ≤ 1048576
  case neg =>
    have hb0 : (1048576 : Int) < (n0 : Int) := by omega
    go_enter Try.func5, Try.ntmps5
    go_wp2_with (fail)
    go_ret
    exact ⟨rfl, Below.refl _ _⟩
  case pos =>
    obtain ⟨ok, Q, q, hq, hS, hI⟩ := both_DropPredicted h0.len hn0 (i1 := i1) hi1 hj1 (i2 := i2) hi2 hj2 fp3
    have HS := Lib.hid hS
    have HI := Lib.hid hI
    have hd0 : ¬ ((1048576 : Int) < (n0 : Int)) := by omega
    have hneg : ¬ (((1 + n0 : Nat) : Int) < 0) := by omega
    have hneg2 : ¬ (((1 + q : Nat) : Int) < 0) := by omega
    clear hS hI
    go_enter Try.func5, Try.ntmps5
    go_wp2_with (go_at_call 14; refine Calls.mono (c_toFl (RdF.below h0 (by repeat (first | assumption | exact Ext.refl _ | apply Ext.drewN | apply Ext.drew | apply Ext.alloc | (refine Ext.trans ?_ (by assumption)) | (refine Ext.set ?_ (by dsimp only; omega) _)))) (by (try simp only [al_size, size_drewN]); omega) hn0) ?_; rintro e sw0 ⟨rfl, hs0, hxt, zs⟩; (try simp only [al_size, size_drewN] at zs))
    go_wp2_with (go_at_call 21; refine Calls.mono (HS.out _ _ _ _ (OwL.rd (OwL.ext hs0 (by (try simp only [al_size, size_drewN]); omega) (by repeat (first | assumption | exact Ext.refl _ | apply Ext.drewN | apply Ext.drew | apply Ext.alloc | (refine Ext.trans ?_ (by assumption)) | (refine Ext.set ?_ (by dsimp only; omega) _))))) (by (try simp only [al_size, size_drewN]); omega) (Nat.le_refl _)) ?_; rintro e ww ⟨Aw, cw, rfl, hw0, hxc⟩; have zs := hxc.size; (try simp only [al_size, size_drewN] at zs))
    go_wp2_with (go_at_call 14; refine Calls.mono (c_toFl (RdF.below h0 (by repeat (first | assumption | exact Ext.refl _ | apply Ext.drewN | apply Ext.drew | apply Ext.alloc | (refine Ext.trans ?_ (by assumption)) | (refine Ext.set ?_ (by dsimp only; omega) _)))) (by (try simp only [al_size, size_drewN]); omega) hn0) ?_; rintro e xw0 ⟨rfl, hx0, hxt, zs⟩; (try simp only [al_size, size_drewN] at zs))
    go_wp2_with (go_at_call 22; refine Calls.mono (HI.out _ _ _ _ (OwL.rd (OwL.ext hx0 (by (try simp only [al_size, size_drewN]); omega) (by repeat (first | assumption | exact Ext.refl _ | apply Ext.drewN | apply Ext.drew | apply Ext.alloc | (refine Ext.trans ?_ (by assumption)) | (refine Ext.set ?_ (by dsimp only; omega) _))))) (by (try simp only [al_size, size_drewN]); omega) (Nat.le_refl _)) ?_; rintro e gw ⟨Ag, cg, rfl, hg0, hxc⟩; have zs := hxc.size; (try simp only [al_size, size_drewN] at zs))
    go_wp2_with (go_at_call 16; refine Calls.mono (c_eqFloat32S (OwL.rd (OwL.ext hg0 (by (try simp only [al_size, size_drewN]); omega) (by repeat (first | assumption | exact Ext.refl _ | apply Ext.drewN | apply Ext.drew | apply Ext.alloc | (refine Ext.trans ?_ (by assumption)) | (refine Ext.set ?_ (by dsimp only; omega) _))))) (OwL.rd (OwL.ext hw0 (by (try simp only [al_size, size_drewN]); omega) (by repeat (first | assumption | exact Ext.refl _ | apply Ext.drewN | apply Ext.drew | apply Ext.alloc | (refine Ext.trans ?_ (by assumption)) | (refine Ext.set ?_ (by dsimp only; omega) _))))) hq) ?_; rintro e we ⟨rfl, m1, rfl⟩)
    go_wp2_with (go_at_call 14; refine Calls.mono (c_toFl (RdF.below h0 (by repeat (first | assumption | exact Ext.refl _ | apply Ext.drewN | apply Ext.drew | apply Ext.alloc | (refine Ext.trans ?_ (by assumption)) | (refine Ext.set ?_ (by dsimp only; omega) _)))) (by (try simp only [al_size, size_drewN]); omega) hn0) ?_; rintro e yw0 ⟨rfl, hy0, hxt, zs⟩; (try simp only [al_size, size_drewN] at zs))
    go_wp2_with (go_at_call 16; refine Calls.mono (c_eqFloat32S (OwL.rd (OwL.ext hx0 (by (try simp only [al_size, size_drewN]); omega) (by repeat (first | assumption | exact Ext.refl _ | apply Ext.drewN | apply Ext.drew | apply Ext.alloc | (refine Ext.trans ?_ (by assumption)) | (refine Ext.set ?_ (by dsimp only; omega) _))))) (OwL.rd (OwL.ext hy0 (by (try simp only [al_size, size_drewN]); omega) (by repeat (first | assumption | exact Ext.refl _ | apply Ext.drewN | apply Ext.drew | apply Ext.alloc | (refine Ext.trans ?_ (by assumption)) | (refine Ext.set ?_ (by dsimp only; omega) _))))) hn0) ?_; rintro e we ⟨rfl, m1, rfl⟩)
    go_wp2_with (go_at_call 17; refine Calls.mono (c_markFloat32S (OwL.ext hx0 (by (try simp only [al_size, size_drewN]); omega) (by repeat (first | assumption | exact Ext.refl _ | apply Ext.drewN | apply Ext.drew | apply Ext.alloc | (refine Ext.trans ?_ (by assumption)) | (refine Ext.set ?_ (by dsimp only; omega) _)))) hn0 (by decide)) ?_; rintro e wm0 ⟨rfl, _, hk⟩; have hXm : Ext w wm0 := Kb.ext hk (by repeat (first | assumption | exact Ext.refl _ | apply Ext.drewN | apply Ext.drew | apply Ext.alloc | (refine Ext.trans ?_ (by assumption)) | (refine Ext.set ?_ (by dsimp only; omega) _))) (by (try simp only [al_size, size_drewN]); omega); have hw0 := (OwL.ext hw0 (by (try simp only [al_size, size_drewN]); omega) (by repeat (first | assumption | exact Ext.refl _ | apply Ext.drewN | apply Ext.drew | apply Ext.alloc | (refine Ext.trans ?_ (by assumption)) | (refine Ext.set ?_ (by dsimp only; omega) _)))).same (hk.sameL (by (try simp only [al_size, size_drewN]); omega)); have hg0 := (OwL.ext hg0 (by (try simp only [al_size, size_drewN]); omega) (by repeat (first | assumption | exact Ext.refl _ | apply Ext.drewN | apply Ext.drew | apply Ext.alloc | (refine Ext.trans ?_ (by assumption)) | (refine Ext.set ?_ (by dsimp only; omega) _)))).same (hk.sameR (by (try simp only [al_size, size_drewN]); omega) (by (try simp only [al_size, size_drewN]); omega)); have zs := hk.below.size; (try simp only [al_size, size_drewN] at zs); clear hk)
    go_wp2_with (go_at_call 16; refine Calls.mono (c_eqFloat32S (OwL.rd (OwL.ext hg0 (by (try simp only [al_size, size_drewN]); omega) (by repeat (first | assumption | exact Ext.refl _ | apply Ext.drewN | apply Ext.drew | apply Ext.alloc | (refine Ext.trans ?_ (by assumption)) | (refine Ext.set ?_ (by dsimp only; omega) _))))) (OwL.rd (OwL.ext hw0 (by (try simp only [al_size, size_drewN]); omega) (by repeat (first | assumption | exact Ext.refl _ | apply Ext.drewN | apply Ext.drew | apply Ext.alloc | (refine Ext.trans ?_ (by assumption)) | (refine Ext.set ?_ (by dsimp only; omega) _))))) hq) ?_; rintro e we ⟨rfl, m1, rfl⟩)
    go_wp2_with (go_at_call 17; refine Calls.mono (c_markFloat32S (OwL.ext hg0 (by (try simp only [al_size, size_drewN]); omega) (by repeat (first | assumption | exact Ext.refl _ | apply Ext.drewN | apply Ext.drew | apply Ext.alloc | (refine Ext.trans ?_ (by assumption)) | (refine Ext.set ?_ (by dsimp only; omega) _)))) hq (by decide)) ?_; rintro e wn ⟨rfl, hg0, hk⟩; have hXm : Ext w wn := Kb.ext hk (by repeat (first | assumption | exact Ext.refl _ | apply Ext.drewN | apply Ext.drew | apply Ext.alloc | (refine Ext.trans ?_ (by assumption)) | (refine Ext.set ?_ (by dsimp only; omega) _))) (by (try simp only [al_size, size_drewN]); omega); have hw0 := (OwL.ext hw0 (by (try simp only [al_size, size_drewN]); omega) (by repeat (first | assumption | exact Ext.refl _ | apply Ext.drewN | apply Ext.drew | apply Ext.alloc | (refine Ext.trans ?_ (by assumption)) | (refine Ext.set ?_ (by dsimp only; omega) _)))).same (hk.sameL (by (try simp only [al_size, size_drewN]); omega)); have zs := hk.below.size; (try simp only [al_size, size_drewN] at zs); clear hk)
    go_wp2_with (go_at_call 18; refine Calls.mono (c_heldFloat32S (OwL.rd (OwL.ext hg0 (by (try simp only [al_size, size_drewN]); omega) (by repeat (first | assumption | exact Ext.refl _ | apply Ext.drewN | apply Ext.drew | apply Ext.alloc | (refine Ext.trans ?_ (by assumption)) | (refine Ext.set ?_ (by dsimp only; omega) _))))) hq (by decide)) ?_; rintro e wo ⟨rfl, rfl⟩)
    go_wp2_with (go_at_call 14; refine Calls.mono (c_toFl (RdF.below h0 (by repeat (first | assumption | exact Ext.refl _ | apply Ext.drewN | apply Ext.drew | apply Ext.alloc | (refine Ext.trans ?_ (by assumption)) | (refine Ext.set ?_ (by dsimp only; omega) _)))) (by (try simp only [al_size, size_drewN]); omega) hn0) ?_; rintro e zw0 ⟨rfl, hz0, hxt, zs⟩; (try simp only [al_size, size_drewN] at zs))
    go_wp2_with (go_at_call 22; refine Calls.mono (HI.out _ _ _ _ (OwL.rd (OwL.ext hz0 (by (try simp only [al_size, size_drewN]); omega) (by repeat (first | assumption | exact Ext.refl _ | apply Ext.drewN | apply Ext.drew | apply Ext.alloc | (refine Ext.trans ?_ (by assumption)) | (refine Ext.set ?_ (by dsimp only; omega) _))))) (by (try simp only [al_size, size_drewN]); omega) (Nat.le_refl _)) ?_; rintro e hw ⟨Ah, ch, rfl, hh0, hxc⟩; have zs := hxc.size; (try simp only [al_size, size_drewN] at zs))
    go_wp2_with (go_at_call 16; refine Calls.mono (c_eqFloat32S (OwL.rd (OwL.ext hh0 (by (try simp only [al_size, size_drewN]); omega) (by repeat (first | assumption | exact Ext.refl _ | apply Ext.drewN | apply Ext.drew | apply Ext.alloc | (refine Ext.trans ?_ (by assumption)) | (refine Ext.set ?_ (by dsimp only; omega) _))))) (OwL.rd (OwL.ext hw0 (by (try simp only [al_size, size_drewN]); omega) (by repeat (first | assumption | exact Ext.refl _ | apply Ext.drewN | apply Ext.drew | apply Ext.alloc | (refine Ext.trans ?_ (by assumption)) | (refine Ext.set ?_ (by dsimp only; omega) _))))) hq) ?_; rintro e we ⟨rfl, m1, rfl⟩)
    go_wp2_with (go_at_call 18; refine Calls.mono (c_heldFloat32S (OwL.rd (OwL.ext hg0 (by (try simp only [al_size, size_drewN]); omega) (by repeat (first | assumption | exact Ext.refl _ | apply Ext.drewN | apply Ext.drew | apply Ext.alloc | (refine Ext.trans ?_ (by assumption)) | (refine Ext.set ?_ (by dsimp only; omega) _))))) hq (by decide)) ?_; rintro e wo ⟨rfl, rfl⟩)
    go_ret
    exact ⟨rfl, (by repeat (first | assumption | exact Ext.refl _ | apply Ext.drewN | apply Ext.drew | apply Ext.alloc | (refine Ext.trans ?_ (by assumption)) | (refine Ext.set ?_ (by dsimp only; omega) _)))⟩
set_option maxRecDepth 20000 in
open Go.ChangeShapes Go.WideShapes Go.ChangeAt Go.ChangeMaps in
theorem FnExactDropPredicted_holds : Rows.FnExactDropPredictedSaid :=
  OpenClaim.holds_of_wide 5 Try.f5 rfl rfl rfl rfl rfl rfl rfl ⟨rfl, rfl, rfl, rfl, rfl⟩ rfl rfl rfl rfl rfl (by kernel_rfl) Try.func5 (by kernel_rfl)
    (of_decide_eq_true (by kernel_rfl)) (by unfold Func.isWrapper; first | (rw [if_pos (by decide +kernel)]; kernel_rfl) | (rw [if_neg (by decide +kernel)]; exact ⟨rfl, rfl⟩))
    (fun os started H enc _ => law_lifted os started H enc 5 Try.f5 Rows.fnExactDropPredictedSpec (by kernel_rfl) Try.func5
      (ChangeSpec.witness6 (enc := enc) (C := Try.checked) false ⟨#[], #[.slice none 0 0, .int .i64 0, .int .i64 0, .float .f32 0], []⟩ 8 (by kernel_rfl) (by kernel_rfl) (by kernel_rfl) (by kernel_rfl))
      (by rw [Try.params5]; intro t ht; simp at ht; rcases ht with rfl | rfl | rfl <;> exact ⟨by kernel_rfl, of_decide_eq_true (by kernel_rfl)⟩) rfl 4 (by kernel_rfl) Try.underlying4
      (by intro ds hds; rw [Try.params5] at hds; match ds, hds with | [_, _, _, _], _ => rfl)
      (by
        intro W base args ds ps hval hA hlt
        rw [Try.params5] at hA hval
        obtain ⟨v0, v1, v2, v3, d0, d1, d2, d3, p0, p1, p2, p3, rfl, rfl, rfl, h0, h1, h2, h3⟩ := trodAll_four hA
        have o0 := open_floats Try.underlying22 Try.underlying28 cells_f32 (hval 0 22 v0 rfl rfl) h0 (fun x hx => hlt x (by simp [hx]))
        obtain ⟨a1, rfl, rfl, rfl, k1⟩ := open_int Try.underlying2 (hval 1 2 v1 rfl rfl) h1
        obtain ⟨a2, rfl, rfl, rfl, k2⟩ := open_int Try.underlying2 (hval 2 2 v2 rfl rfl) h2
        obtain ⟨a3, rfl, rfl, rfl, k3⟩ := open_float Try.underlying28 (hval 3 28 v3 rfl rfl) h3
        exact w_FnExactDropPredicted (w := W) o0 (wfi64 k1).1 (wfi64 k1).2 (wfi64 k2).1 (wfi64 k2).2 (wf32 k3)))

end Go.Proofs.Ytceldjkgddbfaab
