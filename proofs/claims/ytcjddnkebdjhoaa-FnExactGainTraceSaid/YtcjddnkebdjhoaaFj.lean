/- Contracts: traces that are as loud everywhere, on both sides. Condition: the list is read. -/
import Derived.Test.YtcjddnkebdjhoaaFh
import Derived.Test.YtcjddnkebdjhoaaWn
import Derived.Test.YtcjddnkebdjhoaaTp
namespace Go.Proofs.Ytcjddnkebdjhoaa
open Go.RowKit Ieee

/-- How loud d numbers are. -/
def floud (M : List (Option Nat)) (d : Nat) : Option Nat := froot (fop .quo .f32 (fsq M d) (some (mk d)))
def fwinl (L : List (Option Nat)) (lo d : Nat) : List (Option Nat) := lst (fun j => L.getD (lo + j) none) d
def fgainW (L : List (Option Nat)) (lo d k : Nat) : Option Nat := if fzero32 (floud (fwinl L lo d) d) then fz else fop .quo .f32 (L.getD k none) (floud (fwinl L lo d) d)
def fgain (L : List (Option Nat)) (n r k : Nat) : Option Nat := fgainW L (k - r) (min n (k + r + 1) - (k - r)) k
theorem fgain_is {L : List (Option Nat)} {n r k lo d : Nat} (h1 : lo = k - r) (h2 : lo + d = min n (k + r + 1)) : fgain L n r k = fgainW L lo d k := by
  unfold fgain; rw [← h1, show min n (k + r + 1) - lo = d by omega]
theorem fgainW_z {L : List (Option Nat)} {lo d k : Nat} (h : fzero32 (floud (fwinl L lo d) d) = true) : fgainW L lo d k = fz := by unfold fgainW; rw [if_pos h]
theorem fgainW_n {L : List (Option Nat)} {lo d k : Nat} (h : fzero32 (floud (fwinl L lo d) d) = false) : fgainW L lo d k = fop .quo .f32 (L.getD k none) (floud (fwinl L lo d) d) := by unfold fgainW; rw [if_neg (by rw [h]; decide)]
set_option maxRecDepth 20000 in
set_option maxHeartbeats 2000000 in
theorem c_loudnessOf {w : World} {B n c : Nat} {A : Option Addr} {L : List (Option Nat)} (h : RdF w B A n L) (h1 : 1 ≤ n) (h2 : n ≤ 128) (hc : n ≤ c) :
    Calls Try.prog 62 #[.slice A n c] w fun e w' => ∃ r, e = .returned (.float .f32 r) ∧ Fl .f32 r (floud L n) ∧ Dr w w' := by
  have hV := tlen_yes h1 h2
  have CE := Lib.hid (c_impl_EnergyOfTrace (w := w) h (by omega) hc)
  have hmn := mk_int n
  have fm := fl_mk n
  go_enter Try.func62, Try.ntmps62
  go_wp2_with (first | (go_at_call 85; refine Calls.mono CE.out ?_; rw [hV]; rintro e w1 ⟨r1, rfl, hr1, n1, rfl⟩) | (apply upon_fop rfl; (exact hr1); (exact fm); intro r2 n2 hr2) | (go_at_call 86; refine Calls.mono (c_RootNumber hr2 _) ?_; rintro e w3 ⟨r3, rfl, hr3, n3, rfl⟩))
  go_ret
  exact ⟨_, rfl, hr3, _, rfl⟩
theorem win_is {n k r : Nat} (hk : k < n) : ∃ lo d : Nat, lo = k - r ∧ lo + d = min n (k + r + 1) ∧ 0 < d ∧ lo + d ≤ n := ⟨k - r, min n (k + r + 1) - (k - r), rfl, by omega, by omega, by omega⟩
set_option maxRecDepth 20000 in
set_option maxHeartbeats 4000000 in
theorem c_gain1 {w : World} {B n c : Nat} {A : Option Addr} {L : List (Option Nat)} (h : RdF w B A n L) {k r : Nat} (hk : k < n) (hn : n ≤ 128) (hr : r ≤ 128) (hc : n ≤ c) {g : Nat} (hg : w.cell? ⟨g, 0, none⟩ = some (.int .i64 (r : Int))) :
    Calls Try.prog 61 #[.slice A n c, .int .i64 (k : Int), .pointer (some ⟨g, 0, none⟩)] w fun e w' => ∃ q, e = .returned (.float .f32 q) ∧ Fl .f32 q (fgain L n r k) ∧ Dr w w' := by
  obtain ⟨lo, d, w1, w2, w3, w4⟩ := win_is (r := r) hk
  have hG := fgain_is (L := L) w1 w2
  obtain ⟨b1, o1, t1, rfl, hb1, hc1, ht1⟩ := h.cell hk
  obtain ⟨i, hi⟩ : ∃ i : Int, i = (k : Int) - r := ⟨_, rfl⟩
  obtain ⟨j, hj⟩ : ∃ j : Int, j = (k : Int) + r + 1 := ⟨_, rfl⟩
  have cW := c_windowOf (w := w) (n := n) (c := c) (b := b1) (off := o1) (lo := lo) (d := d) (i := i) (j := j) (by omega) hc (by omega) (by omega) w3
  have cL := c_loudnessOf (w := w) (c := d) (h.sub w4) (by omega) (by omega) (Nat.le_refl _)
  have hwi : IntKind.i64.wrap i = i := IntWalk.i64_in _ (by omega)
  have hwj : IntKind.i64.wrap j = j := IntWalk.i64_in _ (by omega)
  have hwk : IntKind.i64.wrap ((k : Int) + r) = (k : Int) + r := IntWalk.i64_in _ (by omega)
  have hi2 : (k : Int) - r = i := hi.symm
  have hj2 : (k : Int) + r + 1 = j := hj.symm
  have hlt' : (k : Int) < (n : Int) := by omega
  have CW := Lib.hid cW
  have CL := Lib.hid cL
  have HG := Lib.hid hG
  clear cW cL hG w1 w2 w4 hi hj
  cases hZ : fzero32 (floud (fwinl L lo d) d)
  · have HZ := Lib.hid hZ
    have HQ := Lib.hid (fgainW_n (k := k) hZ)
    clear hZ
    go_enter Try.func61, Try.ntmps61
    go_wp2_with (first | (go_at_call 63; refine Calls.mono CW.out ?_; rintro e w1 ⟨rfl, rfl⟩) | (go_at_call 62; refine Calls.mono CL.out ?_; rintro e w2 ⟨r5, rfl, hr5, n5, rfl⟩; have hz5 := zero32 r5; rw [hr5.eq, show fzero32 (floud (lst (fun j => L.getD (lo + j) none) d) d) = false from HZ.out] at hz5) | (apply upon_fop rfl; (exact ht1); (exact hr5); intro r6 n6 hr6))
    go_ret
    exact ⟨_, rfl, by rw [HG.out, HQ.out]; exact hr6, _, rfl⟩
  · have HZ := Lib.hid hZ
    have HQ := Lib.hid (fgainW_z (k := k) hZ)
    clear hZ
    go_enter Try.func61, Try.ntmps61
    go_wp2_with (first | (go_at_call 63; refine Calls.mono CW.out ?_; rintro e w1 ⟨rfl, rfl⟩) | (go_at_call 62; refine Calls.mono CL.out ?_; rintro e w2 ⟨r5, rfl, hr5, n5, rfl⟩; have hz5 := zero32 r5; rw [hr5.eq, show fzero32 (floud (lst (fun j => L.getD (lo + j) none) d) d) = true from HZ.out] at hz5))
    go_ret
    exact ⟨_, rfl, by rw [HG.out, HQ.out]; exact fl_fz, _, rfl⟩
set_option maxRecDepth 20000 in
set_option maxHeartbeats 4000000 in
theorem c_shape_gain {w : World} {B n c : Nat} {A : Option Addr} {L : List (Option Nat)} (h : RdF w B A n L) (hB : B ≤ w.heap.size) (hn : n ≤ 1048576) (hcap : n ≤ c) {g rc : Nat} (hcg : w.cell? ⟨g, 0, none⟩ = some (.int .i64 (rc : Int))) (hgl : g < w.heap.size) (hr : rc ≤ 128) :
    Calls Try.prog 42 #[.slice A n c, .func (.func 61) #[] #[.pointer (some ⟨g, 0, none⟩)]] w fun e w' => RetL w e w' (tlen n) (lst (fgain L n rc) n) := by
  cases hV : tlen n
  · go_enter Try.func42, Try.ntmps42
    go_wp2_with ((go_at_call 40; refine Calls.mono (c_IsTrace _ _ _ _) ?_; rw [hV]; rintro e w1 ⟨rfl, rfl⟩))
    go_ret2
    exact retL_no rfl (by repeat (first | assumption | exact Ext.refl _ | apply Ext.drewN | apply Ext.drew | apply Ext.alloc | (refine Ext.trans ?_ (by assumption)) | (refine Ext.set ?_ (by dsimp only; omega) _)))
  have hmk := fun W => run_make_row' (P := Try.prog) 22 29 (.float .f32 0) 4 Try.underlying22 info_f32 rfl .i64 .i64 n (by omega) (by omega) W
  have hn8 := (tlen_of hV).2
  go_enter Try.func42, Try.ntmps42
  go_wp2_with ((go_at_call 40; refine Calls.mono (c_IsTrace _ _ _ _) ?_; rw [hV]; rintro e w1 ⟨rfl, rfl⟩))
  go_loopw [16] (fun i wr => ∃ (k : Nat) (cs : Array Value), k ≤ n ∧ i = .int .i64 k ∧ wr.heap[w.heap.size]? = some (.cells cs 29 (0, 0)) ∧ cs.size = n ∧ (∀ j, j < k → ∃ r, cs[j]? = some (.float .f32 r) ∧ Fl .f32 r ((fgain L n rc) j)) ∧ Ext w wr) (fun i _ => n - (intOf i).toNat)
  case atStart => exact ⟨0, _, Nat.zero_le _, rfl, heap_alloc_new _ _, size_madeCells _ _, fun j hj => absurd hj (Nat.not_lt_zero _), (by repeat (first | assumption | exact Ext.refl _ | apply Ext.drewN | apply Ext.drew | apply Ext.alloc | (refine Ext.trans ?_ (by assumption)) | (refine Ext.set ?_ (by dsimp only; omega) _)))⟩
  case round =>
    obtain ⟨k, cs, hk, rfl, hg, hsz, hxs, hx⟩ := hrel
    have HX := Lib.hid hxs
    have HG := Lib.hid hg
    have HS := Lib.hid hsz
    clear hxs hg hsz
    by_cases hlt : k < n
    · obtain ⟨u0, e0, z0⟩ := own_cell HG.out HS.out hlt
      have hlt' : (k : Int) < (n : Int) := by omega
      go_wp2_with (go_at_call 61; refine Calls.mono (c_gain1 (h.below (hx.mono hB)) hlt hn8 hr hcap ((hx.cell (p := ⟨g, 0, none⟩) hgl).trans hcg)) ?_; rintro e w5 ⟨r5, rfl, hr5, n5, rfl⟩)
      exact ⟨⟨k + 1, cs.setIfInBounds k (.float .f32 r5), by omega, by go_num, by exact blk_set1 (w := World.drewN wr _) HG.out k _, by rw [Array.size_setIfInBounds]; exact HS.out, pre_setF (F := (fgain L n rc)) (by have := HS.out; omega) HX.out hr5, (by repeat (first | assumption | exact Ext.refl _ | apply Ext.drewN | apply Ext.drew | apply Ext.alloc | (refine Ext.trans ?_ (by assumption)) | (refine Ext.set ?_ (by dsimp only; omega) _)))⟩, by simp [intOf]; omega⟩
    · obtain rfl : k = n := by omega
      have ho5 := own_lst HG.out HS.out HX.out
      go_wp2_with (fail)
      go_ret2
      exact ⟨_, _, _, rfl, ho5, hx⟩
def okGa (n : Nat) (i : Int) : Bool := tlen n && inB i 0 128
set_option maxRecDepth 20000 in
set_option maxHeartbeats 4000000 in
theorem c_impl_GainTrace {w : World} {B n c : Nat} {A : Option Addr} {L : List (Option Nat)} (h : RdF w B A n L) (hB : B ≤ w.heap.size) (hn : n ≤ 1048576) (hcap : n ≤ c) {i : Int} (_hi : -9223372036854775808 ≤ i) (_hj : i ≤ 9223372036854775807) :
    Calls Try.prog 30 #[.slice A n c, .int .i64 i] w fun e w' => RetL w e w' (okGa n i) (lst (fgain L n i.toNat) n) := by
  unfold okGa
  by_cases p1 : i < 0
  · rw [inB_lo p1, Bool.and_false]
    go_enter Try.func30, Try.ntmps30
    go_wp2_with (fail)
    go_ret2
    exact retL_no rfl (by repeat (first | assumption | exact Ext.refl _ | apply Ext.drewN | apply Ext.drew | apply Ext.alloc | (refine Ext.trans ?_ (by assumption)) | (refine Ext.set ?_ (by dsimp only; omega) _)))
  by_cases p2 : 128 < i
  · rw [inB_hi p2, Bool.and_false]
    go_enter Try.func30, Try.ntmps30
    go_wp2_with (fail)
    go_ret2
    exact retL_no rfl (by repeat (first | assumption | exact Ext.refl _ | apply Ext.drewN | apply Ext.drew | apply Ext.alloc | (refine Ext.trans ?_ (by assumption)) | (refine Ext.set ?_ (by dsimp only; omega) _)))
  rw [inB_yes (by omega) (by omega), Bool.and_true]
  obtain ⟨rc, rfl⟩ : ∃ rc : Nat, i = (rc : Int) := ⟨i.toNat, by omega⟩
  rw [Int.toNat_natCast]
  have hr : rc ≤ 128 := by omega
  have cS := fun (W : World) (g : Nat) (hW : Ext w W) (hg : W.cell? ⟨g, 0, none⟩ = some (.int .i64 (rc : Int))) (hgl : g < W.heap.size) => c_shape_gain (w := W) (c := c) (h.below (hW.mono hB)) (Nat.le_trans hB hW.size) hn hcap hg hgl hr
  have CS := Lib.hid cS
  have hnew : (w.alloc (.cells #[.int .i64 (rc : Int)] 2)).cell? ⟨w.heap.size, 0, none⟩ = some (.int .i64 (rc : Int)) := cell1' (heap_alloc_new w _)
  clear cS
  go_enter Try.func30, Try.ntmps30
  go_wp2_with (go_at_call 42; refine Calls.mono (CS.out _ _ (by repeat (first | assumption | exact Ext.refl _ | apply Ext.drewN | apply Ext.drew | apply Ext.alloc | (refine Ext.trans ?_ (by assumption)) | (refine Ext.set ?_ (by dsimp only; omega) _))) hnew (by simp)) ?_; rintro e w5 hret; obtain ⟨A5, n5, c5, rfl, ho, hx5⟩ := RetL.from (w := w) hret (by repeat (first | assumption | exact Ext.refl _ | apply Ext.drewN | apply Ext.drew | apply Ext.alloc | (refine Ext.trans ?_ (by assumption)) | (refine Ext.set ?_ (by dsimp only; omega) _))))
  go_ret2
  exact ⟨_, _, _, rfl, ho, hx5⟩
set_option maxRecDepth 20000 in
set_option maxHeartbeats 8000000 in
theorem c_spec_GainTrace {w : World} {B n c : Nat} {A : Option Addr} {L : List (Option Nat)} (h : RdF w B A n L) (hB : B ≤ w.heap.size) (hn : n ≤ 1048576) (hcap : n ≤ c) {i : Int} (_hi : -9223372036854775808 ≤ i) (_hj : i ≤ 9223372036854775807) :
    Calls Try.prog 29 #[.slice A n c, .int .i64 i] w fun e w' => RetL w e w' (okGa n i) (lst (fgain L n i.toNat) n) := by
  unfold okGa
  cases hV : tlen n
  · go_enter Try.func29, Try.ntmps29
    go_wp2_with (go_at_call 37; refine Calls.mono (c_l03Is _ _ _ _) ?_; rw [hV]; rintro e w1 ⟨rfl, rfl⟩)
    go_ret2
    exact retL_no rfl (by repeat (first | assumption | exact Ext.refl _ | apply Ext.drewN | apply Ext.drew | apply Ext.alloc | (refine Ext.trans ?_ (by assumption)) | (refine Ext.set ?_ (by dsimp only; omega) _)))
  rw [Bool.true_and]
  cases hI : inB i 0 128
  · go_enter Try.func29, Try.ntmps29
    go_wp2_with (first | (go_at_call 37; refine Calls.mono (c_l03Is _ _ _ _) ?_; rw [hV]; rintro e w1 ⟨rfl, rfl⟩) | (go_at_call 38; refine Calls.mono (c_l00In _ _ _ _) ?_; rw [hI]; rintro e w1 ⟨rfl, rfl⟩))
    go_ret2
    exact retL_no rfl (by repeat (first | assumption | exact Ext.refl _ | apply Ext.drewN | apply Ext.drew | apply Ext.alloc | (refine Ext.trans ?_ (by assumption)) | (refine Ext.set ?_ (by dsimp only; omega) _)))
  obtain ⟨p1, p2⟩ := inB_of hI
  obtain ⟨rc, rfl⟩ : ∃ rc : Nat, i = (rc : Int) := ⟨i.toNat, by omega⟩
  rw [Int.toNat_natCast]
  have hr : rc ≤ 128 := by omega
  have hn8 := (tlen_of hV).2
  clear p1 p2
  obtain ⟨i0, hi, hz0, hz1, hz2⟩ := info_parts info_f32
  go_enter Try.func29, Try.ntmps29
  go_wp2_with (first | (go_at_call 37; refine Calls.mono (c_l03Is _ _ _ _) ?_; rw [hV]; rintro e w1 ⟨rfl, rfl⟩) | (go_at_call 38; refine Calls.mono (c_l00In _ _ _ _) ?_; rw [hI]; rintro e w1 ⟨rfl, rfl⟩))
  go_loopw [6, 22] (fun v y wr => ∃ (k : Nat) (xs : List Value), k ≤ n ∧ y = .int .i64 k ∧ wr.ownsRow w.heap.size 29 1 v k xs ∧ (∀ j, j < k → ∃ r, xs[j]? = some (.float .f32 r) ∧ Fl .f32 r ((fgain L n rc) j)) ∧ Ext w wr) (fun _ y _ => n - (intOf y).toNat)
  case atStart => exact ⟨0, [], Nat.zero_le _, rfl, World.ownsRow_made _ _ 0 (Nat.le_refl _) (Nat.zero_le _) rfl, fun j hj => absurd hj (Nat.not_lt_zero _), (by repeat (first | assumption | exact Ext.refl _ | apply Ext.drewN | apply Ext.drew | apply Ext.alloc | (refine Ext.trans ?_ (by assumption)) | (refine Ext.set ?_ (by dsimp only; omega) _)))⟩
  case round =>
    obtain ⟨k, xs, hk, rfl, hown, hxs, hx⟩ := hrel
    have HX : Hid (∀ j, j < k → ∃ r, xs[j]? = some (.float .f32 r) ∧ Fl .f32 r (fgain L n rc j)) := Lib.hid hxs
    have HO := Lib.hid hown
    clear hxs hown
    by_cases hlt : k < n
    · have hlt' : (k : Int) < (n : Int) := by omega
      obtain ⟨lo, d, w1, w2, w3, w4⟩ := win_is (r := rc) hlt
      have hG := fgain_is (L := L) w1 w2
      have hO3 := h.below (hx.mono hB)
      obtain ⟨b1, o1, t1, rfl, hb1, hc1, ht1⟩ := hO3.cell hlt
      obtain ⟨i, hi'⟩ : ∃ i : Int, i = (k : Int) - rc := ⟨_, rfl⟩
      obtain ⟨j, hj'⟩ : ∃ j : Int, j = (k : Int) + rc + 1 := ⟨_, rfl⟩
      obtain ⟨hh, hhe⟩ : ∃ hh, lo + d = hh := ⟨_, rfl⟩
      have cX : ∀ W, Calls Try.prog 57 #[.int .i64 0, .int .i64 i] W fun e w' => e = .returned (.int .i64 (lo : Int)) ∧ W = w' := fun W => by
        have := c_l00Max 0 i W
        rw [show (if i < 0 then (0 : Int) else i) = (lo : Int) by split <;> omega] at this
        exact this
      have cN : ∀ W, Calls Try.prog 58 #[.int .i64 (n : Int), .int .i64 j] W fun e w' => e = .returned (.int .i64 (hh : Int)) ∧ W = w' := fun W => by
        have := c_l00Min (n : Int) j W
        rw [show (if (n : Int) < j then (n : Int) else j) = (hh : Int) by split <;> omega] at this
        exact this
      have cE := c_l03Energy (w := wr) (c := c - lo) (hO3.sub w4) (by omega)
      have hwi : IntKind.i64.wrap i = i := IntWalk.i64_in _ (by omega)
      have hwj : IntKind.i64.wrap j = j := IntWalk.i64_in _ (by omega)
      have hwk : IntKind.i64.wrap ((k : Int) + rc) = (k : Int) + rc := IntWalk.i64_in _ (by omega)
      have hwd : IntKind.i64.wrap (d : Int) = (d : Int) := IntWalk.i64_in _ (by omega)
      have hi2 : (k : Int) - rc = i := hi'.symm
      have hj2 : (k : Int) + rc + 1 = j := hj'.symm
      have l1 : (lo : Int) ≤ (hh : Int) := by omega
      have l7 : (hh : Int) - (lo : Int) = (d : Int) := by omega
      have l6 : (0 : Int) ≤ (lo : Int) := by omega
      have l5 : lo ≤ hh := by omega
      have l3 : (hh : Int) ≤ (c : Int) := by omega
      have l4 : hh ≤ c := by omega
      have l8 : lo < c := by omega
      have l9 : ¬ lo = c := by omega
      have hsub : hh - lo = d := by omega
      have hmn := mk_int d
      have fm := fl_mk d
      have CX := Lib.hid cX
      have CN := Lib.hid cN
      have CE := Lib.hid cE
      have HGG := Lib.hid hG
      clear cX cN cE hG w1 w2 w4 hi' hj' hhe
      cases hZ : fzero32 (floud (fwinl L lo d) d)
      · have HZ := Lib.hid hZ
        have HQ := Lib.hid (fgainW_n (k := k) hZ)
        clear hZ
        have hown := HO.out
        go_wp2_with (first | (go_at_call 57; refine Calls.mono (CX.out _) ?_; rintro e w1 ⟨rfl, rfl⟩) | (go_at_call 58; refine Calls.mono (CN.out _) ?_; rintro e w1 ⟨rfl, rfl⟩) | (go_at_call 60; refine Calls.mono CE.out ?_; rintro e w2 ⟨r2, rfl, hr2, n2, rfl⟩) | (apply upon_fop rfl; (exact hr2); (exact fm); intro r3 n3 hr3) | (go_at_call 59; refine Calls.mono (c_l01Sqrt hr3 _) ?_; rintro e w4 ⟨r5, rfl, hr5, n5, rfl⟩; have hz5 := zero32 r5; rw [hr5.eq, show fzero32 (froot (fop .quo .f32 (fsq (lst (fun j => L.getD (lo + j) none) d) d) (some (mk d)))) = false from HZ.out] at hz5) | (apply upon_fop rfl; (exact ht1); (exact hr5); intro r6 n6 hr6) | (at_builtin; refine wpList_append_own _ rfl _ _ 22 rfl w.heap.size 29 i0 (.float .f32 0) 1 4 Try.underlying22 hi hz0 hz1 hz2 rfl (by decide) _ _ _ rfl (World.ownsRow.alloc (w := wr.drewN _) hown _) ⟨wr.heap.size, 0, none⟩ 1 1 [.float .f32 r6] rfl rfl ?_ ?_ ?_ ?_ ?_ ?_))
        all_goals first
          | exact one_new (w := wr.drewN _)
          | (intro j0 u hj0; have h0 := one_new (w := wr.drewN _) j0 u hj0; have e0 : (⟨(wr.drewN _).heap.size, 0, none⟩ : Addr).add j0 = ⟨wr.heap.size, j0, none⟩ := (by rw [show (wr.drewN _).heap.size = wr.heap.size from rfl]; simp [Addr.add]; first | done | (intros; omega)); rw [e0] at h0; exact h0)
          | rfl
          | (intro u hu; simp at hu; subst hu; rfl)
          | (unfold maxLen; omega)
          | omega
          | (have := hx.size; simp; omega)
          | (intro v' w4 hown' hgrow _
             have hl' : xs.length = k := by have := hown.1; omega
             have hx' : Ext w w4 := grown_ext (Ext.alloc (Ext.drewN hx _) _) (World.ownsRow.alloc (w := wr.drewN _) hown _) hgrow
             have HXX := Lib.hid (row_step hl' HX.out (by rw [HGG.out, HQ.out]; exact hr6))
             clear hown hgrow hx
             go_wp2_with (fail)
             exact ⟨⟨k + 1, _, by omega, by go_num, hown', HXX.out, hx'⟩, by simp [intOf]; omega⟩)
      · have HZ := Lib.hid hZ
        have HQ := Lib.hid (fgainW_z (k := k) hZ)
        clear hZ
        have hown := HO.out
        go_wp2_with (first | (go_at_call 57; refine Calls.mono (CX.out _) ?_; rintro e w1 ⟨rfl, rfl⟩) | (go_at_call 58; refine Calls.mono (CN.out _) ?_; rintro e w1 ⟨rfl, rfl⟩) | (go_at_call 60; refine Calls.mono CE.out ?_; rintro e w2 ⟨r2, rfl, hr2, n2, rfl⟩) | (apply upon_fop rfl; (exact hr2); (exact fm); intro r3 n3 hr3) | (go_at_call 59; refine Calls.mono (c_l01Sqrt hr3 _) ?_; rintro e w4 ⟨r5, rfl, hr5, n5, rfl⟩; have hz5 := zero32 r5; rw [hr5.eq, show fzero32 (froot (fop .quo .f32 (fsq (lst (fun j => L.getD (lo + j) none) d) d) (some (mk d)))) = true from HZ.out] at hz5) | (at_builtin; refine wpList_append_own _ rfl _ _ 22 rfl w.heap.size 29 i0 (.float .f32 0) 1 4 Try.underlying22 hi hz0 hz1 hz2 rfl (by decide) _ _ _ rfl (World.ownsRow.alloc (w := wr.drewN _) hown _) ⟨wr.heap.size, 0, none⟩ 1 1 [.float .f32 0] rfl rfl ?_ ?_ ?_ ?_ ?_ ?_))
        all_goals first
          | exact one_new (w := wr.drewN _)
          | (intro j0 u hj0; have h0 := one_new (w := wr.drewN _) j0 u hj0; have e0 : (⟨(wr.drewN _).heap.size, 0, none⟩ : Addr).add j0 = ⟨wr.heap.size, j0, none⟩ := (by rw [show (wr.drewN _).heap.size = wr.heap.size from rfl]; simp [Addr.add]; first | done | (intros; omega)); rw [e0] at h0; exact h0)
          | rfl
          | (intro u hu; simp at hu; subst hu; rfl)
          | (unfold maxLen; omega)
          | omega
          | (have := hx.size; simp; omega)
          | (intro v' w4 hown' hgrow _
             have hl' : xs.length = k := by have := hown.1; omega
             have hx' : Ext w w4 := grown_ext (Ext.alloc (Ext.drewN hx _) _) (World.ownsRow.alloc (w := wr.drewN _) hown _) hgrow
             have HXX := Lib.hid (row_step hl' HX.out (r := 0) (by rw [HGG.out, HQ.out]; exact fl_fz))
             clear hown hgrow hx
             go_wp2_with (fail)
             exact ⟨⟨k + 1, _, by omega, by go_num, hown', HXX.out, hx'⟩, by simp [intOf]; omega⟩)
    · obtain rfl : k = n := by omega
      have ho4 : OwF wr w.heap.size _ k (fgain L k rc) := ⟨xs, HO.out, HX.out⟩
      obtain ⟨A4, c4, rfl, ho5⟩ := ho4.owl
      go_wp2_with (fail)
      go_ret2
      exact ⟨_, _, _, rfl, ho5, hx⟩
theorem both_GainTrace {n0 : Nat} {L0 : List (Option Nat)} (_hl0 : L0.length = n0) (hn0 : n0 ≤ 1048576) {i1 : Int} (hi1 : -9223372036854775808 ≤ i1) (hj1 : i1 ≤ 9223372036854775807) :
    ∃ ok Q q, q ≤ 1048576 ∧ (∀ W : World, ∀ (B0 : Nat) (A0 : Option Addr) (c0 : Nat), RdF W B0 A0 n0 L0 → B0 ≤ W.heap.size → n0 ≤ c0 → Calls Try.prog 29 #[.slice A0 n0 c0, .int .i64 i1] W fun e w' => RetQ W e w' ok q Q) ∧
      (∀ W : World, ∀ (B0 : Nat) (A0 : Option Addr) (c0 : Nat), RdF W B0 A0 n0 L0 → B0 ≤ W.heap.size → n0 ≤ c0 → Calls Try.prog 30 #[.slice A0 n0 c0, .int .i64 i1] W fun e w' => RetQ W e w' ok q Q) :=
  ⟨okGa n0 i1, outL (okGa n0 i1) (lst (fgain L0 n0 i1.toNat) n0), (outL (okGa n0 i1) (lst (fgain L0 n0 i1.toNat) n0)).length, Nat.le_trans (outL_len _ _) (by rw [lst_len]; omega),
    fun W _ _ _ h0 hB0 hc0 => Calls.mono (c_spec_GainTrace (w := W) h0 hB0 hn0 hc0 hi1 hj1) (fun _ _ hr => hr.q), fun W _ _ _ h0 hB0 hc0 => Calls.mono (c_impl_GainTrace (w := W) h0 hB0 hn0 hc0 hi1 hj1) (fun _ _ hr => hr.q)⟩

end Go.Proofs.Ytcjddnkebdjhoaa
