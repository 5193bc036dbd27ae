/- Contracts: noise, on both sides. No condition. -/
import Derived.Test.YthgmkipifolbfabTx
import Derived.Test.YthgmkipifolbfabTr
namespace Go.Proofs.Ythgmkipifolbfab
open Go.RowKit Ieee

/-- Noise that is returned, with the seed then, and its success. -/
def RetN (w : World) (e : Ending) (w' : World) (ok : Bool) (q : Nat) (Q : List (Option Nat)) (z : Int) : Prop :=
  ∃ A c, e = .returned (.tuple #[.slice A q c, .int .i64 z, .bool ok]) ∧ OwL w' w.heap.size w'.heap.size A q Q ∧ Ext w w'
def okN (i d : Int) : Bool := inB i 0 2147483647 && inB d 1 128
def seedN (i d : Int) : Int := if okN i d then nseed i d.toNat else 0
theorem seedN_yes {i d : Int} (h : okN i d = true) : seedN i d = nseed i d.toNat := by unfold seedN; rw [h]; rfl
theorem seedN_no {i d : Int} (h : okN i d = false) : seedN i d = 0 := by unfold seedN; rw [h]; rfl
theorem retN_no {w w' : World} {M : List (Option Nat)} {i d : Int} (hf : okN i d = false) (hx : Ext w w') : RetN w (.returned (.tuple #[.slice none 0 0, .int .i64 0, .bool false])) w' false (outL false M).length (outL false M) (seedN i d) := by
  rw [seedN_no hf]; exact ⟨none, 0, rfl, OwL.nil _ _ _ _, hx⟩
theorem retN_yes {w w' : World} {A : Option Addr} {i : Int} {n c : Nat} {F : Nat → Option Nat} (hf : okN i n = true) (ho : OwL w' w.heap.size w'.heap.size A n (lst F n)) (hx : Ext w w') :
    RetN w (.returned (.tuple #[.slice A n c, .int .i64 (nseed i n), .bool true])) w' true (outL true (lst F (n : Int).toNat)).length (outL true (lst F (n : Int).toNat)) (seedN i n) := by
  rw [seedN_yes hf, Int.toNat_natCast]
  refine ⟨A, c, ?_, ?_, hx⟩
  · show _ = Ending.returned (.tuple #[.slice A (lst F n).length c, _, _]); rw [lst_len]
  · show OwL w' w.heap.size w'.heap.size A (lst F n).length (lst F n); rw [lst_len]; exact ho

set_option maxRecDepth 20000 in
set_option maxHeartbeats 4000000 in
theorem c_l03Noise {w : World} {i : Int} (g1 : 0 ≤ i) (g2 : i ≤ 2147483647) {n : Nat} (hn : n ≤ 128) {p : Nat} {P : Option Nat} (fp : Fl .f32 p P) :
    Calls Try.prog 68 #[.int .i64 i, .int .i64 (n : Int), .float .f32 p] w fun e w' => ∃ v, e = .returned (.tuple #[v, .int .i64 (nseed i n)]) ∧ OwF w' w.heap.size v n (fnoise i P) ∧ Ext w w' := by
  obtain ⟨i0, hi, hz0, hz1, hz2⟩ := info_parts info_f32
  go_enter Try.func68, Try.ntmps68
  go_wp2_with (fail)
  go_loopw [0, 1, 8] (fun s c v wr => ∃ (k : Nat) (xs : List Value), k ≤ n ∧ s = .int .i64 (nseed i k) ∧ c = .int .i64 ((n : Int) - k) ∧ wr.ownsRow w.heap.size 29 1 v k xs ∧ (∀ j, j < k → ∃ r, xs[j]? = some (.float .f32 r) ∧ Fl .f32 r (fnoise i P j)) ∧ Ext w wr) (fun _ c _ _ => (intOf c).toNat)
  case atStart => exact ⟨0, [], Nat.zero_le _, rfl, by simp, World.ownsRow_made _ _ 0 (Nat.le_refl _) (Nat.zero_le _) rfl, fun j hj => absurd hj (Nat.not_lt_zero _), (by repeat (first | assumption | exact Ext.refl _ | apply Ext.drewN | apply Ext.drew | apply Ext.alloc | (refine Ext.trans ?_ (by assumption)) | (refine Ext.set ?_ (by dsimp only; omega) _)))⟩
  case round =>
    obtain ⟨k, xs, hk, rfl, rfl, hown, hxs, hx⟩ := hrel
    have HX := Lib.hid hxs
    clear hxs
    by_cases hlt : k < n
    · have hlt' : (0 : Int) < (n : Int) - (k : Int) := by omega
      have hz0 := (nseed_in g1 g2 k)
      have hz1 := (nseed_in g1 g2 (k + 1))
      have hzs : nseed i (k + 1) = (1103515245 * nseed i k + 12345).tmod 2147483648 := (Int.tmod_eq_emod_of_nonneg (by omega)).symm
      have hzd : (nseed i (k + 1)).tdiv 65536 = nseed i (k + 1) / 65536 := Int.tdiv_eq_ediv_of_nonneg hz1.1
      obtain ⟨d', hd'⟩ : ∃ d' : Nat, nseed i (k + 1) / 65536 = (d' : Int) := ⟨(nseed i (k + 1) / 65536).toNat, by omega⟩
      have hdlt : d' < 32768 := by omega
      have HF : fnoise i P k = fop .mul .f32 P (fop .quo .f32 (fint ((d' : Int) - 16384)) f16384) := by unfold fnoise; rw [hd']
      have HT := Lib.hid HF
      rw [hd'] at hzd
      clear HF hd'
      generalize hk1 : nseed i (k + 1) = z1 at hzs hzd hz1
      generalize hk0 : nseed i k = z0 at hzs hz0
      obtain ⟨y1, y2⟩ := hz0
      obtain ⟨y3, y4⟩ := hz1
      have hzs' := hzs.symm
      clear hzs
      have HK0 := Lib.hid hk0
      have HK1 := Lib.hid hk1
      clear hk0 hk1
      go_wp2_with (first | (apply upon_fop rfl; (exact (fl_fint _)); (exact fl_16384); intro r4 n4 hr4) | (apply upon_fop rfl; (exact fp); (exact hr4); intro r5 n5 hr5; rw [← HT.out] at hr5) | (at_builtin; refine wpList_append_own _ rfl _ _ 22 rfl w.heap.size 29 i0 (.float .f32 0) 1 4 Try.underlying22 hi hz0 hz1 hz2 rfl (by decide) _ _ _ rfl (World.ownsRow.alloc (w := wr.drewN _) hown _) ⟨wr.heap.size, 0, none⟩ 1 1 [.float .f32 r5] rfl rfl ?_ ?_ ?_ ?_ ?_ ?_))
      all_goals first
        | exact one_new (w := wr.drewN _)
        | (intro u hu; simp at hu; subst hu; rfl)
        | (unfold maxLen; omega)
        | omega
        | (have := hx.size; simp; omega)
        | (intro v' w4 hown' hgrow _
           have hl' : xs.length = k := by have := hown.1; omega
           have hx' : Ext w w4 := grown_ext (Ext.alloc (Ext.drewN hx _) _) (World.ownsRow.alloc (w := wr.drewN _) hown _) hgrow
           have HXX := Lib.hid (row_step hl' HX.out hr5)
           clear hown hgrow hx
           go_wp2_with (fail)
           exact ⟨⟨k + 1, _, by omega, by rw [HK1.out], by congr 1; omega, hown', HXX.out, hx'⟩, by simp [intOf]; omega⟩)
    · obtain rfl : k = n := by omega
      have hlt' : ¬ (0 : Int) < (k : Int) - (k : Int) := by omega
      go_wp2_with (fail)
      go_ret2
      exact ⟨_, rfl, ⟨xs, hown, HX.out⟩, hx⟩

set_option maxRecDepth 20000 in
set_option maxHeartbeats 4000000 in
theorem c_spec_NoiseTrace {w : World} {i : Int} (_hi0 : -9223372036854775808 ≤ i) (_hi1 : i ≤ 9223372036854775807) {d : Int} (_hd0 : -9223372036854775808 ≤ d) (_hd1 : d ≤ 9223372036854775807) {p : Nat} {P : Option Nat} (fp : Fl .f32 p P) :
    Calls Try.prog 35 #[.int .i64 i, .int .i64 d, .float .f32 p] w fun e w' => RetN w e w' (okN i d) (outL (okN i d) (lst (fnoise i P) d.toNat)).length (outL (okN i d) (lst (fnoise i P) d.toNat)) (seedN i d) := by
  cases hV : okN i d
  · cases hA : inB i 0 2147483647
    · go_enter Try.func35, Try.ntmps35
      go_wp2_with (go_at_call 54; refine Calls.mono (c_l00In _ _ _ _) ?_; rw [hA]; rintro e w1 ⟨rfl, rfl⟩)
      go_ret3
      exact retN_no hV (by repeat (first | assumption | exact Ext.refl _ | apply Ext.drewN | apply Ext.drew | apply Ext.alloc | (refine Ext.trans ?_ (by assumption)) | (refine Ext.set ?_ (by dsimp only; omega) _)))
    · have hB : inB d 1 128 = false := by unfold okN at hV; rw [hA, Bool.true_and] at hV; exact hV
      go_enter Try.func35, Try.ntmps35
      go_wp2_with (first | (go_at_call 54; refine Calls.mono (c_l00In _ _ _ _) ?_; rw [hA]; rintro e w1 ⟨rfl, rfl⟩) | (go_at_call 54; refine Calls.mono (c_l00In _ _ _ _) ?_; rw [hB]; rintro e w1 ⟨rfl, rfl⟩))
      go_ret3
      exact retN_no hV (by repeat (first | assumption | exact Ext.refl _ | apply Ext.drewN | apply Ext.drew | apply Ext.alloc | (refine Ext.trans ?_ (by assumption)) | (refine Ext.set ?_ (by dsimp only; omega) _)))
  have hV2 := hV
  unfold okN at hV2
  rw [Bool.and_eq_true] at hV2
  obtain ⟨hA, hB⟩ := hV2
  obtain ⟨g1, g2⟩ := inB_of hA
  obtain ⟨g3, g4⟩ := inB_of hB
  obtain ⟨n, rfl⟩ : ∃ n : Nat, d = (n : Int) := ⟨d.toNat, by omega⟩
  have HV := Lib.hid hV
  clear hV
  go_enter Try.func35, Try.ntmps35
  go_wp2_with (first | (go_at_call 54; refine Calls.mono (c_l00In _ _ _ _) ?_; rw [hA]; rintro e w1 ⟨rfl, rfl⟩) | (go_at_call 54; refine Calls.mono (c_l00In _ _ _ _) ?_; rw [hB]; rintro e w1 ⟨rfl, rfl⟩) | (go_at_call 68; refine Calls.mono (c_l03Noise g1 g2 (by omega) fp) ?_; rintro e w2 ⟨v, rfl, ho, hx2⟩; obtain ⟨A2, c2, rfl, ho2⟩ := ho.owl))
  go_ret3
  exact retN_yes HV.out ho2 hx2

set_option maxRecDepth 20000 in
set_option maxHeartbeats 4000000 in
theorem c_impl_NoiseTrace {w : World} {i : Int} (_hi0 : -9223372036854775808 ≤ i) (_hi1 : i ≤ 9223372036854775807) {d : Int} (_hd0 : -9223372036854775808 ≤ d) (_hd1 : d ≤ 9223372036854775807) {p : Nat} {P : Option Nat} (fp : Fl .f32 p P) :
    Calls Try.prog 36 #[.int .i64 i, .int .i64 d, .float .f32 p] w fun e w' => RetN w e w' (okN i d) (outL (okN i d) (lst (fnoise i P) d.toNat)).length (outL (okN i d) (lst (fnoise i P) d.toNat)) (seedN i d) := by
  cases hV : okN i d
  · cases hA : inB i 0 2147483647
    · rcases inB_not hA with hw | hw
      · go_enter Try.func36, Try.ntmps36
        go_wp2_with (fail)
        go_ret3
        exact retN_no hV (Ext.refl _)
      · have j1 : ¬ i < 0 := by omega
        have j2 : (2147483648 : Int) ≤ i := by omega
        go_enter Try.func36, Try.ntmps36
        go_wp2_with (fail)
        go_ret3
        exact retN_no hV (Ext.refl _)
    · have hB : inB d 1 128 = false := by unfold okN at hV; rw [hA, Bool.true_and] at hV; exact hV
      obtain ⟨g1, g2⟩ := inB_of hA
      have j1 : ¬ i < 0 := by omega
      have j2 : ¬ (2147483648 : Int) ≤ i := by omega
      go_enter Try.func36, Try.ntmps36
      go_wp2_with (go_at_call 55; refine Calls.mono (c_isTraceLength _ _) ?_; rw [hB]; rintro e w1 ⟨rfl, rfl⟩)
      go_ret3
      exact retN_no hV (Ext.refl _)
  have hV2 := hV
  unfold okN at hV2
  rw [Bool.and_eq_true] at hV2
  obtain ⟨hA, hB⟩ := hV2
  obtain ⟨g1, g2⟩ := inB_of hA
  obtain ⟨g3, g4⟩ := inB_of hB
  obtain ⟨n, rfl⟩ : ∃ n : Nat, d = (n : Int) := ⟨d.toNat, by omega⟩
  have HV := Lib.hid hV
  clear hV
  have j1 : ¬ i < 0 := by omega
  have j2 : ¬ (2147483648 : Int) ≤ i := by omega
  have hmk := fun W => run_make_row' (P := Try.prog) 22 29 (.float .f32 0) 4 Try.underlying22 info_f32 rfl .i64 .i64 n (by omega) (by omega) W
  go_enter Try.func36, Try.ntmps36
  go_wp2_with (go_at_call 55; refine Calls.mono (c_isTraceLength _ _) ?_; rw [hB]; rintro e w1 ⟨rfl, rfl⟩)
  go_loopw [0, 27] (fun s x wr => ∃ (k : Nat) (cs : Array Value), k ≤ n ∧ x = .int .i64 k ∧ s = .int .i64 (nseed i k) ∧ wr.heap[w.heap.size]? = some (.cells cs 29 (0, 0)) ∧ cs.size = n ∧ (∀ j, j < k → ∃ r, cs[j]? = some (.float .f32 r) ∧ Fl .f32 r (fnoise i P j)) ∧ Ext w wr) (fun _ x _ => n - (intOf x).toNat)
  case atStart => exact ⟨0, _, Nat.zero_le _, rfl, rfl, heap_alloc_new _ _, size_madeCells _ _, fun j hj => absurd hj (Nat.not_lt_zero _), (by repeat (first | assumption | exact Ext.refl _ | apply Ext.drewN | apply Ext.drew | apply Ext.alloc | (refine Ext.trans ?_ (by assumption)) | (refine Ext.set ?_ (by dsimp only; omega) _)))⟩
  case round =>
    obtain ⟨k, cs, hk, rfl, rfl, hg, hsz, hxs, hx⟩ := hrel
    have HX := Lib.hid hxs
    have HG := Lib.hid hg
    have HS := Lib.hid hsz
    clear hxs hg hsz
    by_cases hlt : k < n
    · obtain ⟨u0, e0, z0'⟩ := own_cell HG.out HS.out hlt
      have hlt' : (k : Int) < (n : Int) := by omega
      have hz0 := (nseed_in g1 g2 k)
      have hz1 := (nseed_in g1 g2 (k + 1))
      have hzs : nseed i (k + 1) = (1103515245 * nseed i k + 12345).tmod 2147483648 := (Int.tmod_eq_emod_of_nonneg (by omega)).symm
      have hzd : (nseed i (k + 1)).tdiv 65536 = nseed i (k + 1) / 65536 := Int.tdiv_eq_ediv_of_nonneg hz1.1
      obtain ⟨d', hd'⟩ : ∃ d' : Nat, nseed i (k + 1) / 65536 = (d' : Int) := ⟨(nseed i (k + 1) / 65536).toNat, by omega⟩
      have hdlt : d' < 32768 := by omega
      have HF : fnoise i P k = fop .mul .f32 P (fop .quo .f32 (fint ((d' : Int) - 16384)) f16384) := by unfold fnoise; rw [hd']
      have HT := Lib.hid HF
      rw [hd'] at hzd
      clear HF hd'
      generalize hk1 : nseed i (k + 1) = z1 at hzs hzd hz1
      generalize hk0 : nseed i k = z0 at hzs hz0
      obtain ⟨y1, y2⟩ := hz0
      obtain ⟨y3, y4⟩ := hz1
      have hzs' := hzs.symm
      clear hzs
      have HK0 := Lib.hid hk0
      have HK1 := Lib.hid hk1
      clear hk0 hk1
      go_wp2_with (first | (apply upon_fop rfl; (exact (fl_fint _)); (exact fl_16384); intro r3 n3 hr3; rw [sub_16384 _ hdlt] at hr3) | (apply upon_fop rfl; (exact hr3); (exact fl_16384); intro r4 n4 hr4) | (go_at_call 53; refine Calls.mono (c_mulNumbers fp hr4 _) ?_; rw [← HT.out]; rintro e w_r5 ⟨r5, rfl, hr5, nr5, rfl⟩))
      clear y1 y2 y3 y4 g1 g2 j2 hzs' hzd hA hdlt _hi0 _hi1 _hd0 _hd1
      exact ⟨⟨k + 1, cs.setIfInBounds k (.float .f32 r5), by omega, by go_num, by rw [HK1.out], by exact blk_set1 (w := World.drewN wr _) HG.out k _, by rw [Array.size_setIfInBounds]; exact HS.out, pre_setF (F := fnoise i P) (by have := HS.out; omega) HX.out hr5, (by repeat (first | assumption | exact Ext.refl _ | apply Ext.drewN | apply Ext.drew | apply Ext.alloc | (refine Ext.trans ?_ (by assumption)) | (refine Ext.set ?_ (by dsimp only; omega) _)))⟩, by simp [intOf]; omega⟩
    · obtain rfl : k = n := by omega
      have ho5 := own_lst HG.out HS.out HX.out
      go_wp2_with (fail)
      go_ret3
      exact retN_yes HV.out ho5 hx

theorem both_NoiseTrace {i0 : Int} (h00 : -9223372036854775808 ≤ i0) (h01 : i0 ≤ 9223372036854775807) {i1 : Int} (h10 : -9223372036854775808 ≤ i1) (h11 : i1 ≤ 9223372036854775807) {p : Nat} {P : Option Nat} (fp : Fl .f32 p P) :
    ∃ ok Q q, q ≤ 1048576 ∧ (∀ W : World, Calls Try.prog 35 #[.int .i64 i0, .int .i64 i1, .float .f32 p] W fun e w' => RetN W e w' ok q Q (seedN i0 i1)) ∧
      (∀ W : World, Calls Try.prog 36 #[.int .i64 i0, .int .i64 i1, .float .f32 p] W fun e w' => RetN W e w' ok q Q (seedN i0 i1)) :=
  ⟨okN i0 i1, _, _, by
    cases h : okN i0 i1
    · exact Nat.zero_le _
    · have h2 := h
      unfold okN at h2
      rw [Bool.and_eq_true] at h2
      have := inB_of h2.2
      show (lst _ _).length ≤ _
      rw [lst_len]; omega, fun W => c_spec_NoiseTrace (w := W) h00 h01 h10 h11 fp, fun W => c_impl_NoiseTrace (w := W) h00 h01 h10 h11 fp⟩
end Go.Proofs.Ythgmkipifolbfab
