/- Contracts: the speeds of layers from roots of mean squares, on both sides. Condition: the lists are read. -/
import Derived.Test.YtkoiimjpalhgbabMe
import Derived.Deep.Cut
import Derived.Deep.CutRange
namespace Go.Proofs.Ytkoiimjpalhgbab
open Go.RowKit Ieee

def srq (R T : List (Option Nat)) (j : Nat) : Option Nat := fop .mul .f32 (fop .mul .f32 (R.getD j none) (R.getD j none)) (T.getD j none)
def srs (R T : List (Option Nat)) : Nat → Option Nat
  | 0 => fz
  | j + 1 => srq R T j
def srt (T : List (Option Nat)) : Nat → Option Nat
  | 0 => fz
  | j + 1 => T.getD j none
def srx (R T : List (Option Nat)) (j : Nat) : Option Nat := fop .quo .f32 (fop .sub .f32 (srq R T j) (srs R T j)) (fop .sub .f32 (T.getD j none) (srt T j))
def srok (R T : List (Option Nat)) (j : Nat) : Bool := ffin .f32 (srx R T j) && !(lt0 (srx R T j))
def srr (R T : List (Option Nat)) (j : Nat) : Option Nat := froot (srx R T j)
def okS (R T : List (Option Nat)) : Bool := (decide (1 ≤ R.length) && (decide (R.length ≤ 12) && decide (T.length = R.length))) && (List.range R.length).all (srok R T)
theorem okS_len {R T : List (Option Nat)} {n n' : Nat} (hl : R.length = n) (hl' : T.length = n') (h : n < 1 ∨ 12 < n ∨ n' ≠ n) : okS R T = false := by
  unfold okS
  rw [hl, hl']
  rcases h with h | h | h
  · rw [decide_eq_false (by omega : ¬ 1 ≤ n)]; rfl
  · rw [decide_eq_false (by omega : ¬ n ≤ 12)]; simp
  · rw [decide_eq_false h]; simp
theorem okS_no {R T : List (Option Nat)} {n k : Nat} (hl : R.length = n) (hk : k < n) (h : srok R T k = false) : okS R T = false := by
  have : (List.range R.length).all (srok R T) = false := by
    rw [Bool.eq_false_iff]
    intro ha
    rw [List.all_eq_true] at ha
    have := ha k (List.mem_range.2 (by omega))
    rw [h] at this; cases this
  unfold okS
  rw [this]; simp
theorem okS_yes {R T : List (Option Nat)} {n : Nat} (hl : R.length = n) (hl' : T.length = n) (h1 : 1 ≤ n) (h2 : n ≤ 12) (h : ∀ j, j < n → srok R T j = true) : okS R T = true := by
  have : (List.range R.length).all (srok R T) = true := by
    rw [List.all_eq_true]
    intro j hj
    exact h j (by have := List.mem_range.1 hj; omega)
  unfold okS
  rw [this, hl, hl', decide_eq_true h1, decide_eq_true h2, decide_eq_true rfl]; rfl
theorem sr_step {f : Nat → Bool} {k : Nat} (h : ∀ j, j < k → f j = true) (h1 : f k = true) : ∀ j, j < k + 1 → f j = true := by
  intro j hj
  by_cases hjk : j = k
  · subst hjk; exact h1
  · exact h j (by omega)

set_option maxRecDepth 20000 in
set_option maxHeartbeats 1000000 in
theorem c_spec_SpeedsOfRoots_no {w : World} {n n' c c' : Nat} {A A' : Option Addr} {R T : List (Option Nat)} (hl : R.length = n) (hl' : T.length = n') (h : n < 1 ∨ 12 < n ∨ n' ≠ n) :
    Calls Try.prog 37 #[.slice A n c, .slice A' n' c'] w fun e w' => RetL w e w' (okS R T) (lst (srr R T) R.length) := by
  rw [okS_len hl hl' h]
  by_cases h1 : n < 1
  · have i1 : (n : Int) < 1 := by omega
    clear h hl hl'
    go_enter Try.func37, Try.ntmps37
    go_wp2_with (fail)
    go_ret2
    exact retL_no rfl (by repeat (first | assumption | exact Ext.refl _ | apply Ext.drewN | apply Ext.drew | apply Ext.alloc | (refine Ext.trans ?_ (by assumption)) | (refine Ext.set ?_ (by dsimp only; omega) _)))
  by_cases h2 : 12 < n
  · have i1 : ¬ (n : Int) < 1 := by omega
    have i2 : (12 : Int) < n := by omega
    clear h h1 hl hl'
    go_enter Try.func37, Try.ntmps37
    go_wp2_with (fail)
    go_ret2
    exact retL_no rfl (by repeat (first | assumption | exact Ext.refl _ | apply Ext.drewN | apply Ext.drew | apply Ext.alloc | (refine Ext.trans ?_ (by assumption)) | (refine Ext.set ?_ (by dsimp only; omega) _)))
  have i1 : ¬ (n : Int) < 1 := by omega
  have i2 : ¬ (12 : Int) < n := by omega
  have i3 : ((n' : Int) != (n : Int)) = true := by rw [bne_iff_ne]; omega
  clear h h1 h2 hl hl'
  go_enter Try.func37, Try.ntmps37
  go_wp2_with (fail)
  go_ret2
  exact retL_no rfl (by repeat (first | assumption | exact Ext.refl _ | apply Ext.drewN | apply Ext.drew | apply Ext.alloc | (refine Ext.trans ?_ (by assumption)) | (refine Ext.set ?_ (by dsimp only; omega) _)))
set_option maxRecDepth 20000 in
set_option maxHeartbeats 4000000 in
theorem c_spec_SpeedsOfRoots_yes {w : World} {B B' n c c' : Nat} {A A' : Option Addr} {R T : List (Option Nat)} (h : RdF w B A n R) (h' : RdF w B' A' n T) (hB : B ≤ w.heap.size) (hB' : B' ≤ w.heap.size) (h1 : 1 ≤ n) (h2 : n ≤ 12) :
    Calls Try.prog 37 #[.slice A n c, .slice A' n c'] w fun e w' => RetL w e w' (okS R T) (lst (srr R T) R.length) := by
  have HN := Lib.hid (fun k hk hh => okS_no (T := T) h.len (k := k) hk hh)
  have HY := Lib.hid (okS_yes h.len h'.len h1 h2)
  have hl := h.len
  rw [hl]
  clear hl
  obtain ⟨i0, hi, hz0, hz1, hz2⟩ := info_parts info_f32
  have i1 : ¬ (n : Int) < 1 := by omega
  have i2 : ¬ (12 : Int) < n := by omega
  have i3 : ((n : Int) != (n : Int)) = false := by simp
  go_enter Try.func37, Try.ntmps37
  go_wp2_with (fail)
  go_loopw [6, 7, 8, 9] (fun ss tt v i wr => ∃ (k r q : Nat) (xs : List Value), k ≤ n ∧ i = .int .i64 k ∧ ss = .float .f32 r ∧ Fl .f32 r (srs R T k) ∧ tt = .float .f32 q ∧ Fl .f32 q (srt T k) ∧ wr.ownsRow w.heap.size 23 1 v k xs ∧ (∀ j, j < k → ∃ r, xs[j]? = some (.float .f32 r) ∧ Fl .f32 r (srr R T j)) ∧ (∀ j, j < k → srok R T j = true) ∧ Ext w wr) (fun _ _ _ i _ => n - (intOf i).toNat)
  case atStart => exact ⟨0, 0, 0, [], Nat.zero_le _, rfl, rfl, fl_fz, rfl, fl_fz, World.ownsRow_made w _ 0 (Nat.le_refl _) (Nat.zero_le _) rfl, fun j hj => absurd hj (Nat.not_lt_zero _), fun j hj => absurd hj (Nat.not_lt_zero _), (by repeat (first | assumption | exact Ext.refl _ | apply Ext.drewN | apply Ext.drew | apply Ext.alloc | (refine Ext.trans ?_ (by assumption)) | (refine Ext.set ?_ (by dsimp only; omega) _)))⟩
  case round =>
    obtain ⟨k, r, q, xs, hk, rfl, rfl, hr, rfl, hq, hown, hxs, hb, hx⟩ := hrel
    have HX := Lib.hid hxs
    have HB := Lib.hid hb
    clear hxs hb
    by_cases hlt : k < n
    · obtain ⟨b1, o1, t1, rfl, hb1, hc1, ht1⟩ := (h.below (hx.mono hB)).cell hlt
      obtain ⟨b2, o2, t2, rfl, hb2, hc2, ht2⟩ := (h'.below (hx.mono hB')).cell hlt
      have hT : srq R T k = fop .mul .f32 (fop .mul .f32 (R.getD k none) (R.getD k none)) (T.getD k none) := rfl
      have hU : srx R T k = fop .quo .f32 (fop .sub .f32 (srq R T k) (srs R T k)) (fop .sub .f32 (T.getD k none) (srt T k)) := rfl
      have hV : srr R T k = froot (srx R T k) := rfl
      have hO : srok R T k = (ffin .f32 (srx R T k) && !(lt0 (srx R T k))) := rfl
      have HT := Lib.hid hT
      have HU := Lib.hid hU
      have HV := Lib.hid hV
      have HO := Lib.hid hO
      clear hT hU hV hO
      have hlt' : (k : Int) < (n : Int) := by omega
      go_wp2_with (fail)
      go_cut [10] from 28 to 74 (fun sx wx => ∃ r m, sx = .float .f32 r ∧ Fl .f32 r (srq R T k) ∧ wx = wr.drewN m)
      case first =>
        go_region_with (first | (apply upon_fop rfl; (exact ht1); (exact ht1); intro r4 n4 hr4) | (apply upon_fop rfl; (exact hr4); (exact ht2); intro r5 n5 hr5; rw [← HT.out] at hr5))
        all_goals
          go_wp2_with (fail)
          go_meet
          exact ⟨r5, _, rfl, hr5, rfl⟩
      case rest =>
        obtain ⟨r5, m5, rfl, hr5, rfl⟩ := hcut
        cases hF : ffin .f32 (srx R T k)
        · have hend := Lib.hid (HN.out k hlt (by rw [HO.out, hF]; rfl))
          go_wp2_with (first | (apply upon_fop rfl; (exact hr5); (exact hr); intro r6 n6 hr6) | (apply upon_fop rfl; (exact ht2); (exact hq); intro r7 n7 hr7) | (apply upon_fop rfl; (exact hr6); (exact hr7); intro r8 n8 hr8; rw [← HU.out] at hr8) | (go_at_call 62; refine Calls.mono (c_l01Finite hr8 _) ?_; rw [hF]; rintro e w' ⟨rfl, n1, rfl⟩))
          go_ret2
          exact retL_no hend.out (by repeat (first | assumption | exact Ext.refl _ | apply Ext.drewN | apply Ext.drew | apply Ext.alloc | (refine Ext.trans ?_ (by assumption)) | (refine Ext.set ?_ (by dsimp only; omega) _)))
        cases hL : lt0 (srx R T k)
        · have hok : srok R T k = true := by rw [HO.out, hF, hL]; rfl
          go_wp2_with (first | (apply upon_fop rfl; (exact hr5); (exact hr); intro r6 n6 hr6) | (apply upon_fop rfl; (exact ht2); (exact hq); intro r7 n7 hr7) | (apply upon_fop rfl; (exact hr6); (exact hr7); intro r8 n8 hr8; rw [← HU.out] at hr8; have ho8 := hr8.olt0; rw [hL] at ho8) | (go_at_call 62; refine Calls.mono (c_l01Finite hr8 _) ?_; rw [hF]; rintro e w' ⟨rfl, n1, rfl⟩) | (go_at_call 68; refine Calls.mono (c_l01Sqrt hr8 _) ?_; rw [← HV.out]; rintro e w' ⟨r9, rfl, hr9, n9, rfl⟩) | (at_builtin; refine wpList_append_own _ rfl _ _ 44 rfl w.heap.size 23 i0 (.float .f32 0) 1 4 Try.underlying44 hi hz0 hz1 hz2 rfl (by decide) _ _ _ rfl (World.ownsRow.alloc (w := wr.drewN _) hown _) ⟨wr.heap.size, 0, none⟩ 1 1 [.float .f32 r9] rfl rfl ?_ ?_ ?_ ?_ ?_ ?_))
          all_goals first
            | exact one_new (w := wr.drewN _)
            | (intro u hu; simp at hu; subst hu; rfl)
            | (unfold maxLen; omega)
            | omega
            | (have := hx.size; simp; omega)
            | (intro v' w4 hown' hgrow _
               have hl' : xs.length = k := by have := hown.1; omega
               have hx' : Ext w w4 := grown_ext (Ext.alloc (Ext.drewN hx _) _) (World.ownsRow.alloc (w := wr.drewN _) hown _) hgrow
               have HXX := Lib.hid (row_step hl' HX.out hr9)
               have hc2' : w4.cell? ⟨b2, o2 + k, none⟩ = some (.float .f32 t2) := by
                 have hbb : b2 < w.heap.size := by omega
                 exact (hx'.cell (p := ⟨b2, o2 + k, none⟩) hbb).trans ((hx.cell (p := ⟨b2, o2 + k, none⟩) hbb).symm.trans hc2)
               clear hown hgrow hx
               go_wp2_with (fail)
               exact ⟨⟨k + 1, r5, t2, _, by omega, by go_num, rfl, hr5, rfl, ht2, hown', HXX.out, sr_step HB.out hok, hx'⟩, by simp [intOf]; omega⟩)
        · have hend := Lib.hid (HN.out k hlt (by rw [HO.out, hF, hL]; rfl))
          go_wp2_with (first | (apply upon_fop rfl; (exact hr5); (exact hr); intro r6 n6 hr6) | (apply upon_fop rfl; (exact ht2); (exact hq); intro r7 n7 hr7) | (apply upon_fop rfl; (exact hr6); (exact hr7); intro r8 n8 hr8; rw [← HU.out] at hr8; have ho8 := hr8.olt0; rw [hL] at ho8) | (go_at_call 62; refine Calls.mono (c_l01Finite hr8 _) ?_; rw [hF]; rintro e w' ⟨rfl, n1, rfl⟩))
          go_ret2
          exact retL_no hend.out (by repeat (first | assumption | exact Ext.refl _ | apply Ext.drewN | apply Ext.drew | apply Ext.alloc | (refine Ext.trans ?_ (by assumption)) | (refine Ext.set ?_ (by dsimp only; omega) _)))
    · have hkn : k = n := by omega
      subst hkn
      have ho4 : OwF wr w.heap.size _ k (srr R T) := ⟨xs, hown, HX.out⟩
      obtain ⟨A4, c4, rfl, ho5⟩ := ho4.owl
      have hend := Lib.hid (HY.out HB.out)
      go_wp2_with (fail)
      go_ret2
      rw [hend.out]
      exact ⟨_, _, _, rfl, ho5, hx⟩
set_option maxRecDepth 20000 in
set_option maxHeartbeats 1000000 in
theorem c_impl_SpeedsOfRoots_no {w : World} {n n' c c' : Nat} {A A' : Option Addr} {R T : List (Option Nat)} (hl : R.length = n) (hl' : T.length = n') (h : n < 1 ∨ 12 < n ∨ n' ≠ n) :
    Calls Try.prog 39 #[.slice A n c, .slice A' n' c'] w fun e w' => RetL w e w' (okS R T) (lst (srr R T) R.length) := by
  rw [okS_len hl hl' h]
  by_cases h3 : n = n'
  · subst h3
    have i3 : ((n : Int) != (n : Int)) = false := by simp
    by_cases h1 : n < 1
    · have i1 : (n : Int) < 1 := by omega
      clear h hl hl'
      go_enter Try.func39, Try.ntmps39
      go_wp2_with (fail)
      go_ret2
      exact retL_no rfl (by repeat (first | assumption | exact Ext.refl _ | apply Ext.drewN | apply Ext.drew | apply Ext.alloc | (refine Ext.trans ?_ (by assumption)) | (refine Ext.set ?_ (by dsimp only; omega) _)))
    · have i1 : ¬ (n : Int) < 1 := by omega
      have i2 : (12 : Int) < n := by omega
      clear h h1 hl hl'
      go_enter Try.func39, Try.ntmps39
      go_wp2_with (fail)
      go_ret2
      exact retL_no rfl (by repeat (first | assumption | exact Ext.refl _ | apply Ext.drewN | apply Ext.drew | apply Ext.alloc | (refine Ext.trans ?_ (by assumption)) | (refine Ext.set ?_ (by dsimp only; omega) _)))
  · have i3 : ((n : Int) != (n' : Int)) = true := by rw [bne_iff_ne]; omega
    clear h h3 hl hl'
    go_enter Try.func39, Try.ntmps39
    go_wp2_with (fail)
    go_ret2
    exact retL_no rfl (by repeat (first | assumption | exact Ext.refl _ | apply Ext.drewN | apply Ext.drew | apply Ext.alloc | (refine Ext.trans ?_ (by assumption)) | (refine Ext.set ?_ (by dsimp only; omega) _)))
set_option maxRecDepth 20000 in
set_option maxHeartbeats 4000000 in
theorem c_impl_SpeedsOfRoots_yes {w : World} {B B' n c c' : Nat} {A A' : Option Addr} {R T : List (Option Nat)} (h : RdF w B A n R) (h' : RdF w B' A' n T) (hB : B ≤ w.heap.size) (hB' : B' ≤ w.heap.size) (h1 : 1 ≤ n) (h2 : n ≤ 12) :
    Calls Try.prog 39 #[.slice A n c, .slice A' n c'] w fun e w' => RetL w e w' (okS R T) (lst (srr R T) R.length) := by
  have HN := Lib.hid (fun k hk hh => okS_no (T := T) h.len (k := k) hk hh)
  have HY := Lib.hid (okS_yes h.len h'.len h1 h2)
  have hl := h.len
  rw [hl]
  clear hl
  have i1 : ¬ (n : Int) < 1 := by omega
  have i2 : ¬ (12 : Int) < n := by omega
  have i3 : ((n : Int) != (n : Int)) = false := by simp
  have hmk := fun W => run_make_row' (P := Try.prog) 44 23 (.float .f32 0) 4 Try.underlying44 info_f32 rfl .i64 .i64 n (by omega) (by omega) W
  go_enter Try.func39, Try.ntmps39
  go_wp2_with (fail)
  go_loopw [7, 8, 33] (fun tt ss i wr => ∃ (k r q : Nat) (cs : Array Value), k ≤ n ∧ i = .int .i64 k ∧ ss = .float .f32 r ∧ Fl .f32 r (srs R T k) ∧ tt = .float .f32 q ∧ Fl .f32 q (srt T k) ∧ wr.heap[w.heap.size]? = some (.cells cs 23 (0, 0)) ∧ cs.size = n ∧ (∀ j, j < k → ∃ r, cs[j]? = some (.float .f32 r) ∧ Fl .f32 r (srr R T j)) ∧ (∀ j, j < k → srok R T j = true) ∧ Ext w wr) (fun _ _ i _ => n - (intOf i).toNat)
  case atStart => exact ⟨0, 0, 0, _, Nat.zero_le _, rfl, rfl, fl_fz, rfl, fl_fz, heap_alloc_new w _, size_madeCells _ _, fun j hj => absurd hj (Nat.not_lt_zero _), fun j hj => absurd hj (Nat.not_lt_zero _), (by repeat (first | assumption | exact Ext.refl _ | apply Ext.drewN | apply Ext.drew | apply Ext.alloc | (refine Ext.trans ?_ (by assumption)) | (refine Ext.set ?_ (by dsimp only; omega) _)))⟩
  case round =>
    obtain ⟨k, r, q, cs, hk, rfl, rfl, hr, rfl, hq, hg, hsz, hxs, hb, hx⟩ := hrel
    have HX := Lib.hid hxs
    have HB := Lib.hid hb
    have HG := Lib.hid hg
    have HS := Lib.hid hsz
    clear hxs hb hg hsz
    by_cases hlt : k < n
    · obtain ⟨b1, o1, t1, rfl, hb1, hc1, ht1⟩ := (h.below (hx.mono hB)).cell hlt
      obtain ⟨b2, o2, t2, rfl, hb2, hc2, ht2⟩ := (h'.below (hx.mono hB')).cell hlt
      obtain ⟨u0, e0, z0⟩ := own_cell HG.out HS.out hlt
      have hT : srq R T k = fop .mul .f32 (fop .mul .f32 (R.getD k none) (R.getD k none)) (T.getD k none) := rfl
      have hU : srx R T k = fop .quo .f32 (fop .sub .f32 (srq R T k) (srs R T k)) (fop .sub .f32 (T.getD k none) (srt T k)) := rfl
      have hV : srr R T k = froot (srx R T k) := rfl
      have hO : srok R T k = (ffin .f32 (srx R T k) && !(lt0 (srx R T k))) := rfl
      have HT := Lib.hid hT
      have HU := Lib.hid hU
      have HV := Lib.hid hV
      have HO := Lib.hid hO
      clear hT hU hV hO
      have hlt' : (k : Int) < (n : Int) := by omega
      have hne : b2 ≠ w.heap.size := by omega
      go_wp2_with (fail)
      go_cut [11] from 34 to 73 (fun sx wx => ∃ r m, sx = .float .f32 r ∧ Fl .f32 r (srq R T k) ∧ wx = wr.drewN m)
      case first =>
        go_region_with (first | (go_at_call 82; refine Calls.mono (c_mulNumbers ht1 ht1 _) ?_; rintro e w1 ⟨r4, rfl, hr4, n4, rfl⟩) | (go_at_call 82; refine Calls.mono (c_mulNumbers hr4 ht2 _) ?_; rw [← HT.out]; rintro e w1 ⟨r5, rfl, hr5, n5, rfl⟩))
        all_goals
          go_wp2_with (fail)
          go_meet
          exact ⟨r5, _, rfl, hr5, rfl⟩
      case rest =>
        obtain ⟨r5, m5, rfl, hr5, rfl⟩ := hcut
        cases hL : lt0 (srx R T k)
        · cases hF : ffin .f32 (srx R T k)
          · have hend := Lib.hid (HN.out k hlt (by rw [HO.out, hF]; rfl))
            go_wp2_with (first | (apply upon_fop rfl; (exact hr5); (exact hr); intro r6 n6 hr6) | (apply upon_fop rfl; (exact ht2); (exact hq); intro r7 n7 hr7) | (apply upon_fop rfl; (exact hr6); (exact hr7); intro r8 n8 hr8; rw [← HU.out] at hr8; have ho8 := hr8.olt0; rw [hL] at ho8) | (go_at_call 69; refine Calls.mono (c_impl_IsFinite hr8 _) ?_; rw [hF]; rintro e w' ⟨rfl, n1, rfl⟩))
            go_ret2
            exact retL_no hend.out (by repeat (first | assumption | exact Ext.refl _ | apply Ext.drewN | apply Ext.drew | apply Ext.alloc | (refine Ext.trans ?_ (by assumption)) | (refine Ext.set ?_ (by dsimp only; omega) _)))
          · have hok : srok R T k = true := by rw [HO.out, hF, hL]; rfl
            go_wp2_with (first | (apply upon_fop rfl; (exact hr5); (exact hr); intro r6 n6 hr6) | (apply upon_fop rfl; (exact ht2); (exact hq); intro r7 n7 hr7) | (apply upon_fop rfl; (exact hr6); (exact hr7); intro r8 n8 hr8; rw [← HU.out] at hr8; have ho8 := hr8.olt0; rw [hL] at ho8) | (go_at_call 69; refine Calls.mono (c_impl_IsFinite hr8 _) ?_; rw [hF]; rintro e w' ⟨rfl, n1, rfl⟩) | (go_at_call 85; refine Calls.mono (c_RootNumber hr8 _) ?_; rw [← HV.out]; rintro e w' ⟨r9, rfl, hr9, n9, rfl⟩))
            exact ⟨⟨k + 1, r5, t2, cs.setIfInBounds k (.float .f32 r9), by omega, by go_num, rfl, hr5, rfl, ht2, by exact blk_set1 (w := World.drewN wr _) HG.out k _, by rw [Array.size_setIfInBounds]; exact HS.out, pre_setF (F := srr R T) (by have := HS.out; omega) HX.out hr9, sr_step HB.out hok, Ext.set (by repeat (first | assumption | exact Ext.refl _ | apply Ext.drewN | apply Ext.drew | apply Ext.alloc | (refine Ext.trans ?_ (by assumption)) | (refine Ext.set ?_ (by dsimp only; omega) _))) (Nat.le_refl _) _⟩, by simp [intOf]; omega⟩
        · have hend := Lib.hid (HN.out k hlt (by rw [HO.out, hL]; simp))
          cases hF : ffin .f32 (srx R T k)
          all_goals
            go_wp2_with (first | (apply upon_fop rfl; (exact hr5); (exact hr); intro r6 n6 hr6) | (apply upon_fop rfl; (exact ht2); (exact hq); intro r7 n7 hr7) | (apply upon_fop rfl; (exact hr6); (exact hr7); intro r8 n8 hr8; rw [← HU.out] at hr8; have ho8 := hr8.olt0; rw [hL] at ho8) | (go_at_call 69; refine Calls.mono (c_impl_IsFinite hr8 _) ?_; rw [hF]; rintro e w' ⟨rfl, n1, rfl⟩))
            go_ret2
            exact retL_no hend.out (by repeat (first | assumption | exact Ext.refl _ | apply Ext.drewN | apply Ext.drew | apply Ext.alloc | (refine Ext.trans ?_ (by assumption)) | (refine Ext.set ?_ (by dsimp only; omega) _)))
    · have hkn : k = n := by omega
      subst hkn
      have ho5 := own_lst HG.out HS.out HX.out
      have hend := Lib.hid (HY.out HB.out)
      go_wp2_with (fail)
      go_ret2
      rw [hend.out]
      exact ⟨_, _, _, rfl, ho5, hx⟩
end Go.Proofs.Ytkoiimjpalhgbab
