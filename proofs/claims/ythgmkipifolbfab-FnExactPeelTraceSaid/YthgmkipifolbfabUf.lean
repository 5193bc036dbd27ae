/- Contracts: hardnesses, on both sides. Condition: the list is read. -/
import Derived.Test.YthgmkipifolbfabUa
import Derived.Test.YthgmkipifolbfabRl
namespace Go.Proofs.Ythgmkipifolbfab
open Go.RowKit Ieee

/-- What holds of all numbers below n. -/
def allU (f : Nat → Bool) (n : Nat) : Bool := (List.range n).all f
theorem allU_no {f : Nat → Bool} {n j : Nat} (hj : j < n) (h : f j = false) : allU f n = false := by
  rw [Bool.eq_false_iff]
  intro ha
  unfold allU at ha
  rw [List.all_eq_true] at ha
  have := ha j (List.mem_range.2 hj)
  rw [h] at this; cases this
theorem allU_yes {f : Nat → Bool} {n : Nat} (h : ∀ j, j < n → f j = true) : allU f n = true := by
  unfold allU; rw [List.all_eq_true]; intro j hj; exact h j (List.mem_range.1 hj)
theorem owns_one (w : World) (r : Nat) : (w.alloc (.cells #[.float .f32 r] 29)).ownsRow w.heap.size 29 1 (.slice (some ⟨w.heap.size, 0, none⟩) 1 1) 1 [.float .f32 r] :=
  ⟨rfl, .inr ⟨w.heap.size, 1, #[.float .f32 r], rfl, Nat.le_refl _, heap_alloc_new _ _, Nat.le_refl _, by unfold maxLen; omega, rfl, rfl⟩⟩
def okH (P : Option Nat) (L : List (Option Nat)) (n : Nat) : Bool := allU (fun j => fabove (fhd P L (j + 1))) n

set_option maxRecDepth 20000 in
set_option maxHeartbeats 4000000 in
theorem c_spec_HardnessOf {w : World} {B n c : Nat} {A : Option Addr} {L : List (Option Nat)} (h : RdF w B A n L) (hB : B ≤ w.heap.size) (hn : n ≤ 1048576) {p : Nat} {P : Option Nat} (fp : Fl .f32 p P) :
    Calls Try.prog 23 #[.float .f32 p, .slice A n c] w fun e w' => RetL w e w' (fabove P && (fare L && okH P L n)) (lst (fhd P L) (n + 1)) := by
  cases hV : fabove P
  · go_enter Try.func23, Try.ntmps23
    go_wp2_with (go_at_call 51; refine Calls.mono (c_l03Hard fp) ?_; rw [hV]; rintro e w1 ⟨rfl, n0, rfl⟩)
    go_ret2
    exact retL_no rfl (by repeat (first | assumption | exact Ext.refl _ | apply Ext.drewN | apply Ext.drew | apply Ext.alloc | (refine Ext.trans ?_ (by assumption)) | (refine Ext.set ?_ (by dsimp only; omega) _)))
  rw [Bool.true_and]
  cases hW : fare L
  · go_enter Try.func23, Try.ntmps23
    go_wp2_with (first | (go_at_call 51; refine Calls.mono (c_l03Hard fp) ?_; rw [hV]; rintro e w1 ⟨rfl, n0, rfl⟩) | (go_at_call 49; refine Calls.mono (c_l03Are (h.below (Below.mono (w := w) (by repeat (first | assumption | exact Ext.refl _ | apply Ext.drewN | apply Ext.drew | apply Ext.alloc | (refine Ext.trans ?_ (by assumption)) | (refine Ext.set ?_ (by dsimp only; omega) _))) hB)) hn) ?_; rw [hW]; rintro e w1 ⟨rfl, rfl⟩))
    go_ret2
    exact retL_no rfl (by repeat (first | assumption | exact Ext.refl _ | apply Ext.drewN | apply Ext.drew | apply Ext.alloc | (refine Ext.trans ?_ (by assumption)) | (refine Ext.set ?_ (by dsimp only; omega) _)))
  rw [Bool.true_and]
  have hn24 : n ≤ 24 := by
    have := hW; unfold fare at this; rw [Bool.and_eq_true] at this
    have := elen_of this.2
    have := h.len; omega
  obtain ⟨i0, hi, hz0, hz1, hz2⟩ := info_parts info_f32
  go_enter Try.func23, Try.ntmps23
  go_wp2_with (first | (go_at_call 51; refine Calls.mono (c_l03Hard fp) ?_; rw [hV]; rintro e w1 ⟨rfl, n0, rfl⟩) | (go_at_call 49; refine Calls.mono (c_l03Are (h.below (Below.mono (w := w) (by repeat (first | assumption | exact Ext.refl _ | apply Ext.drewN | apply Ext.drew | apply Ext.alloc | (refine Ext.trans ?_ (by assumption)) | (refine Ext.set ?_ (by dsimp only; omega) _))) hB)) hn) ?_; rw [hW]; rintro e w1 ⟨rfl, rfl⟩))
  go_loopw [6, 7, 22] (fun v t y wr => ∃ (k q : Nat) (xs : List Value), k ≤ n ∧ y = .int .i64 k ∧ t = .float .f32 q ∧ Fl .f32 q (fhd P L k) ∧ wr.ownsRow w.heap.size 29 1 v (k + 1) xs ∧ (∀ j, j < k + 1 → ∃ r, xs[j]? = some (.float .f32 r) ∧ Fl .f32 r (fhd P L j)) ∧ (∀ j, j < k → fabove (fhd P L (j + 1)) = true) ∧ Ext w wr) (fun _ _ y _ => n - (intOf y).toNat)
  case atStart =>
    refine ⟨0, p, [.float .f32 p], Nat.zero_le _, rfl, rfl, fp, owns_one _ p, ?_, fun j hj => absurd hj (Nat.not_lt_zero _), (by repeat (first | assumption | exact Ext.refl _ | apply Ext.drewN | apply Ext.drew | apply Ext.alloc | (refine Ext.trans ?_ (by assumption)) | (refine Ext.set ?_ (by dsimp only; omega) _)))⟩
    intro j hj
    obtain rfl : j = 0 := by omega
    exact ⟨p, rfl, fp⟩
  case round =>
    obtain ⟨k, q0, xs, hk, rfl, rfl, hq0, hown, hxs, hb, hx⟩ := hrel
    have HX := Lib.hid hxs
    have HB := Lib.hid hb
    clear hxs hb
    by_cases hlt : k < n
    · have hlt' : (k : Int) < (n : Int) := by omega
      obtain ⟨b1, o1, t1, rfl, hb1, hc1, ht1⟩ := (h.below (hx.mono hB)).cell hlt
      have hT : fhd P L (k + 1) = fop .quo .f32 (fop .mul .f32 (fhd P L k) (fop .add .f32 fu (L.getD k none))) (fop .sub .f32 fu (L.getD k none)) := rfl
      have HT := Lib.hid hT
      clear hT
      go_wp2_with (fail)
      go_cut [7] from 23 to 45 (fun sx wx => ∃ r m, sx = .float .f32 r ∧ Fl .f32 r (fhd P L (k + 1)) ∧ wx = wr.drewN m)
      case first =>
        clear hown hx HX HB h
        obtain ⟨Ra, Na, qa, fa⟩ := fop_any (P := Try.prog) (op := .add) rfl 29
        obtain ⟨Rm, Nm, qm, fm⟩ := fop_any (P := Try.prog) (op := .mul) rfl 29
        obtain ⟨Rs, Ns, qs, fs⟩ := fop_any (P := Try.prog) (op := .sub) rfl 29
        obtain ⟨Rq, Nq, qq, fq⟩ := fop_any (P := Try.prog) (op := .quo) rfl 29
        have FA := Lib.hid fa
        have FM := Lib.hid fm
        have FS := Lib.hid fs
        have FQ := Lib.hid fq
        clear fa fm fs fq
        go_region_law (fail)
        all_goals
          go_wp2_with (fail)
          go_meet
          exact ⟨_, _, rfl, by rw [HT.out]; exact FQ.out _ _ _ _ _ (FM.out _ _ _ _ _ hq0 (FA.out _ _ _ _ _ fl_fu ht1)) (FS.out _ _ _ _ _ fl_fu ht1), rfl⟩
      case rest =>
        obtain ⟨r4, m4, rfl, hr4, rfl⟩ := hcut
        cases hF : fabove (fhd P L (k + 1))
        · have hend := Lib.hid (show okH P L n = false from allU_no hlt hF)
          go_wp2_with (first | (go_at_call 51; refine Calls.mono (c_l03Hard hr4) ?_; rw [hF]; rintro e w1 ⟨rfl, n0, rfl⟩))
          go_ret2
          rw [hend.out]
          exact retL_no rfl (by repeat (first | assumption | exact Ext.refl _ | apply Ext.drewN | apply Ext.drew | apply Ext.alloc | (refine Ext.trans ?_ (by assumption)) | (refine Ext.set ?_ (by dsimp only; omega) _)))
        · have HB2 := Lib.hid (sr_step HB.out hF)
          go_wp2_with (first | (go_at_call 51; refine Calls.mono (c_l03Hard hr4) ?_; rw [hF]; rintro e w1 ⟨rfl, n0, rfl⟩) | (at_builtin; refine wpList_append_own _ rfl _ _ 22 rfl w.heap.size 29 i0 (.float .f32 0) 1 4 Try.underlying22 hi hz0 hz1 hz2 rfl (by decide) _ _ _ rfl (World.ownsRow.alloc (w := wr.drewN _) hown _) ⟨wr.heap.size, 0, none⟩ 1 1 [.float .f32 r4] rfl rfl ?_ ?_ ?_ ?_ ?_ ?_))
          all_goals first
            | exact one_new (w := wr.drewN _)
            | (intro u hu; simp at hu; subst hu; rfl)
            | (unfold maxLen; omega)
            | omega
            | (have := hx.size; simp; omega)
            | (intro v' w4 hown' hgrow _
               have hl' : xs.length = k + 1 := by have := hown.1; omega
               have hx' : Ext w w4 := grown_ext (Ext.alloc (Ext.drewN hx _) _) (World.ownsRow.alloc (w := wr.drewN _) hown _) hgrow
               have HXX := Lib.hid (row_step hl' HX.out hr4)
               clear hown hgrow hx
               go_wp2_with (fail)
               exact ⟨⟨k + 1, r4, _, by omega, by go_num, rfl, hr4, by exact hown', HXX.out, HB2.out, hx'⟩, by simp [intOf]; omega⟩)
    · obtain rfl : k = n := by omega
      have hend := Lib.hid (show okH P L k = true from allU_yes HB.out)
      have ho4 : OwF wr w.heap.size _ (k + 1) (fhd P L) := ⟨xs, hown, HX.out⟩
      obtain ⟨A4, c4, rfl, ho5⟩ := ho4.owl
      go_wp2_with (fail)
      go_ret2
      rw [hend.out]
      exact ⟨_, _, _, rfl, ho5, hx⟩

set_option maxRecDepth 20000 in
set_option maxHeartbeats 4000000 in
theorem c_impl_HardnessOf {w : World} {B n c : Nat} {A : Option Addr} {L : List (Option Nat)} (h : RdF w B A n L) (hB : B ≤ w.heap.size) (hn : n ≤ 1048576) {p : Nat} {P : Option Nat} (fp : Fl .f32 p P) :
    Calls Try.prog 24 #[.float .f32 p, .slice A n c] w fun e w' => RetL w e w' (fabove P && (fare L && okH P L n)) (lst (fhd P L) (n + 1)) := by
  cases hV : fabove P
  · go_enter Try.func24, Try.ntmps24
    go_wp2_with (go_at_call 52; refine Calls.mono (c_isPositive fp) ?_; rw [hV]; rintro e w1 ⟨rfl, n0, rfl⟩)
    go_ret2
    exact retL_no rfl (by repeat (first | assumption | exact Ext.refl _ | apply Ext.drewN | apply Ext.drew | apply Ext.alloc | (refine Ext.trans ?_ (by assumption)) | (refine Ext.set ?_ (by dsimp only; omega) _)))
  rw [Bool.true_and]
  cases hW : fare L
  · go_enter Try.func24, Try.ntmps24
    go_wp2_with (first | (go_at_call 52; refine Calls.mono (c_isPositive fp) ?_; rw [hV]; rintro e w1 ⟨rfl, n0, rfl⟩) | (go_at_call 17; refine Calls.mono (c_AreCoefficients (h.below (Below.mono (w := w) (by repeat (first | assumption | exact Ext.refl _ | apply Ext.drewN | apply Ext.drew | apply Ext.alloc | (refine Ext.trans ?_ (by assumption)) | (refine Ext.set ?_ (by dsimp only; omega) _))) hB)) hn) ?_; rw [hW]; rintro e w1 ⟨rfl, rfl⟩))
    go_ret2
    exact retL_no rfl (by repeat (first | assumption | exact Ext.refl _ | apply Ext.drewN | apply Ext.drew | apply Ext.alloc | (refine Ext.trans ?_ (by assumption)) | (refine Ext.set ?_ (by dsimp only; omega) _)))
  rw [Bool.true_and]
  have hn24 : n ≤ 24 := by
    have := hW; unfold fare at this; rw [Bool.and_eq_true] at this
    have := elen_of this.2
    have := h.len; omega
  obtain ⟨i0, hi, hz0, hz1, hz2⟩ := info_parts info_f32
  go_enter Try.func24, Try.ntmps24
  go_wp2_with (first | (go_at_call 52; refine Calls.mono (c_isPositive fp) ?_; rw [hV]; rintro e w1 ⟨rfl, n0, rfl⟩) | (go_at_call 17; refine Calls.mono (c_AreCoefficients (h.below (Below.mono (w := w) (by repeat (first | assumption | exact Ext.refl _ | apply Ext.drewN | apply Ext.drew | apply Ext.alloc | (refine Ext.trans ?_ (by assumption)) | (refine Ext.set ?_ (by dsimp only; omega) _))) hB)) hn) ?_; rw [hW]; rintro e w1 ⟨rfl, rfl⟩))
  go_loopw [6, 22] (fun v y wr => ∃ (k : Nat) (xs : List Value), k ≤ n ∧ y = .int .i64 k ∧ wr.ownsRow w.heap.size 29 1 v (k + 1) xs ∧ (∀ j, j < k + 1 → ∃ r, xs[j]? = some (.float .f32 r) ∧ Fl .f32 r (fhd P L j)) ∧ (∀ j, j < k → fabove (fhd P L (j + 1)) = true) ∧ Ext w wr) (fun _ y _ => n - (intOf y).toNat)
  case atStart =>
    refine ⟨0, [.float .f32 p], Nat.zero_le _, rfl, owns_one _ p, ?_, fun j hj => absurd hj (Nat.not_lt_zero _), (by repeat (first | assumption | exact Ext.refl _ | apply Ext.drewN | apply Ext.drew | apply Ext.alloc | (refine Ext.trans ?_ (by assumption)) | (refine Ext.set ?_ (by dsimp only; omega) _)))⟩
    intro j hj
    obtain rfl : j = 0 := by omega
    exact ⟨p, rfl, fp⟩
  case round =>
    obtain ⟨k, xs, hk, rfl, hown, hxs, hb, hx⟩ := hrel
    have HX := Lib.hid hxs
    have HB := Lib.hid hb
    clear hxs hb
    by_cases hlt : k < n
    · have hlt' : (k : Int) < (n : Int) := by omega
      have hlt2 : (k : Int) < (k : Int) + 1 := by omega
      obtain ⟨b1, o1, t1, rfl, hb1, hc1, ht1⟩ := (h.below (hx.mono hB)).cell hlt
      have ho4 : OwF wr w.heap.size _ (k + 1) (fhd P L) := ⟨xs, hown, HX.out⟩
      obtain ⟨A4, c4, rfl, ho5⟩ := ho4.rd
      obtain ⟨g4, q0, rfl, hg1, hg2, hcq, hq0⟩ := ho5 k (by omega)
      clear ho5
      have hT : fhd P L (k + 1) = fop .quo .f32 (fop .mul .f32 (fhd P L k) (fop .add .f32 fu (L.getD k none))) (fop .sub .f32 fu (L.getD k none)) := rfl
      have HT := Lib.hid hT
      clear hT
      cases hF : fabove (fhd P L (k + 1))
      · have hend := Lib.hid (show okH P L n = false from allU_no hlt hF)
        go_wp2_with (first | (refine upon_fop (op := .add) rfl fl_fu ht1 ?_; intro r1 n1 hr1) | (go_at_call 53; refine Calls.mono (c_mulNumbers hq0 hr1 _) ?_; rintro e w_2 ⟨r2, rfl, hr2, n2, rfl⟩) | (refine upon_fop (op := .sub) rfl fl_fu ht1 ?_; intro r3 n3 hr3) | (refine upon_fop (op := .quo) rfl hr2 hr3 ?_; intro r4 n4 hr4; rw [← HT.out] at hr4) | (go_at_call 52; refine Calls.mono (c_isPositive hr4) ?_; rw [hF]; rintro e w1 ⟨rfl, n0, rfl⟩))
        go_ret2
        rw [hend.out]
        exact retL_no rfl (by repeat (first | assumption | exact Ext.refl _ | apply Ext.drewN | apply Ext.drew | apply Ext.alloc | (refine Ext.trans ?_ (by assumption)) | (refine Ext.set ?_ (by dsimp only; omega) _)))
      · have HB2 := Lib.hid (sr_step HB.out hF)
        go_wp2_with (first | (refine upon_fop (op := .add) rfl fl_fu ht1 ?_; intro r1 n1 hr1) | (go_at_call 53; refine Calls.mono (c_mulNumbers hq0 hr1 _) ?_; rintro e w_2 ⟨r2, rfl, hr2, n2, rfl⟩) | (refine upon_fop (op := .sub) rfl fl_fu ht1 ?_; intro r3 n3 hr3) | (refine upon_fop (op := .quo) rfl hr2 hr3 ?_; intro r4 n4 hr4; rw [← HT.out] at hr4) | (go_at_call 52; refine Calls.mono (c_isPositive hr4) ?_; rw [hF]; rintro e w1 ⟨rfl, n0, rfl⟩) | (at_builtin; refine wpList_append_own _ rfl _ _ 22 rfl w.heap.size 29 i0 (.float .f32 0) 1 4 Try.underlying22 hi hz0 hz1 hz2 rfl (by decide) _ _ _ rfl (World.ownsRow.alloc (w := wr.drewN _) hown _) ⟨wr.heap.size, 0, none⟩ 1 1 [.float .f32 r4] rfl rfl ?_ ?_ ?_ ?_ ?_ ?_))
        all_goals first
          | exact one_new (w := wr.drewN _)
          | (intro u hu; simp at hu; subst hu; rfl)
          | (unfold maxLen; omega)
          | omega
          | (have := hx.size; simp; omega)
          | (intro v' w4 hown' hgrow _
             have hl' : xs.length = k + 1 := by have := hown.1; omega
             have hx' : Ext w w4 := grown_ext (Ext.alloc (Ext.drewN hx _) _) (World.ownsRow.alloc (w := wr.drewN _) hown _) hgrow
             have HXX := Lib.hid (row_step hl' HX.out hr4)
             clear hown hgrow hx
             go_wp2_with (fail)
             exact ⟨⟨k + 1, _, by omega, by go_num, by exact hown', HXX.out, HB2.out, hx'⟩, by simp [intOf]; omega⟩)
    · obtain rfl : k = n := by omega
      have hend := Lib.hid (show okH P L k = true from allU_yes HB.out)
      have ho4 : OwF wr w.heap.size _ (k + 1) (fhd P L) := ⟨xs, hown, HX.out⟩
      obtain ⟨A4, c4, rfl, ho5⟩ := ho4.owl
      go_wp2_with (fail)
      go_ret2
      rw [hend.out]
      exact ⟨_, _, _, rfl, ho5, hx⟩

theorem both_HardnessOf {n1 : Nat} {L1 : List (Option Nat)} (_hl1 : L1.length = n1) (hn1 : n1 ≤ 1048576) {p0 : Nat} {P0 : Option Nat} (fp0 : Fl .f32 p0 P0) :
    ∃ ok Q q, q ≤ 1048576 ∧ (∀ W : World, ∀ (B1 : Nat) (A1 : Option Addr) (c1 : Nat), RdF W B1 A1 n1 L1 → B1 ≤ W.heap.size → Calls Try.prog 23 #[.float .f32 p0, .slice A1 n1 c1] W fun e w' => RetQ W e w' ok q Q) ∧
      (∀ W : World, ∀ (B1 : Nat) (A1 : Option Addr) (c1 : Nat), RdF W B1 A1 n1 L1 → B1 ≤ W.heap.size → Calls Try.prog 24 #[.float .f32 p0, .slice A1 n1 c1] W fun e w' => RetQ W e w' ok q Q) :=
  ⟨_, _, _, by
    cases hk : (fabove P0 && (fare L1 && okH P0 L1 n1))
    · exact Nat.zero_le _
    · rw [Bool.and_eq_true, Bool.and_eq_true] at hk
      have h2 := hk.2.1
      unfold fare at h2
      rw [Bool.and_eq_true] at h2
      have := elen_of h2.2
      show (lst _ _).length ≤ _
      rw [lst_len]; omega, fun W _ _ _ h1 hB1 => Calls.mono (c_spec_HardnessOf (w := W) h1 hB1 hn1 fp0) (fun _ _ hr => hr.q), fun W _ _ _ h1 hB1 => Calls.mono (c_impl_HardnessOf (w := W) h1 hB1 hn1 fp0) (fun _ _ hr => hr.q)⟩
end Go.Proofs.Ythgmkipifolbfab
