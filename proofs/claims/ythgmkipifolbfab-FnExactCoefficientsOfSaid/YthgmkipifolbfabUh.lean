/- Contracts: coefficients of boundaries, on both sides. Condition: the list is read. -/
import Derived.Test.YthgmkipifolbfabUf
import Derived.Test.YthgmkipifolbfabTn
import Derived.Deep.RegionHeldLaw
namespace Go.Proofs.Ythgmkipifolbfab
open Go.RowKit Ieee

def okC (L : List (Option Nat)) (n : Nat) : Bool := allU (fun j => fabove (L.getD j none)) n && fare (lst (fco2 L) (n - 1))
theorem okC_a {L : List (Option Nat)} {n j : Nat} (hj : j < n) (h : fabove (L.getD j none) = false) : okC L n = false := by
  unfold okC; rw [allU_no (f := fun j => fabove (L.getD j none)) hj h]; rfl
theorem okC_b {L : List (Option Nat)} {n : Nat} (h : fare (lst (fco2 L) (n - 1)) = false) : okC L n = false := by unfold okC; rw [h]; simp
theorem okC_yes {L : List (Option Nat)} {n : Nat} (h : ∀ j, j < n → fabove (L.getD j none) = true) (h' : fare (lst (fco2 L) (n - 1)) = true) : okC L n = true := by
  unfold okC; rw [allU_yes (f := fun j => fabove (L.getD j none)) h, h']; rfl
theorem ab_step {L : List (Option Nat)} {k : Nat} (h : ∀ j, j < k → fabove (L.getD j none) = true) (h' : fabove (L.getD k none) = true) : ∀ j, j < k + 1 → fabove (L.getD j none) = true := by
  intro j hj
  by_cases hjk : j = k
  · subst hjk; exact h'
  · exact h j (by omega)

set_option maxRecDepth 20000 in
set_option maxHeartbeats 4000000 in
theorem c_spec_CoefficientsOf {w : World} {B n c : Nat} {A : Option Addr} {L : List (Option Nat)} (h : RdF w B A n L) (hB : B ≤ w.heap.size) (hn : n ≤ 1048576) :
    Calls Try.prog 19 #[.slice A n c] w fun e w' => RetL w e w' (okC L n) (lst (fco2 L) (n - 1)) := by
  obtain ⟨i0, hi, hz0, hz1, hz2⟩ := info_parts info_f32
  go_enter Try.func19, Try.ntmps19
  go_wp2_with (fail)
  go_loopw [9] (fun y wr => ∃ (k : Nat), k ≤ n ∧ y = .int .i64 k ∧ (∀ j, j < k → fabove (L.getD j none) = true) ∧ Dr w wr) (fun y _ => n - (intOf y).toNat)
  case atStart => exact ⟨0, Nat.zero_le _, rfl, fun j hj => absurd hj (Nat.not_lt_zero _), 0, rfl⟩
  case round =>
    obtain ⟨k, hk, rfl, hb, q, rfl⟩ := hrel
    have HB := Lib.hid hb
    clear hb
    by_cases hlt : k < n
    · have hlt' : (k : Int) < (n : Int) := by omega
      obtain ⟨b1, o1, t1, rfl, hb1, hc1, ht1⟩ := h.cell hlt
      cases hF : fabove (L.getD k none)
      · have hend := Lib.hid (okC_a hlt hF)
        go_wp2_with (go_at_call 51; refine Calls.mono (c_l03Hard ht1) ?_; rw [hF]; rintro e w1 ⟨rfl, n0, rfl⟩)
        go_ret2
        rw [hend.out]
        exact retL_no rfl (by repeat (first | assumption | exact Ext.refl _ | apply Ext.drewN | apply Ext.drew | apply Ext.alloc | (refine Ext.trans ?_ (by assumption)) | (refine Ext.set ?_ (by dsimp only; omega) _)))
      · have HB2 := Lib.hid (ab_step HB.out hF)
        go_wp2_with (go_at_call 51; refine Calls.mono (c_l03Hard ht1) ?_; rw [hF]; rintro e w1 ⟨rfl, n0, rfl⟩)
        exact ⟨⟨k + 1, by omega, by go_num, HB2.out, _, rfl⟩, by simp [intOf]; omega⟩
    · obtain rfl : k = n := by omega
      go_wp2_with (fail)
      go_loopw [5, 6] (fun v y wr => ∃ (j m : Nat) (xs : List Value), j ≤ k - 1 ∧ m = j + 1 ∧ y = .int .i64 (m : Int) ∧ wr.ownsRow w.heap.size 29 1 v j xs ∧ (∀ i, i < j → ∃ r, xs[i]? = some (.float .f32 r) ∧ Fl .f32 r (fco2 L i)) ∧ Ext w wr) (fun _ y _ => k - (intOf y).toNat)
      case atStart => exact ⟨0, 1, [], Nat.zero_le _, rfl, rfl, World.ownsRow_made _ _ 0 (Nat.le_refl _) (Nat.zero_le _) rfl, fun j hj => absurd hj (Nat.not_lt_zero _), (by repeat (first | assumption | exact Ext.refl _ | apply Ext.drewN | apply Ext.drew | apply Ext.alloc | (refine Ext.trans ?_ (by assumption)) | (refine Ext.set ?_ (by dsimp only; omega) _)))⟩
      case round =>
        obtain ⟨j, m, xs, hj, hm, rfl, hown, hxs, hx⟩ := hrel
        have HX := Lib.hid hxs
        clear hxs
        by_cases hlt : m < k
        · have hlt' : (m : Int) < (k : Int) := by omega
          have hjk' : (j : Int) < (k : Int) := by omega
          have hsub : (m : Int) - 1 = (j : Int) := by omega
          have hw1 : IntKind.i64.wrap ((m : Int) - 1) = (m : Int) - 1 := IntWalk.i64_in _ (by omega)
          have hwr : IntKind.i64.wrap (j : Int) = (j : Int) := IntWalk.i64_in _ (by omega)
          obtain ⟨b, off, rfl, hb, rs, hrl, hrs⟩ := h.words (by omega)
          obtain ⟨hw1, ht1⟩ := hrs m hlt
          obtain ⟨hw0, ht0⟩ := hrs j (by omega)
          clear hrs
          have hbw : b < w.heap.size := by omega
          have hc1 : wr.cell? ⟨b, off + m, none⟩ = some (.float .f32 (rs.getD m 0)) := (hx.cell hbw).trans hw1
          have hc0 : wr.cell? ⟨b, off + j, none⟩ = some (.float .f32 (rs.getD j 0)) := (hx.cell hbw).trans hw0
          generalize rs.getD m 0 = t1 at hw1 ht1 hc1
          generalize rs.getD j 0 = t0 at hw0 ht0 hc0
          have hT : fco2 L j = fop .quo .f32 (fop .sub .f32 (L.getD m none) (L.getD j none)) (fop .add .f32 (L.getD j none) (L.getD m none)) := by unfold fco2; rw [hm]
          have HT := Lib.hid hT
          have HM := Lib.hid hm
          have HW1 := Lib.hid hw1
          have HW0 := Lib.hid hw0
          have HH := Lib.hid h
          have HLE : j + 1 ≤ 1048576 := by omega
          clear hT hm hw1 hw0 h
          obtain ⟨Ra, Na, qa, fa⟩ := fop_any (P := Try.prog) (op := .add) rfl 29
          obtain ⟨Rs, Ns, qs, fs⟩ := fop_any (P := Try.prog) (op := .sub) rfl 29
          obtain ⟨Rq, Nq, qq, fq⟩ := fop_any (P := Try.prog) (op := .quo) rfl 29
          have FA := Lib.hid fa
          have FS := Lib.hid fs
          have FQ := Lib.hid fq
          clear fa fs fq
          go_wp2_with (fail)
          go_region_held_law (fun W => W.cell? ⟨b, off + m, none⟩ = some (.float .f32 t1) ∧ W.cell? ⟨b, off + j, none⟩ = some (.float .f32 t0)) (first | assumption | exact ⟨hc1, hc0⟩ | exact ⟨((Ext.alloc (Ext.drewN hx _) _).cell hbw).trans HW1.out, ((Ext.alloc (Ext.drewN hx _) _).cell hbw).trans HW0.out⟩ | exact ⟨(hx'.cell hbw).trans HW1.out, (hx'.cell hbw).trans HW0.out⟩) (first | (refine step_append_float (by rfl) (.tmp 26) (.tmp 48) 22 (by rfl) 29 i0 (.float .f32 0) 4 Try.underlying22 hi hz0 hz1 hz2 (by rfl) w.heap.size _ j xs (by rfl) _ _ (by rfl) (by rfl) (by exact hown) (by unfold maxLen; omega) (by omega) (by have := hx.size; simp; omega) ?_; intro v' w4 hown' hgrow; have hl' : xs.length = j := (by have := hown.1; omega); have hx' : Ext w w4 := (by refine grown_ext (xs := xs) (n := j) (e := 29) ?_ ?_ hgrow; exact Ext.alloc (Ext.drewN hx _) _; exact World.ownsRow.alloc (w := wr.drewN _) hown _); clear hown hgrow hx))
          all_goals
            go_wp2_with (fail)
            exact ⟨⟨j + 1, m + 1, _, by omega, by have := HM.out; omega, by go_num, hown', row_step hl' HX.out (by rw [HT.out]; exact FQ.out _ _ _ _ _ (FS.out _ _ _ _ _ ht1 ht0) (FA.out _ _ _ _ _ ht0 ht1)), hx'⟩, by simp [intOf]; omega⟩
        · obtain rfl : j = k - 1 := by omega
          have hlt' : ¬ (m : Int) < (k : Int) := by omega
          have ho4 : OwF wr w.heap.size _ (k - 1) (fco2 L) := ⟨xs, hown, HX.out⟩
          obtain ⟨A4, c4, rfl, ho5⟩ := ho4.owl
          cases hF : fare (lst (fco2 L) (k - 1))
          · have hend := Lib.hid (okC_b hF)
            go_wp2_with (go_at_call 49; refine Calls.mono (c_l03Are ho5.rd (by omega)) ?_; rw [hF]; rintro e w1 ⟨rfl, rfl⟩)
            go_ret2
            rw [hend.out]
            exact retL_no rfl (by repeat (first | assumption | exact Ext.refl _ | apply Ext.drewN | apply Ext.drew | apply Ext.alloc | (refine Ext.trans ?_ (by assumption)) | (refine Ext.set ?_ (by dsimp only; omega) _)))
          · have hend := Lib.hid (okC_yes HB.out hF)
            go_wp2_with (go_at_call 49; refine Calls.mono (c_l03Are ho5.rd (by omega)) ?_; rw [hF]; rintro e w1 ⟨rfl, rfl⟩)
            go_ret2
            rw [hend.out]
            exact ⟨_, _, _, rfl, ho5, hx⟩

set_option maxRecDepth 20000 in
set_option maxHeartbeats 4000000 in
theorem c_impl_CoefficientsOf {w : World} {B n c : Nat} {A : Option Addr} {L : List (Option Nat)} (h : RdF w B A n L) (hB : B ≤ w.heap.size) (hn : n ≤ 1048576) :
    Calls Try.prog 20 #[.slice A n c] w fun e w' => RetL w e w' (okC L n) (lst (fco2 L) (n - 1)) := by
  obtain ⟨i0, hi, hz0, hz1, hz2⟩ := info_parts info_f32
  go_enter Try.func20, Try.ntmps20
  go_wp2_with (fail)
  go_loopw [4, 10] (fun v y wr => ∃ (k : Nat) (xs : List Value), k ≤ n ∧ y = .int .i64 k ∧ (∀ j, j < k → fabove (L.getD j none) = true) ∧ wr.ownsRow w.heap.size 29 1 v (k - 1) xs ∧ (∀ i, i < k - 1 → ∃ r, xs[i]? = some (.float .f32 r) ∧ Fl .f32 r (fco2 L i)) ∧ Ext w wr) (fun _ y _ => n - (intOf y).toNat)
  case atStart => exact ⟨0, [], Nat.zero_le _, rfl, fun j hj => absurd hj (Nat.not_lt_zero _), ⟨rfl, .inl ⟨rfl, rfl⟩⟩, fun j hj => absurd hj (Nat.not_lt_zero _), (by repeat (first | assumption | exact Ext.refl _ | apply Ext.drewN | apply Ext.drew | apply Ext.alloc | (refine Ext.trans ?_ (by assumption)) | (refine Ext.set ?_ (by dsimp only; omega) _)))⟩
  case round =>
    obtain ⟨k, xs, hk, rfl, hb, hown, hxs, hx⟩ := hrel
    have HX := Lib.hid hxs
    have HB := Lib.hid hb
    clear hxs hb
    by_cases hlt : k < n
    · have hlt' : (k : Int) < (n : Int) := by omega
      cases hF : fabove (L.getD k none)
      · obtain ⟨b1, o1, t1, rfl, hb1, hc1, ht1⟩ := (h.below (hx.mono hB)).cell hlt
        have hend := Lib.hid (okC_a hlt hF)
        go_wp2_with (go_at_call 52; refine Calls.mono (c_isPositive ht1) ?_; rw [hF]; rintro e w1 ⟨rfl, n0, rfl⟩)
        go_ret2
        rw [hend.out]
        exact retL_no rfl (by repeat (first | assumption | exact Ext.refl _ | apply Ext.drewN | apply Ext.drew | apply Ext.alloc | (refine Ext.trans ?_ (by assumption)) | (refine Ext.set ?_ (by dsimp only; omega) _)))
      · have HB2 := Lib.hid (ab_step HB.out hF)
        rcases Nat.eq_zero_or_pos k with rfl | hpos
        · obtain ⟨b1, o1, t1, rfl, hb1, hc1, ht1⟩ := (h.below (hx.mono hB)).cell hlt
          have HO := Lib.hid hown
          clear hown
          rw [Nat.add_zero] at hc1
          go_wp2_with (go_at_call 52; refine Calls.mono (c_isPositive ht1) ?_; rw [hF]; rintro e w1 ⟨rfl, n0, rfl⟩)
          exact ⟨⟨1, xs, by omega, by go_num, HB2.out, by exact HO.out, HX.out, Ext.drewN hx _⟩, by simp [intOf]; omega⟩
        · obtain ⟨j, hj⟩ : ∃ j, k = j + 1 := ⟨k - 1, by omega⟩
          obtain ⟨b, off, rfl, hb, rs, hrl, hrs⟩ := h.words (by omega)
          obtain ⟨hw1, ht1⟩ := hrs k hlt
          obtain ⟨hw0, ht0⟩ := hrs j (by omega)
          clear hrs
          have hbw : b < w.heap.size := by omega
          have hc1 : wr.cell? ⟨b, off + k, none⟩ = some (.float .f32 (rs.getD k 0)) := (hx.cell hbw).trans hw1
          have hc0 : wr.cell? ⟨b, off + j, none⟩ = some (.float .f32 (rs.getD j 0)) := (hx.cell hbw).trans hw0
          generalize rs.getD k 0 = t1 at hw1 ht1 hc1
          generalize rs.getD j 0 = t0 at hw0 ht0 hc0
          have hT : fco2 L j = fop .quo .f32 (fop .sub .f32 (L.getD k none) (L.getD j none)) (fop .add .f32 (L.getD j none) (L.getD k none)) := by unfold fco2; rw [hj]
          have HT := Lib.hid hT
          have hsub : (k : Int) - 1 = (j : Int) := by omega
          have hjn : (j : Int) < (n : Int) := by omega
          have hpos' : (0 : Int) < (k : Int) := by omega
          have e1 : k - 1 = j := by omega
          have e2 : k + 1 - 1 = j + 1 := by omega
          rw [e1] at hown
          have HX2 : ∀ i, i < j → ∃ r, xs[i]? = some (.float .f32 r) ∧ Fl .f32 r (fco2 L i) := by rw [← e1]; exact HX.out
          have HX3 := Lib.hid HX2
          have E2 := Lib.hid e2
          have HJ := Lib.hid hj
          have HH := Lib.hid h
          clear hT e1 e2 HX2 hj hw1 hw0 h
          go_wp2_with (first | (go_at_call 52; refine Calls.mono (c_isPositive ht1) ?_; rw [hF]; rintro e w1 ⟨rfl, n0, rfl⟩) | (refine upon_fop (op := .sub) rfl ht1 ht0 ?_; intro r5 n5 hr5) | (refine upon_fop (op := .add) rfl ht0 ht1 ?_; intro r6 n6 hr6) | (refine upon_fop (op := .quo) rfl hr5 hr6 ?_; intro r7 n7 hr7; rw [← HT.out] at hr7) | (at_builtin; refine wpList_append_own _ rfl _ _ 22 rfl w.heap.size 29 i0 (.float .f32 0) 1 4 Try.underlying22 hi hz0 hz1 hz2 rfl (by decide) _ _ _ rfl (World.ownsRow.alloc (w := wr.drewN _) hown _) ⟨wr.heap.size, 0, none⟩ 1 1 [.float .f32 r7] rfl rfl ?_ ?_ ?_ ?_ ?_ ?_))
          all_goals first
            | exact one_new (w := wr.drewN _)
            | (intro u hu; simp at hu; subst hu; rfl)
            | (unfold maxLen; omega)
            | omega
            | (have := hx.size; simp; omega)
            | (intro v' w4 hown' hgrow _
               have hl' : xs.length = j := by have := hown.1; omega
               have hx' : Ext w w4 := grown_ext (Ext.alloc (Ext.drewN hx _) _) (World.ownsRow.alloc (w := wr.drewN _) hown _) hgrow
               have HXX := Lib.hid (row_step hl' HX3.out hr7)
               clear hown hgrow hx
               go_wp2_with (fail)
               exact ⟨⟨k + 1, _, by omega, by go_num, HB2.out, by rw [E2.out]; exact hown', by rw [E2.out]; exact HXX.out, hx'⟩, by simp [intOf]; omega⟩)
    · obtain rfl : k = n := by omega
      have ho4 : OwF wr w.heap.size _ (k - 1) (fco2 L) := ⟨xs, hown, HX.out⟩
      obtain ⟨A4, c4, rfl, ho5⟩ := ho4.owl
      cases hF : fare (lst (fco2 L) (k - 1))
      · have hend := Lib.hid (okC_b hF)
        go_wp2_with (go_at_call 17; refine Calls.mono (c_AreCoefficients ho5.rd (by omega)) ?_; rw [hF]; rintro e w1 ⟨rfl, rfl⟩)
        go_ret2
        rw [hend.out]
        exact retL_no rfl (by repeat (first | assumption | exact Ext.refl _ | apply Ext.drewN | apply Ext.drew | apply Ext.alloc | (refine Ext.trans ?_ (by assumption)) | (refine Ext.set ?_ (by dsimp only; omega) _)))
      · have hend := Lib.hid (okC_yes HB.out hF)
        go_wp2_with (go_at_call 17; refine Calls.mono (c_AreCoefficients ho5.rd (by omega)) ?_; rw [hF]; rintro e w1 ⟨rfl, rfl⟩)
        go_ret2
        rw [hend.out]
        exact ⟨_, _, _, rfl, ho5, hx⟩

theorem both_CoefficientsOf {n0 : Nat} {L0 : List (Option Nat)} (_hl0 : L0.length = n0) (hn0 : n0 ≤ 1048576) :
    ∃ ok Q q, q ≤ 1048576 ∧ (∀ W : World, ∀ (B0 : Nat) (A0 : Option Addr) (c0 : Nat), RdF W B0 A0 n0 L0 → B0 ≤ W.heap.size → Calls Try.prog 19 #[.slice A0 n0 c0] W fun e w' => RetQ W e w' ok q Q) ∧
      (∀ W : World, ∀ (B0 : Nat) (A0 : Option Addr) (c0 : Nat), RdF W B0 A0 n0 L0 → B0 ≤ W.heap.size → Calls Try.prog 20 #[.slice A0 n0 c0] W fun e w' => RetQ W e w' ok q Q) :=
  ⟨okC L0 n0, outL (okC L0 n0) (lst (fco2 L0) (n0 - 1)), (outL (okC L0 n0) (lst (fco2 L0) (n0 - 1))).length, Nat.le_trans (outL_len _ _) (by rw [lst_len]; omega),
    fun W _ _ _ h0 hB0 => Calls.mono (c_spec_CoefficientsOf (w := W) h0 hB0 hn0) (fun _ _ hr => hr.q), fun W _ _ _ h0 hB0 => Calls.mono (c_impl_CoefficientsOf (w := W) h0 hB0 hn0) (fun _ _ hr => hr.q)⟩

end Go.Proofs.Ythgmkipifolbfab
