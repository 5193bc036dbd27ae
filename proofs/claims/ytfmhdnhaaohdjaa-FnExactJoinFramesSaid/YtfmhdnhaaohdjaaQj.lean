/- Contracts: whether a list are frames, on both sides. Condition: the list is read. -/
import Derived.Test.YtfmhdnhaaohdjaaQb
import Derived.Test.YtfmhdnhaaohdjaaQg
namespace Go.Proofs.Ytfmhdnhaaohdjaa
open Go.RowKit Go.ChangeShapes Go.WideShapes Go.Deep Ieee
set_option linter.unusedVariables false
set_option linter.unusedSimpArgs false

/-- A list are frames. -/
def allM (R : List Sct) : Bool := R.all fvF
def areM (R : List Sct) : Bool := allM R && decide (R.length ≤ 12)
theorem allM_no {R : List Sct} {k : Nat} (h : k < R.length) (hf : fvF (R.getD k noT) = false) : allM R = false := by
  rw [Bool.eq_false_iff]
  intro ha
  unfold allM at ha
  rw [List.all_eq_true] at ha
  have := ha (R.getD k noT) (by simp [List.getD, h])
  rw [hf] at this; cases this
theorem allM_step {R : List Sct} {k : Nat} (h : k < R.length) (ha : allM (R.take k) = true) (hf : fvF (R.getD k noT) = true) : allM (R.take (k + 1)) = true := by
  unfold allM at *
  rw [take_succ_getD R noT k h, List.all_append, ha]; simpa using hf
theorem allM_end {R : List Sct} {n : Nat} (h : R.length = n) (ha : allM (R.take n) = true) : allM R = true := by
  rwa [List.take_of_length_le (by omega)] at ha
theorem allM_at {R : List Sct} {k : Nat} (h : k < R.length) (ha : allM R = true) : fvF (R.getD k noT) = true := by
  unfold allM at ha
  rw [List.all_eq_true] at ha
  exact ha (R.getD k noT) (by simp [List.getD, h])
theorem areM_no {R : List Sct} {k : Nat} (h : k < R.length) (hf : fvF (R.getD k noT) = false) : areM R = false := by unfold areM; rw [allM_no h hf]; rfl
theorem areM_end {R : List Sct} {n : Nat} (h : R.length = n) (ha : allM (R.take n) = true) : areM R = decide ((n : Int) ≤ 12) := by
  unfold areM; rw [allM_end h ha, h, Bool.true_and]
  by_cases h1 : n ≤ 12
  · rw [decide_eq_true h1, decide_eq_true (by omega)]
  · rw [decide_eq_false h1, decide_eq_false (by omega)]
theorem areM_of {R : List Sct} (h : areM R = true) : R.length ≤ 12 ∧ ∀ j, j < R.length → fvF (R.getD j noT) = true := by
  unfold areM at h; rw [Bool.and_eq_true] at h
  exact ⟨of_decide_eq_true h.2, fun j hj => allM_at hj h.1⟩
/-- What a valid frame has. -/
theorem fvF_of {S : Sct} (h : fvF S = true) : 0 ≤ S.x ∧ S.x ≤ 200 ∧ 0 ≤ S.z ∧ S.z ≤ 100000 ∧ 1 ≤ S.v.length ∧ S.v.length ≤ 128 ∧ allL fkept S.v = true := by
  unfold fvF fgoodF at h
  simp only [Bool.and_eq_true] at h
  obtain ⟨h1, h2, h3, h4⟩ := h
  exact ⟨(inB_of h1).1, (inB_of h1).2, (inB_of h2).1, (inB_of h2).2, (tlen_of h3).1, (tlen_of h3).2, h4⟩
set_option maxRecDepth 20000 in
set_option maxHeartbeats 4000000 in
theorem c_l07Are {w : World} {B n c : Nat} {A : Option Addr} {R : List Sct} (h : RdM w B A n R) (hn : n ≤ 1048576) (hr : ∀ j, j < n → (R.getD j noT).v.length ≤ 1048576) :
    Calls Try.prog 67 #[.slice A n c] w fun e w' => e = .returned (.bool (areM R)) ∧ Dr w w' := by
  have hl := Lib.hid h.len
  go_enter Try.func67, Try.ntmps67
  go_wp2_with (fail)
  go_loopw [6] (fun i wr => ∃ k : Nat, k ≤ n ∧ i = .int .i64 k ∧ allM (R.take k) = true ∧ Dr w wr) (fun i _ => n - (intOf i).toNat)
  case atStart => exact ⟨0, Nat.zero_le _, rfl, rfl, 0, rfl⟩
  case round =>
    obtain ⟨k, hk, rfl, ha, m, rfl⟩ := hrel
    have HA := Lib.hid ha
    clear ha
    by_cases hlt : k < n
    · have hlt' : (k : Int) < (n : Int) := by omega
      obtain ⟨b1, o1, A1, c1, rfl, hb1, hc1, hrd, hlc⟩ := (h.drewN m).cell hlt
      have cI := c_l07Is hc1.p0 hc1.p1 hc1.p2 hrd (hr k hlt)
      have CI := Lib.hid cI
      clear cI
      cases hF : fvF (R.getD k noT)
      · have hend := Lib.hid (areM_no (R := R) (k := k) (by have := hl.out; omega) hF).symm
        go_wp2_with (go_at_call 62; refine Calls.mono CI.out ?_; rw [hF]; rintro e w' ⟨rfl, n2, rfl⟩)
        go_ret
        exact ⟨retb hend.out, _, rfl⟩
      · have hst := Lib.hid (allM_step (R := R) (k := k) (by have := hl.out; omega) HA.out hF)
        go_wp2_with (go_at_call 62; refine Calls.mono CI.out ?_; rw [hF]; rintro e w' ⟨rfl, n2, rfl⟩)
        exact ⟨⟨k + 1, by omega, by go_num, hst.out, _, rfl⟩, by simp [intOf]; omega⟩
    · obtain rfl : k = n := by omega
      have hend := Lib.hid (areM_end hl.out HA.out)
      clear HA
      by_cases h12 : (k : Int) ≤ 12
      all_goals
        rw [show decide ((k : Int) ≤ 12) = _ from by first | exact decide_eq_true h12 | exact decide_eq_false h12] at hend
        go_wp2_with (fail)
        go_ret
        exact ⟨retb hend.out.symm, _, rfl⟩
set_option maxRecDepth 20000 in
set_option maxHeartbeats 4000000 in
theorem c_impl_AreFrames {w : World} {B n c : Nat} {A : Option Addr} {R : List Sct} (h : RdM w B A n R) (hB : B ≤ w.heap.size) (hn : n ≤ 1048576) (hr : ∀ j, j < n → (R.getD j noT).v.length ≤ 1048576) :
    Calls Try.prog 23 #[.slice A n c] w fun e w' => e = .returned (.bool (areM R)) ∧ Ext w w' := by
  have hl := Lib.hid h.len
  go_enter Try.func23, Try.ntmps23
  go_wp2_with (fail)
  go_loopw [7] (fun i wr => ∃ k : Nat, k ≤ n ∧ i = .int .i64 k ∧ allM (R.take k) = true ∧ Ext w wr) (fun i _ => n - (intOf i).toNat)
  case atStart => exact ⟨0, Nat.zero_le _, rfl, rfl, (by repeat (first | assumption | exact Ext.refl _ | apply Ext.drewN | apply Ext.drew | apply Ext.alloc | (refine Ext.trans ?_ (by assumption)) | (refine Ext.set ?_ (by dsimp only; omega) _)))⟩
  case round =>
    obtain ⟨k, hk, rfl, ha, hx⟩ := hrel
    have HA := Lib.hid ha
    clear ha
    by_cases hlt : k < n
    · have hlt' : (k : Int) < (n : Int) := by omega
      obtain ⟨b1, o1, A1, c1, rfl, hb1, hc1, hrd⟩ := (h.below (hx.mono hB)).val hlt
      have hrk := hr k hlt
      have hbw := Nat.le_trans hB hx.size
      obtain ⟨d0, d1, d2⟩ := hc1
      have cV := fun (W : World) (hX : Ext wr W) => c_impl_ValidFrame (w := W) (hrd.below (hX.mono hbw)) (Nat.le_trans hbw hX.size) hrk
      obtain ⟨X, hXe⟩ : ∃ x, (R.getD k noT).x = x := ⟨_, rfl⟩
      obtain ⟨Z, hZe⟩ : ∃ x, (R.getD k noT).z = x := ⟨_, rfl⟩
      obtain ⟨Lk, hLe⟩ : ∃ x, (R.getD k noT).v.length = x := ⟨_, rfl⟩
      have CV := Lib.hid cV
      rw [hXe, hLe, hZe] at CV
      rw [hXe] at d0
      rw [hZe] at d1
      rw [hLe] at d2
      obtain ⟨q0, q1, q2⟩ : SbAt (wr.alloc (.cells #[.int .i64 X, .int .i64 Z, .slice A1 Lk c1] 27)) wr.heap.size X Z A1 Lk c1 := SbAt.blk (T := 27) (by repeat (first | (refine al_at ?_ ?_ <;> first | rfl | (simp only [al_size] <;> omega)) | apply al_old))
      clear cV hrd hXe hZe hLe hrk
      cases hF : fvF (R.getD k noT)
      · have hend := Lib.hid (areM_no (R := R) (k := k) (by have := hl.out; omega) hF).symm
        rw [hF] at CV
        clear hF
        go_wp2_with (go_at_call 18; refine Calls.mono (CV.out _ (by repeat (first | assumption | exact Ext.refl _ | apply Ext.drewN | apply Ext.drew | apply Ext.alloc | (refine Ext.trans ?_ (by assumption)) | (refine Ext.set ?_ (by dsimp only; omega) _)))) ?_; rintro e w' ⟨rfl, hx2⟩)
        go_ret
        exact ⟨retb hend.out, (by repeat (first | assumption | exact Ext.refl _ | apply Ext.drewN | apply Ext.drew | apply Ext.alloc | (refine Ext.trans ?_ (by assumption)) | (refine Ext.set ?_ (by dsimp only; omega) _)))⟩
      · have hst := Lib.hid (allM_step (R := R) (k := k) (by have := hl.out; omega) HA.out hF)
        rw [hF] at CV
        clear hF
        go_wp2_with (go_at_call 18; refine Calls.mono (CV.out _ (by repeat (first | assumption | exact Ext.refl _ | apply Ext.drewN | apply Ext.drew | apply Ext.alloc | (refine Ext.trans ?_ (by assumption)) | (refine Ext.set ?_ (by dsimp only; omega) _)))) ?_; rintro e w' ⟨rfl, hx2⟩)
        exact ⟨⟨k + 1, by omega, by go_num, hst.out, (by repeat (first | assumption | exact Ext.refl _ | apply Ext.drewN | apply Ext.drew | apply Ext.alloc | (refine Ext.trans ?_ (by assumption)) | (refine Ext.set ?_ (by dsimp only; omega) _)))⟩, by simp [intOf]; omega⟩
    · obtain rfl : k = n := by omega
      have hend := Lib.hid (areM_end hl.out HA.out)
      clear HA
      by_cases h12 : (k : Int) ≤ 12
      all_goals
        rw [show decide ((k : Int) ≤ 12) = _ from by first | exact decide_eq_true h12 | exact decide_eq_false h12] at hend
        go_wp2_with (fail)
        go_ret
        exact ⟨retb hend.out.symm, hx⟩
set_option maxRecDepth 20000 in
set_option maxHeartbeats 4000000 in
theorem c_spec_AreFrames {w : World} {B n c : Nat} {A : Option Addr} {R : List Sct} (h : RdM w B A n R) (hB : B ≤ w.heap.size) (hn : n ≤ 1048576) (hr : ∀ j, j < n → (R.getD j noT).v.length ≤ 1048576) :
    Calls Try.prog 21 #[.slice A n c] w fun e w' => e = .returned (.bool (areM R)) ∧ Ext w w' := by
  go_enter Try.func21, Try.ntmps21
  go_wp2_with (go_at_call 67; refine Calls.mono (c_l07Are h hn hr) ?_; rintro e w' ⟨rfl, n2, rfl⟩)
  go_ret
  exact ⟨rfl, (by repeat (first | assumption | exact Ext.refl _ | apply Ext.drewN | apply Ext.drew | apply Ext.alloc | (refine Ext.trans ?_ (by assumption)) | (refine Ext.set ?_ (by dsimp only; omega) _)))⟩
theorem both_AreFrames {n0 : Nat} {R0 : List Sct} (_hl0 : R0.length = n0) (hn0 : n0 ≤ 1048576) (hr0 : ∀ j, j < n0 → (R0.getD j noT).v.length ≤ 1048576) (_ht0 : totM R0 ≤ 1048576) (_hok0 : ∀ j, j < n0 → (R0.getD j noT).Ok) :
    ∃ X, (∀ W : World, ∀ (B0 : Nat) (A0 : Option Addr) (c0 : Nat), RdM W B0 A0 n0 R0 → B0 ≤ W.heap.size → Calls Try.prog 21 #[.slice A0 n0 c0] W fun e w' => e = .returned (.bool X) ∧ Ext W w') ∧
      (∀ W : World, ∀ (B0 : Nat) (A0 : Option Addr) (c0 : Nat), RdM W B0 A0 n0 R0 → B0 ≤ W.heap.size → Calls Try.prog 23 #[.slice A0 n0 c0] W fun e w' => e = .returned (.bool X) ∧ Ext W w') :=
  ⟨areM R0, fun _ _ _ _ h0 hB0 => c_spec_AreFrames h0 hB0 hn0 hr0, fun _ _ _ _ h0 hB0 => c_impl_AreFrames h0 hB0 hn0 hr0⟩
end Go.Proofs.Ytfmhdnhaaohdjaa
