/- Contracts: how much traces are alike, on both sides. Condition: the gather is read. -/
import Derived.Test.YtceldjkgddbfaaaYf
import Derived.Test.YtceldjkgddbfaaaLo2
namespace Go.Proofs.Ytceldjkgddbfaaa
open Go.RowKit Ieee

/-- The sums of squares: of the sums of all traces, and of all numbers. -/
def ftop (R : List (List (Option Nat))) (n lo : Nat) : Nat → Option Nat
  | 0 => fz
  | j + 1 => fop .add .f32 (ftop R n lo j) (fop .mul .f32 (fcs R (lo + j) n) (fcs R (lo + j) n))
def fbotr (R : List (List (Option Nat))) (k : Nat) (X : Option Nat) : Nat → Option Nat
  | 0 => X
  | i + 1 => fop .add .f32 (fbotr R k X i) (fop .mul .f32 ((R.getD i []).getD k none) ((R.getD i []).getD k none))
def fbot (R : List (List (Option Nat))) (n lo : Nat) : Nat → Option Nat
  | 0 => fz
  | j + 1 => fbotr R (lo + j) (fbot R n lo j) n
def fprod (R : List (List (Option Nat))) (n lo d : Nat) : Option Nat := fop .mul .f32 (some (mk n)) (fbot R n lo d)
def fsem (R : List (List (Option Nat))) (n lo d : Nat) : Option Nat := if gt0 (fprod R n lo d) then fop .quo .f32 (ftop R n lo d) (fprod R n lo d) else fz
theorem fsem_on {R : List (List (Option Nat))} {n lo d : Nat} (h : gt0 (fprod R n lo d) = true) : fsem R n lo d = fop .quo .f32 (ftop R n lo d) (fprod R n lo d) := by unfold fsem; rw [h]; rfl
theorem fsem_off {R : List (List (Option Nat))} {n lo d : Nat} (h : gt0 (fprod R n lo d) = false) : fsem R n lo d = fz := by unfold fsem; rw [h]; rfl
/-- The window of ticks: from lo on, d of them. -/
structure Win (T : Nat) (i r : Int) (lo d : Nat) : Prop where
  i0 : 0 ≤ i
  i1 : i < (T : Int)
  r0 : 0 ≤ r
  r1 : r ≤ 64
  l : (i - r < 0 ∧ lo = 0) ∨ (lo : Int) = i - r
  h : ((T : Int) < i + r + 1 ∧ lo + d = T) ∨ (((lo + d : Nat) : Int) = i + r + 1 ∧ lo + d ≤ T)
theorem win_of {T : Nat} {i r : Int} (h0 : 0 ≤ i) (h1 : i < (T : Int)) (h2 : 0 ≤ r) (h3 : r ≤ 64) : ∃ lo d, Win T i r lo d ∧ 0 < d ∧ lo + d ≤ T := by
  refine ⟨(i - r).toNat, min T (i + r + 1).toNat - (i - r).toNat, ⟨h0, h1, h2, h3, ?_, ?_⟩, ?_, ?_⟩ <;> omega

set_option maxRecDepth 20000 in
set_option maxHeartbeats 400000 in
theorem c_l00Min (i j : Int) (w : World) : Calls Try.prog 131 #[.int .i64 i, .int .i64 j] w fun e w' => e = .returned (.int .i64 (if i < j then i else j)) ∧ w = w' := by
  by_cases h : i < j
  all_goals
    simp only [h, if_true, if_false]
    go_enter Try.func131, Try.ntmps131
    go_wp2_with (fail)
    go_ret
    exact ⟨rfl, rfl⟩
set_option maxRecDepth 20000 in
set_option maxHeartbeats 400000 in
theorem c_l00Max (i j : Int) (w : World) : Calls Try.prog 130 #[.int .i64 i, .int .i64 j] w fun e w' => e = .returned (.int .i64 (if j < i then i else j)) ∧ w = w' := by
  by_cases h : j < i
  all_goals
    simp only [h, if_true, if_false]
    go_enter Try.func130, Try.ntmps130
    go_wp2_with (fail)
    go_ret
    exact ⟨rfl, rfl⟩
set_option maxRecDepth 20000 in
set_option maxHeartbeats 20000000 in
theorem c_l04Semblance {w : World} {B b np cp n ct T lo d : Nat} {i r : Int} {Ap At : Option Addr} {R : List (List (Option Nat))} (hb : GbAt w b (T : Int) Ap np cp At n ct) (hr : RdS w B At n R) (hn : n ≤ 1048576) (hrow : ∀ j, j < n → (R.getD j []).length = T) (hT : T ≤ 64) (hw : Win T i r lo d) (hd : 0 < d) (hdT : lo + d ≤ T) :
    Calls Try.prog 112 #[.pointer (some ⟨b, 0, none⟩), .int .i64 i, .int .i64 r] w fun e w' => ∃ x, e = .returned (.float .f32 x) ∧ Fl .f32 x (fsem R n lo d) ∧ Dr w w' := by
  have p0 := hb.p0
  have p1 := hb.p1
  have p2 := hb.p2
  obtain ⟨g0, g1, g2, g3, g4, g5⟩ := hw
  have cA : ∀ W, Calls Try.prog 130 #[.int .i64 0, .int .i64 (i - r)] W fun e w' => e = .returned (.int .i64 (lo : Int)) ∧ W = w' := fun W => Calls.mono (c_l00Max 0 (i - r) W) (fun _ _ h => ⟨h.1.trans (by congr 2; split <;> omega), h.2⟩)
  have cI : ∀ W, Calls Try.prog 131 #[.int .i64 ((T : Int) - 1), .int .i64 (i + r)] W fun e w' => e = .returned (.int .i64 ((lo + d - 1 : Nat) : Int)) ∧ W = w' := fun W => Calls.mono (c_l00Min ((T : Int) - 1) (i + r) W) (fun _ _ h => ⟨h.1.trans (by congr 2; split <;> omega), h.2⟩)
  obtain ⟨e1, he1⟩ : ∃ e1, lo + d - 1 = e1 := ⟨_, rfl⟩
  rw [he1] at cI
  have CA := Lib.hid cA
  have CI := Lib.hid cI
  have hw1 : IntKind.i64.wrap (i - r) = i - r := IntWalk.i64_in _ (by omega)
  have hw2 : IntKind.i64.wrap (i + r) = i + r := IntWalk.i64_in _ (by omega)
  have hw3 : IntKind.i64.wrap ((T : Int) - 1) = (T : Int) - 1 := IntWalk.i64_in _ (by omega)
  clear cA cI g4 g5
  go_enter Try.func112, Try.ntmps112
  go_wp2_with (first | (go_at_call 130; refine Calls.mono (CA.out _) ?_; rintro e w1 ⟨rfl, rfl⟩))
  go_loopw [7, 8, 9] (fun s u k wr => ∃ (j m x y : Nat), j ≤ d ∧ m = lo + j ∧ k = .int .i64 (m : Int) ∧ s = .float .f32 x ∧ u = .float .f32 y ∧ Fl .f32 x (ftop R n lo j) ∧ Fl .f32 y (fbot R n lo j) ∧ Dr w wr) (fun _ _ k _ => lo + d - (intOf k).toNat)
  case atStart => exact ⟨0, lo, 0, 0, Nat.zero_le _, rfl, rfl, rfl, rfl, fl_fz, fl_fz, 0, rfl⟩
  case round =>
    obtain ⟨j, m, x, y, hj, hm, rfl, rfl, rfl, hx, hy, q, rfl⟩ := hrel
    by_cases hlt : j < d
    · have hle : (m : Int) ≤ (e1 : Int) := by omega
      have hmT : m < T := by omega
      have hmT' : (m : Int) < (T : Int) := by omega
      have cs := c_l04Sum (k := m) (hb.ext (Dr.below ⟨q, rfl⟩)) (hr.keep (w' := w.drewN q) (fun _ _ => rfl)) hn hrow hmT (by omega)
      have CS := Lib.hid cs
      have hqb := nlive_le R m n
      have hF : ftop R n lo (j + 1) = fop .add .f32 (ftop R n lo j) (fop .mul .f32 (fcs R m n) (fcs R m n)) := by rw [hm]; rfl
      have HF := Lib.hid hF
      have hM2 : m + 1 = lo + (j + 1) := by omega
      have HM := Lib.hid hm
      have HM2 := Lib.hid hM2
      clear cs hF hm hM2
      go_wp2_with (first | (go_at_call 131; refine Calls.mono (CI.out _) ?_; rintro e w1 ⟨rfl, rfl⟩) | (go_at_call 132; refine Calls.mono CS.out ?_; rintro e w5 ⟨r5, rfl, hr5, n5, rfl⟩) | (apply upon_fop rfl; (exact hr5); (exact hr5); intro r6 n6 hr6) | (apply upon_fop rfl; (exact hx); (exact hr6); intro r7 n7 hr7; rw [← HF.out] at hr7))
      go_loopw [8, 12] (fun u i wi => ∃ (t y q2 : Nat), t ≤ n ∧ i = .int .i64 t ∧ u = .float .f32 y ∧ Fl .f32 y (fbotr R m (fbot R n lo j) t) ∧ wi = w.drewN q2) (fun _ i _ => n - (intOf i).toNat)
      case atStart => exact ⟨0, y, _, Nat.zero_le _, rfl, rfl, hy, rfl⟩
      case round =>
        obtain ⟨t, y, q2, ht, rfl, rfl, hy2, rfl⟩ := hrel
        by_cases hlj : t < n
        · have hlj' : (t : Int) < (n : Int) := by omega
          obtain ⟨b1, o1, A1, c1, rfl, hb1, hc1, hr1, hl1⟩ := hr.cell hlj
          rw [hrow t hlj] at hc1 hr1 hl1
          obtain ⟨b2, o2, v2, rfl, hb2, hc2, hx2⟩ := hr1.cell hmT
          have hG : fbotr R m (fbot R n lo j) (t + 1) = fop .add .f32 (fbotr R m (fbot R n lo j) t) (fop .mul .f32 ((R.getD t []).getD m none) ((R.getD t []).getD m none)) := rfl
          have HG := Lib.hid hG
          clear hG hr1 hl1
          go_wp2_with (fail)
          refine wp_region_loose 23 (by kernel_rfl) (by kernel_rfl) ?_
          simp only [List.take_succ_cons, List.take_zero, List.drop_succ_cons, List.drop_zero]
          refine la_start ?_
          refine la_fix _ (by rfl) (by intros; go_simp; rfl) ?_
          try simp only [Act.put, List.setIfInBounds_toArray, List.set_cons_zero, List.set_cons_succ]
          refine la_fix _ (by rfl) (by intros; go_simp; rfl) ?_
          try simp only [Act.put, List.setIfInBounds_toArray, List.set_cons_zero, List.set_cons_succ]
          refine la_fix _ (by rfl) (by intros; go_simp; rfl) ?_
          try simp only [Act.put, List.setIfInBounds_toArray, List.set_cons_zero, List.set_cons_succ]
          refine la_fix _ (by rfl) (by intros; go_simp; rfl) ?_
          try simp only [Act.put, List.setIfInBounds_toArray, List.set_cons_zero, List.set_cons_succ]
          refine la_fix _ (by rfl) (by intros; go_simp; rfl) ?_
          try simp only [Act.put, List.setIfInBounds_toArray, List.set_cons_zero, List.set_cons_succ]
          refine la_fix _ (by rfl) (by intros; go_simp; rfl) ?_
          try simp only [Act.put, List.setIfInBounds_toArray, List.set_cons_zero, List.set_cons_succ]
          refine la_fix _ (by rfl) (by intros; go_simp; rfl) ?_
          try simp only [Act.put, List.setIfInBounds_toArray, List.set_cons_zero, List.set_cons_succ]
          refine la_fix _ (by rfl) (by intros; go_simp; rfl) ?_
          try simp only [Act.put, List.setIfInBounds_toArray, List.set_cons_zero, List.set_cons_succ]
          refine la_fix _ (by rfl) (by intros; go_simp; rfl) ?_
          try simp only [Act.put, List.setIfInBounds_toArray, List.set_cons_zero, List.set_cons_succ]
          refine la_fix _ (by rfl) (by intros; go_simp; rfl) ?_
          try simp only [Act.put, List.setIfInBounds_toArray, List.set_cons_zero, List.set_cons_succ]
          refine la_fix _ (by rfl) (by intros; go_simp; rfl) ?_
          try simp only [Act.put, List.setIfInBounds_toArray, List.set_cons_zero, List.set_cons_succ]
          refine la_fix _ (by rfl) (by intros; go_simp; rfl) ?_
          try simp only [Act.put, List.setIfInBounds_toArray, List.set_cons_zero, List.set_cons_succ]
          refine la_fix _ (by rfl) (by intros; go_simp; rfl) ?_
          try simp only [Act.put, List.setIfInBounds_toArray, List.set_cons_zero, List.set_cons_succ]
          refine la_fix _ (by rfl) (by intros; go_simp; rfl) ?_
          try simp only [Act.put, List.setIfInBounds_toArray, List.set_cons_zero, List.set_cons_succ]
          refine la_fix _ (by rfl) (by intros; go_simp; rfl) ?_
          try simp only [Act.put, List.setIfInBounds_toArray, List.set_cons_zero, List.set_cons_succ]
          refine la_fix _ (by rfl) (by intros; go_simp; rfl) ?_
          try simp only [Act.put, List.setIfInBounds_toArray, List.set_cons_zero, List.set_cons_succ]
          refine la_fix _ (by rfl) (by intros; go_simp; rfl) ?_
          try simp only [Act.put, List.setIfInBounds_toArray, List.set_cons_zero, List.set_cons_succ]
          refine la_fix _ (by rfl) (by intros; go_simp; rfl) ?_
          try simp only [Act.put, List.setIfInBounds_toArray, List.set_cons_zero, List.set_cons_succ]
          refine la_fix _ (by rfl) (by intros; go_simp; rfl) ?_
          try simp only [Act.put, List.setIfInBounds_toArray, List.set_cons_zero, List.set_cons_succ]
          refine la_fix _ (by rfl) (by intros; go_simp; rfl) ?_
          try simp only [Act.put, List.setIfInBounds_toArray, List.set_cons_zero, List.set_cons_succ]
          refine la_fix _ (by rfl) (by intros; go_simp; rfl) ?_
          try simp only [Act.put, List.setIfInBounds_toArray, List.set_cons_zero, List.set_cons_succ]
          refine la_fop (op := .mul) (by rfl) (by rfl) (by intros; refine ⟨_, _, ?_, ?_, fun q => (by go_simp; rfl)⟩ <;> (first | assumption | exact fl_fu | exact fl_fz)) ?_
          try simp only [Act.put, List.setIfInBounds_toArray, List.set_cons_zero, List.set_cons_succ]
          refine la_fop (op := .add) (by rfl) (by rfl) (by intros; refine ⟨_, _, ?_, ?_, fun q => (by go_simp; rfl)⟩ <;> (first | assumption | exact fl_fu | exact fl_fz)) ?_
          try simp only [Act.put, List.setIfInBounds_toArray, List.set_cons_zero, List.set_cons_succ]
          refine la_end ?_
          intro r6 hr6 r7 hr7 q3
          rw [← HG.out] at hr7
          go_wp2_with (fail)
          exact ⟨⟨t + 1, r7, _, by omega, by go_num, rfl, hr7, by first | rfl | exact World.drewN_drewN _ _ _⟩, by simp [intOf]; omega⟩
        · obtain rfl : t = n := by omega
          have hfb : Fl .f32 y (fbot R t lo (j + 1)) := by
            show Fl .f32 y (fbotr R (lo + j) (fbot R t lo j) t)
            rw [← HM.out]; exact hy2
          go_wp2_with (fail)
          exact ⟨⟨j + 1, m + 1, r7, y, by omega, HM2.out, by go_num, rfl, rfl, hr7, hfb, _, rfl⟩, by simp [intOf]; omega⟩
    · have hle : ¬ (m : Int) ≤ (e1 : Int) := by omega
      obtain rfl : j = d := by omega
      have hmn := mk_int n
      cases hZ : gt0 (fprod R n lo j)
      · have hFS := Lib.hid (fsem_off hZ)
        have HZ := Lib.hid hZ
        clear hZ hm
        go_wp2_with (first | (go_at_call 131; refine Calls.mono (CI.out _) ?_; rintro e w1 ⟨rfl, rfl⟩) | (apply upon_fop rfl; (exact fl_mk n); (exact hy); intro r6 n6 hr6; have hg0 := hr6.ogt0; rw [show gt0 (fop .mul .f32 (some (mk n)) (fbot R n lo j)) = false from HZ.out] at hg0))
        go_ret
        exact ⟨_, rfl, by rw [hFS.out]; exact fl_fz, _, rfl⟩
      · have hFS := Lib.hid (fsem_on hZ)
        have HZ := Lib.hid hZ
        clear hZ hm
        go_wp2_with (first | (go_at_call 131; refine Calls.mono (CI.out _) ?_; rintro e w1 ⟨rfl, rfl⟩) | (apply upon_fop rfl; (exact fl_mk n); (exact hy); intro r6 n6 hr6; have hg0 := hr6.ogt0; rw [show gt0 (fop .mul .f32 (some (mk n)) (fbot R n lo j)) = true from HZ.out] at hg0) | (apply upon_fop rfl; (exact hx); (exact hr6); intro r7 n7 hr7))
        go_ret
        exact ⟨_, rfl, by rw [hFS.out]; exact hr7, _, rfl⟩
end Go.Proofs.Ytceldjkgddbfaaa
