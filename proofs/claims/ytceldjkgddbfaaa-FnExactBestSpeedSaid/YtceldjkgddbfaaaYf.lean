/- Contracts: sums of all traces at a tick, and their means, on both sides. Condition: the gather is read. -/
import Derived.Test.YtceldjkgddbfaaaYe
import Derived.Test.YtceldjkgddbfaaaWc
namespace Go.Proofs.Ytceldjkgddbfaaa
open Go.RowKit Ieee

/-- The sum of a column, and how many of its numbers are not zero. -/
def fcs (R : List (List (Option Nat))) (k : Nat) : Nat → Option Nat
  | 0 => fz
  | i + 1 => fop .add .f32 (fcs R k i) ((R.getD i []).getD k none)
def nlive (R : List (List (Option Nat))) (k : Nat) : Nat → Nat
  | 0 => 0
  | i + 1 => nlive R k i + (if fzero32 ((R.getD i []).getD k none) then 0 else 1)
theorem nlive_on {R : List (List (Option Nat))} {k i : Nat} (h : fzero32 ((R.getD i []).getD k none) = true) : nlive R k (i + 1) = nlive R k i := by
  show nlive R k i + (if fzero32 ((R.getD i []).getD k none) then 0 else 1) = _; rw [h]; rfl
theorem nlive_off {R : List (List (Option Nat))} {k i : Nat} (h : fzero32 ((R.getD i []).getD k none) = false) : nlive R k (i + 1) = nlive R k i + 1 := by
  show nlive R k i + (if fzero32 ((R.getD i []).getD k none) then 0 else 1) = _; rw [h]; rfl
theorem nlive_le (R : List (List (Option Nat))) (k : Nat) : ∀ i, nlive R k i ≤ i
  | 0 => Nat.le_refl _
  | i + 1 => by
    have := nlive_le R k i
    show nlive R k i + (if fzero32 ((R.getD i []).getD k none) then 0 else 1) ≤ i + 1
    split <;> omega
def fstack (R : List (List (Option Nat))) (n k : Nat) : Option Nat := fop .quo .f32 (fcs R k n) (some (mk n))
def fmean0 (S : Option Nat) (l : Nat) : Option Nat := if l = 0 then fz else fop .quo .f32 S (some (mk l))
def flive (R : List (List (Option Nat))) (n k : Nat) : Option Nat := fmean0 (fcs R k n) (nlive R k n)
theorem fmean0_z {S : Option Nat} {l : Nat} (h : l = 0) : fmean0 S l = fz := if_pos h
theorem fmean0_p {S : Option Nat} {l : Nat} (h : ¬ l = 0) : fmean0 S l = fop .quo .f32 S (some (mk l)) := if_neg h
/-- != 0 of a float. -/
theorem nzero32 (b : Nat) : (FloatKind.f32.format.order b 0 != some .eq) = !fzero32 (fl .f32 b) := by
  rw [← zero32]; rfl

theorem grown_extB {w W1 w1 w' : World} {o : Obj} {v : Value} {n : Nat} {e : TypeId} {xs : List Value} (hW : W1 = w.alloc o) (hx : Ext W1 w1) (hown : w1.ownsRow (w.heap.size + 1) e 1 v n xs) (hg : w1.grownBy w' v.ownBlock) : Ext W1 w' := by
  have hs : W1.heap.size = w.heap.size + 1 := by rw [hW]; simp
  exact Below.grown hx hg hx.size (fun k hk => by rw [hs]; exact (hown.lt k hk).1)

set_option maxRecDepth 20000 in
set_option maxHeartbeats 4000000 in
theorem c_l04Sum {w : World} {B b np cp n ct k T : Nat} {t : Int} {Ap At : Option Addr} {R : List (List (Option Nat))} (hb : GbAt w b t Ap np cp At n ct) (hr : RdS w B At n R) (hn : n ≤ 1048576) (hrow : ∀ j, j < n → (R.getD j []).length = T) (hk : k < T) (_hT : T ≤ 1048576) :
    Calls Try.prog 132 #[.pointer (some ⟨b, 0, none⟩), .int .i64 (k : Int)] w fun e w' => ∃ r, e = .returned (.tuple #[.float .f32 r, .int .i64 (nlive R k n : Int)]) ∧ Fl .f32 r (fcs R k n) ∧ Dr w w' := by
  have p0 := hb.p0
  have p1 := hb.p1
  have p2 := hb.p2
  have hkT : (k : Int) < (T : Int) := by omega
  go_enter Try.func132, Try.ntmps132
  go_wp2_with (fail)
  go_loopw [6, 7, 8] (fun s l i wr => ∃ (j r q : Nat), j ≤ n ∧ i = .int .i64 j ∧ s = .float .f32 r ∧ q = nlive R k j ∧ l = .int .i64 (q : Int) ∧ Fl .f32 r (fcs R k j) ∧ Dr w wr) (fun _ _ i _ => n - (intOf i).toNat)
  case atStart => exact ⟨0, 0, 0, Nat.zero_le _, rfl, rfl, rfl, rfl, fl_fz, 0, rfl⟩
  case round =>
    obtain ⟨j, r, q, hj, rfl, rfl, hq, rfl, hs, m, rfl⟩ := hrel
    by_cases hlt : j < n
    · have hlt' : (j : Int) < (n : Int) := by omega
      obtain ⟨b1, o1, A1, c1, rfl, hb1, hc1, hr1, hl1⟩ := hr.cell hlt
      rw [hrow j hlt] at hc1 hr1 hl1
      obtain ⟨b2, o2, x, rfl, hb2, hc2, hx2⟩ := hr1.cell hk
      have hnz := nzero32 x
      rw [hx2.eq] at hnz
      have hqb := nlive_le R k j
      have hqn : q ≤ 1048576 := by omega
      have hF : fcs R k (j + 1) = fop .add .f32 (fcs R k j) ((R.getD j []).getD k none) := rfl
      have HF := Lib.hid hF
      cases hZ : fzero32 ((R.getD j []).getD k none)
      · have hq2 : q + 1 = nlive R k (j + 1) := by rw [nlive_off hZ, hq]
        have HQ := Lib.hid hq2
        rw [hZ] at hnz
        clear hF hq2 hZ hr1 hq
        go_wp2_with (apply upon_fop rfl; (exact hs); (exact hx2); intro r6 n6 hr6; rw [← HF.out] at hr6)
        exact ⟨⟨j + 1, r6, q + 1, by omega, by go_num, rfl, HQ.out, by go_num, hr6, _, rfl⟩, by simp [intOf]; omega⟩
      · have hq2 : q = nlive R k (j + 1) := by rw [nlive_on hZ, hq]
        have HQ := Lib.hid hq2
        rw [hZ] at hnz
        clear hF hq2 hZ hr1 hq
        go_wp2_with (apply upon_fop rfl; (exact hs); (exact hx2); intro r6 n6 hr6; rw [← HF.out] at hr6)
        exact ⟨⟨j + 1, r6, q, by omega, by go_num, rfl, HQ.out, rfl, hr6, _, rfl⟩, by simp [intOf]; omega⟩
    · obtain rfl : j = n := by omega
      have HQ := Lib.hid hq
      clear hq
      go_wp2_with (fail)
      go_ret2
      exact ⟨r, by rw [← HQ.out]; rfl, hs, _, rfl⟩







end Go.Proofs.Ytceldjkgddbfaaa
