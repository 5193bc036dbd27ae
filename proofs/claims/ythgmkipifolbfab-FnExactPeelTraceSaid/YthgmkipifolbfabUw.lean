/- Contracts: waves at a boundary. Condition: the coefficient is kept. -/
import Derived.Test.YthgmkipifolbfabUa
import Derived.Test.YthgmkipifolbfabTn
import Derived.Test.YthgmkipifolbfabRl
import Derived.Test.YthgmkipifolbfabUp
import Derived.Deep.RegionHeld
namespace Go.Proofs.Ythgmkipifolbfab
open Go.RowKit Ieee

def fup (R D U : Option Nat) : Option Nat := fop .add .f32 (fop .mul .f32 R D) (fop .mul .f32 (fop .sub .f32 fu R) U)
def fdn (R D U : Option Nat) : Option Nat := fop .sub .f32 (fop .mul .f32 (fop .add .f32 fu R) D) (fop .mul .f32 R U)
def fbel (R D U : Option Nat) : Option Nat := fop .quo .f32 (fop .sub .f32 U (fop .mul .f32 R D)) (fop .sub .f32 fu R)
def fag (S U : Option Nat) : Option Nat := fneg32 (fop .mul .f32 S U)
def stU (L D U : List (Option Nat)) (j : Nat) : Option Nat := if j < L.length then fup (L.getD j none) (D.getD j none) (U.getD (j + 1) none) else fz
def stD (L D U : List (Option Nat)) (S : Option Nat) : Nat → Option Nat
  | 0 => fag S (U.getD 0 none)
  | j + 1 => fdn (L.getD j none) (D.getD j none) (U.getD (j + 1) none)
/-- What is set already of the waves down, but the first. -/
def stDk (L D U : List (Option Nat)) (k j : Nat) : Option Nat := if 1 ≤ j ∧ j ≤ k then fdn (L.getD (j - 1) none) (D.getD (j - 1) none) (U.getD j none) else fz
theorem stDk_zero (L D U : List (Option Nat)) (j : Nat) : stDk L D U 0 j = fz := by unfold stDk; rw [if_neg (by omega)]
theorem stDk_at (L D U : List (Option Nat)) (k : Nat) : stDk L D U (k + 1) (k + 1) = fdn (L.getD k none) (D.getD k none) (U.getD (k + 1) none) := by unfold stDk; rw [if_pos (by omega), Nat.add_sub_cancel]
theorem stDk_other {L D U : List (Option Nat)} {k j : Nat} (h : j ≠ k + 1) : stDk L D U k j = stDk L D U (k + 1) j := by
  unfold stDk
  by_cases h1 : 1 ≤ j ∧ j ≤ k
  · rw [if_pos h1, if_pos (by omega)]
  · rw [if_neg h1, if_neg (by omega)]
theorem stDk_end {L D U : List (Option Nat)} {S : Option Nat} {n j : Nat} (h0 : j ≠ 0) (hj : j < n + 1) : stDk L D U n j = stD L D U S j := by
  cases j with
  | zero => exact absurd rfl h0
  | succ j => unfold stDk; rw [if_pos (by omega), Nat.add_sub_cancel]; rfl
theorem stU_at {L D U : List (Option Nat)} {k n : Nat} (hl : L.length = n) (h : k < n) : stU L D U k = fup (L.getD k none) (D.getD k none) (U.getD (k + 1) none) := by unfold stU; rw [if_pos (by omega)]
theorem stU_end {L D U : List (Option Nat)} {n j : Nat} (hl : L.length = n) (hj : j < n + 1) : fsetK (stU L D U) n j = stU L D U j := by
  by_cases h : j < n
  · exact fsetK_all _ h
  · unfold fsetK; rw [if_neg h]; unfold stU; rw [if_neg (by omega)]
/-- The waves after t halves of a sample. -/
def wv (L : List (Option Nat)) (S : Option Nat) (N : Nat) : Nat → (Nat → Option Nat) × (Nat → Option Nat)
  | 0 => (fun j => if j = 0 then fu else fz, fun _ => fz)
  | t + 1 => (stD L (lst (wv L S N t).1 N) (lst (wv L S N t).2 N) S, stU L (lst (wv L S N t).1 N) (lst (wv L S N t).2 N))
def fecho (L : List (Option Nat)) (S : Option Nat) (N : Nat) (k : Nat) : Option Nat := (wv L S N (2 * k + 1)).2 0

set_option maxRecDepth 20000 in
set_option maxHeartbeats 4000000 in
theorem c_up1 {w : World} {g r d u : Nat} {R D U : Option Nat} (hg : w.cell? ⟨g, 0, none⟩ = some (.float .f32 r)) (fr : Fl .f32 r R) (fd : Fl .f32 d D) (fu' : Fl .f32 u U) :
    Calls Try.prog 92 #[.float .f32 d, .float .f32 u, .pointer (some ⟨g, 0, none⟩)] w fun e w' => ∃ q, e = .returned (.float .f32 q) ∧ Fl .f32 q (fup R D U) ∧ Dr w w' := by
  obtain ⟨Ra, Na, qa, fa⟩ := fop_any (P := Try.prog) (op := .add) rfl 29
  have FA := Lib.hid fa
  clear fa
  obtain ⟨Rs, Ns, qs, fs⟩ := fop_any (P := Try.prog) (op := .sub) rfl 29
  have FS := Lib.hid fs
  clear fs
  go_enter Try.func92, Try.ntmps92
  go_wp2_with (fail)
  go_region_held (fun W => W.cell? ⟨g, 0, none⟩ = some (.float .f32 r)) (exact hg) (first | (go_at_call 53; refine Calls.mono (c_mulNumbers fr fd _) ?_; rintro e w_r5 ⟨r5, rfl, hr5, nr5, rfl⟩) | (go_at_call 53; refine Calls.mono (c_mulNumbers (FS.out _ _ _ _ _ fl_fu fr) fu' _) ?_; rintro e w_r6 ⟨r6, rfl, hr6, nr6, rfl⟩))
  all_goals
    go_wp2_with (fail)
    go_ret
    exact ⟨_, rfl, FA.out _ _ _ _ _ hr5 hr6, _, rfl⟩

set_option maxRecDepth 20000 in
set_option maxHeartbeats 4000000 in
theorem c_dn1 {w : World} {g r d u : Nat} {R D U : Option Nat} (hg : w.cell? ⟨g, 0, none⟩ = some (.float .f32 r)) (fr : Fl .f32 r R) (fd : Fl .f32 d D) (fu' : Fl .f32 u U) :
    Calls Try.prog 85 #[.float .f32 d, .float .f32 u, .pointer (some ⟨g, 0, none⟩)] w fun e w' => ∃ q, e = .returned (.float .f32 q) ∧ Fl .f32 q (fdn R D U) ∧ Dr w w' := by
  obtain ⟨Ra, Na, qa, fa⟩ := fop_any (P := Try.prog) (op := .add) rfl 29
  have FA := Lib.hid fa
  clear fa
  obtain ⟨Rs, Ns, qs, fs⟩ := fop_any (P := Try.prog) (op := .sub) rfl 29
  have FS := Lib.hid fs
  clear fs
  go_enter Try.func85, Try.ntmps85
  go_wp2_with (fail)
  go_region_held (fun W => W.cell? ⟨g, 0, none⟩ = some (.float .f32 r)) (exact hg) (first | (go_at_call 53; refine Calls.mono (c_mulNumbers fr fu' _) ?_; rintro e w_r6 ⟨r6, rfl, hr6, nr6, rfl⟩) | (go_at_call 53; refine Calls.mono (c_mulNumbers (FA.out _ _ _ _ _ fl_fu fr) fd _) ?_; rintro e w_r5 ⟨r5, rfl, hr5, nr5, rfl⟩))
  all_goals
    go_wp2_with (fail)
    go_ret
    exact ⟨_, rfl, FS.out _ _ _ _ _ hr5 hr6, _, rfl⟩

set_option maxRecDepth 20000 in
set_option maxHeartbeats 4000000 in
theorem c_bel1 {w : World} {g r d u : Nat} {R D U : Option Nat} (hg : w.cell? ⟨g, 0, none⟩ = some (.float .f32 r)) (fr : Fl .f32 r R) (fd : Fl .f32 d D) (fu' : Fl .f32 u U) :
    Calls Try.prog 84 #[.float .f32 d, .float .f32 u, .pointer (some ⟨g, 0, none⟩)] w fun e w' => ∃ q, e = .returned (.float .f32 q) ∧ Fl .f32 q (fbel R D U) ∧ Dr w w' := by
  obtain ⟨Rs, Ns, qs, fs⟩ := fop_any (P := Try.prog) (op := .sub) rfl 29
  have FS := Lib.hid fs
  clear fs
  obtain ⟨Rq, Nq, qq, fq⟩ := fop_any (P := Try.prog) (op := .quo) rfl 29
  have FQ := Lib.hid fq
  clear fq
  go_enter Try.func84, Try.ntmps84
  go_wp2_with (fail)
  go_region_held (fun W => W.cell? ⟨g, 0, none⟩ = some (.float .f32 r)) (exact hg) (first | (go_at_call 53; refine Calls.mono (c_mulNumbers fr fd _) ?_; rintro e w_r5 ⟨r5, rfl, hr5, nr5, rfl⟩))
  all_goals
    go_wp2_with (fail)
    go_ret
    exact ⟨_, rfl, FQ.out _ _ _ _ _ (FS.out _ _ _ _ _ fu' hr5) (FS.out _ _ _ _ _ fl_fu fr), _, rfl⟩

set_option maxRecDepth 20000 in
set_option maxHeartbeats 1000000 in
theorem c_upOf {w : World} {r : Nat} :
    Calls Try.prog 82 #[.float .f32 r] w fun e w' => e = .returned (.func (.func 92) #[] #[.pointer (some ⟨w.heap.size, 0, none⟩)]) ∧ w.alloc (.cells #[.float .f32 r] 29) = w' := by
  go_enter Try.func82, Try.ntmps82
  go_wp2_with (fail)
  go_ret
  exact ⟨rfl, rfl⟩

set_option maxRecDepth 20000 in
set_option maxHeartbeats 1000000 in
theorem c_dnOf {w : World} {r : Nat} :
    Calls Try.prog 65 #[.float .f32 r] w fun e w' => e = .returned (.func (.func 85) #[] #[.pointer (some ⟨w.heap.size, 0, none⟩)]) ∧ w.alloc (.cells #[.float .f32 r] 29) = w' := by
  go_enter Try.func65, Try.ntmps65
  go_wp2_with (fail)
  go_ret
  exact ⟨rfl, rfl⟩

set_option maxRecDepth 20000 in
set_option maxHeartbeats 1000000 in
theorem c_belOf {w : World} {r : Nat} :
    Calls Try.prog 64 #[.float .f32 r] w fun e w' => e = .returned (.func (.func 84) #[] #[.pointer (some ⟨w.heap.size, 0, none⟩)]) ∧ w.alloc (.cells #[.float .f32 r] 29) = w' := by
  go_enter Try.func64, Try.ntmps64
  go_wp2_with (fail)
  go_ret
  exact ⟨rfl, rfl⟩

set_option maxRecDepth 20000 in
set_option maxHeartbeats 1000000 in
theorem c_downAgain {w : World} {s u : Nat} {S U : Option Nat} (fs : Fl .f32 s S) (fu' : Fl .f32 u U) :
    Calls Try.prog 83 #[.float .f32 s, .float .f32 u] w fun e w' => ∃ q, e = .returned (.float .f32 q) ∧ Fl .f32 q (fag S U) ∧ Dr w w' := by
  go_enter Try.func83, Try.ntmps83
  go_wp2_with (go_at_call 53; refine Calls.mono (c_mulNumbers fs fu' _) ?_; rintro e w_r5 ⟨r5, rfl, hr5, nr5, rfl⟩)
  go_ret
  exact ⟨_, rfl, fneg32_fl hr5, _, rfl⟩
end Go.Proofs.Ythgmkipifolbfab
