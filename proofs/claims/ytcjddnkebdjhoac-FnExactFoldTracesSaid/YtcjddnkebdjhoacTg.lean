/- Contract: a row is turned round in place. Condition: the row is there. -/
import Derived.Test.YtcjddnkebdjhoacTf
import Derived.BigRegion
namespace Go.Proofs.Ytcjddnkebdjhoac
open Go.RowKit Ieee

set_option maxRecDepth 20000 in
set_option maxHeartbeats 4000000 in
theorem c_revF {w : World} {g n c : Nat} {cs : Array Value} {F : Nat → Option Nat} (hg : w.heap[g]? = some (.cells cs 31 (0, 0))) (hs : n ≤ cs.size) (h : RowF cs n F) (hn : n ≤ 1048576) (hpos : 0 < n) :
    Calls Try.prog 85 #[.slice (some ⟨g, 0, none⟩) n c] w fun e w' => e = .returned (.tuple #[]) ∧ ∃ cs', w'.heap[g]? = some (.cells cs' 31 (0, 0)) ∧ n ≤ cs'.size ∧ RowF cs' n (fun j => F (n - 1 - j)) ∧ Kb g (g + 1) w w' := by
  go_enter Try.func85, Try.ntmps85
  go_wp2_with (fail)
  go_loopw [2, 3] (fun x y wr => ∃ (k : Nat) (cs : Array Value), 2 * k ≤ n ∧ x = .int .i64 k ∧ y = .int .i64 ((n : Int) - 1 - k) ∧ wr.heap[g]? = some (.cells cs 31 (0, 0)) ∧ n ≤ cs.size ∧ RowF cs n (frevK F n k) ∧ Kb g (g + 1) w wr) (fun x _ _ => n - (intOf x).toNat)
  case atStart => exact ⟨0, cs, Nat.zero_le _, rfl, by congr 1; omega, hg, hs, h.keep (fun j hj => (frevK_zero F hj).symm), Kb.refl _ _ _⟩
  case round =>
    obtain ⟨k, cs, hk, rfl, rfl, hg, hs, h, hkb⟩ := hrel
    have HX := Lib.hid h
    have HG := Lib.hid hg
    have HS := Lib.hid hs
    clear h hg hs
    by_cases hlt : (k : Int) < (n : Int) - 1 - k
    · obtain ⟨m, hm⟩ : ∃ m : Nat, n = m + k + 1 := ⟨n - 1 - k, by omega⟩
      have hme : (n : Int) - 1 - k = (m : Int) := by omega
      obtain ⟨u1, c1, z1, f1⟩ := HX.out.cell (k := k) HG.out (by omega)
      obtain ⟨u2, c2, z2, f2⟩ := HX.out.cell (k := m) HG.out (by omega)
      rw [frevK_in (by omega) (by omega)] at f1 f2
      rw [hme] at hlt ⊢
      have q1 : (k : Int) < (n : Int) := by omega
      have q2 : (m : Int) < (n : Int) := by omega
      have hne : k ≠ m := by omega
      have hne' : m ≠ k := by omega
      go_wp2_with (fail)
      go_big_region
      all_goals
        go_wp2_with (fail)
        have hb1 := blk_set1 (blk_set1 HG.out k (.float .f32 u2)) m (.float .f32 u1)
        have hb2 : Kb g (g + 1) w ((wr.setCell ⟨g, k, none⟩ (.float .f32 u2)).setCell ⟨g, m, none⟩ (.float .f32 u1)) := (hkb.set (Nat.le_refl _) (Nat.lt_succ_self _) _).set (Nat.le_refl _) (Nat.lt_succ_self _) _
        have hb3 := rev_step HX.out HS.out hm f1 f2
        refine ⟨⟨k + 1, _, by omega, by go_num, by congr 1; omega, ?_, ?_, hb3, ?_⟩, by simp [intOf]; omega⟩
        · exact hb1
        · rw [Array.size_setIfInBounds, Array.size_setIfInBounds]; exact HS.out
        · exact Kb.drew hb2
    · go_wp2_with (fail)
      go_end0
      exact ⟨rfl, cs, HG.out, HS.out, HX.out.keep (fun j hj => frevK_end (by omega) hj), hkb⟩
end Go.Proofs.Ytcjddnkebdjhoac
