/- Contracts: lists joined number by number, and scaled, the program. Condition: the lists are read. -/
import Derived.Test.YtddemhlhlbpecaaTr
namespace Go.Proofs.Ytddemhlhlbpecaa
open Go.RowKit Ieee
set_option linter.unusedVariables false
set_option linter.unusedSimpArgs false

set_option maxRecDepth 20000 in
set_option maxHeartbeats 400000 in
theorem c_addNumbers {w : World} {x y : Nat} {X Y : Option Nat} (fx : Fl .f32 x X) (fy : Fl .f32 y Y) :
    Calls Try.prog 77 #[.float .f32 x, .float .f32 y] w fun e w' => ∃ r, e = .returned (.float .f32 r) ∧ Fl .f32 r (fop .add .f32 X Y) ∧ Dr w w' := by
  go_enter Try.func77, Try.ntmps77
  go_wp2_with ((apply upon_fop rfl; (first | assumption | exact Fl.const (of_decide_eq_true (by kernel_rfl))); (first | assumption | exact Fl.const (of_decide_eq_true (by kernel_rfl))); intro r n hr))
  go_ret
  exact ⟨_, rfl, by assumption, _, rfl⟩
set_option maxRecDepth 20000 in
set_option maxHeartbeats 4000000 in
theorem c_join_addNumbers {w : World} {B n c : Nat} {A : Option Addr} {L : List (Option Nat)} (h : RdF w B A n L) (hB : B ≤ w.heap.size) (hn : n ≤ 1048576) {B' n' c' : Nat} {A' : Option Addr} {M : List (Option Nat)} (h' : RdF w B' A' n' M) (hB' : B' ≤ w.heap.size) (hn' : n ≤ n') (hm : n' ≤ 1048576) :
    Calls Try.prog 76 #[.slice A n c, .slice A' n' c', .func (.func 77) #[] #[]] w fun e w' => ∃ A2, e = .returned (.slice A2 n n) ∧ OwL w' w.heap.size w'.heap.size A2 n (lst (fadd2 L M) n) ∧ Ext w w' := by
  have hmk := fun W => run_make_row' (P := Try.prog) 25 22 (.float .f32 0) 4 Try.underlying25 info_f32 rfl .i64 .i64 n (by omega) (by omega) W
  go_enter Try.func76, Try.ntmps76
  go_wp2_with (fail)
  go_loopw [15] (fun i wr => ∃ (k : Nat) (cs : Array Value), k ≤ n ∧ i = .int .i64 k ∧ wr.heap[w.heap.size]? = some (.cells cs 22 (0, 0)) ∧ cs.size = n ∧ (∀ j, j < k → ∃ r, cs[j]? = some (.float .f32 r) ∧ Fl .f32 r (fadd2 L M j)) ∧ Ext w wr) (fun i _ => n - (intOf i).toNat)
  case atStart => exact ⟨0, _, Nat.zero_le _, rfl, heap_alloc_new _ _, size_madeCells _ _, fun j hj => absurd hj (Nat.not_lt_zero _), (by repeat (first | assumption | exact Ext.refl _ | apply Ext.drewN | apply Ext.drew | apply Ext.alloc | (refine Ext.trans ?_ (by assumption)) | (refine Ext.set ?_ (by dsimp only; omega) _)))⟩
  case round =>
    obtain ⟨k, cs, hk, rfl, hg, hsz, hxs, hx⟩ := hrel
    have HX := Lib.hid hxs
    have HG := Lib.hid hg
    have HS := Lib.hid hsz
    clear hxs hg hsz
    by_cases hlt : k < n
    · obtain ⟨u0, e0, z0⟩ := own_cell HG.out HS.out hlt
      obtain ⟨b1, o1, t1, rfl, hb1, hc1, ht1⟩ := (h.below (hx.mono hB)).cell hlt
      obtain ⟨b2, o2, t2, rfl, hb2, hc2, ht2⟩ := (h'.below (hx.mono hB')).cell (Nat.lt_of_lt_of_le hlt hn')
      have hHT' : fadd2 L M k = fop .add .f32 (L.getD k none) (M.getD k none) := rfl
      have HT := Lib.hid hHT'
      clear hHT'
      have hne2 : b2 ≠ w.heap.size := by omega
      have hlt' : (k : Int) < (n : Int) := by omega
      have hlt2 : (k : Int) < (n' : Int) := by omega
      go_wp2_with (go_at_call 77; refine Calls.mono (c_addNumbers ht1 ht2) ?_; rw [← HT.out]; rintro e w_r5 ⟨r5, rfl, hr5, nr5, rfl⟩)
      exact ⟨⟨k + 1, cs.setIfInBounds k (.float .f32 r5), by omega, by go_num, by exact blk_set1 (w := World.drewN wr _) HG.out k _, by rw [Array.size_setIfInBounds]; exact HS.out, pre_setF (F := fadd2 L M) (by have := HS.out; omega) HX.out hr5, (by repeat (first | assumption | exact Ext.refl _ | apply Ext.drewN | apply Ext.drew | apply Ext.alloc | (refine Ext.trans ?_ (by assumption)) | (refine Ext.set ?_ (by dsimp only; omega) _)))⟩, by simp [intOf]; omega⟩
    · obtain rfl : k = n := by omega
      have ho5 := own_lst HG.out HS.out HX.out
      go_wp2_with (fail)
      go_ret
      exact ⟨_, rfl, ho5, hx⟩
end Go.Proofs.Ytddemhlhlbpecaa
