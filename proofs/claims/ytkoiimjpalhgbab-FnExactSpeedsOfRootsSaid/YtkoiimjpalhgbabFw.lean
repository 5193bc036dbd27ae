/- Contracts: lists copied for a call, as rows of the law's own. Condition: the list is read. -/
import Derived.Test.YtkoiimjpalhgbabDl
import Derived.Test.YtkoiimjpalhgbabOpen
namespace Go.Proofs.Ytkoiimjpalhgbab
open Go.RowKit

attribute [local go_sem] run_store_float
set_option maxRecDepth 20000 in
set_option maxHeartbeats 1000000 in
theorem c_toFl {w : World} {B n c : Nat} {A : Option Addr} {L : List (Option Nat)} (h : RdF w B A n L) (hB : B ≤ w.heap.size) (hn : n ≤ 1048576) :
    Calls Try.prog 38 #[.slice A n c] w fun e w' => e = .returned (.slice (some ⟨w.heap.size, 0, none⟩) n n) ∧ OwL w' w.heap.size (w.heap.size + 1) (some ⟨w.heap.size, 0, none⟩) n L ∧ Ext w w' ∧ w.heap.size < w'.heap.size := by
  have hmk := fun W => run_make_row' (P := Try.prog) 44 23 (.float .f32 0) 4 Try.underlying44 (by kernel_rfl) rfl .i64 .i64 n (by omega) (by omega) W
  go_enter Try.func38, Try.ntmps38
  go_wp2
  go_loopw [4] (fun i wr => ∃ (k : Nat) (cs : Array Value), k ≤ n ∧ i = .int .i64 k ∧ wr.heap[w.heap.size]? = some (.cells cs 23 (0, 0)) ∧ cs.size = n ∧ (∀ j, j < k → ∃ r, cs[j]? = some (.float .f32 r) ∧ Fl .f32 r (L.getD j none)) ∧ Below w.heap.size w wr) (fun i _ => n - (intOf i).toNat)
  case atStart => exact ⟨0, _, Nat.zero_le _, rfl, heap_alloc_new w _, size_madeCells _ _, fun j hj => absurd hj (Nat.not_lt_zero _), (Below.refl _ _).alloc (Nat.le_refl _) _⟩
  case round =>
    obtain ⟨k, cs, hk, rfl, hg, hsz, hp, hbel⟩ := hrel
    by_cases hlt : k < n
    · obtain ⟨b, off, q, rfl, hb, hc, hq⟩ := (h.below (hbel.mono hB)).cell hlt
      have hold : wr.cell? ⟨w.heap.size, k, none⟩ = cs[k]? := cell_of_row wr w.heap.size k cs _ (0, 0) hg
      obtain ⟨u, hu⟩ : ∃ u, cs[k]? = some u := ⟨cs[k]'(by omega), Array.getElem?_eq_getElem (by omega)⟩
      rw [hu] at hold
      have hfz : wr.frozen? ⟨w.heap.size, k, none⟩ = false := by simp [World.frozen?, hg]
      have HG := Lib.hid hg
      have HP := Lib.hid hp
      have HS := Lib.hid hsz
      have HU := Lib.hid hu
      clear hg hp hsz hu
      go_wp2
      exact ⟨⟨k + 1, cs.setIfInBounds k (.float .f32 q), by omega, by go_num, blk_set HG.out k _, by simpa using HS.out, pre_set (by have := HS.out; omega) HP.out hq, hbel.setCell (Nat.le_refl _) _⟩, by simp [intOf]; omega⟩
    · have hkn : k = n := by omega
      go_wp2
      go_ret
      refine ⟨rfl, ⟨h.len, .inr ⟨w.heap.size, 0, cs, rfl, Nat.le_refl _, Nat.lt_succ_self _, hg, by omega, fun j hj => ?_⟩⟩, hbel, ?_⟩
      · obtain ⟨r, h1, h2⟩ := hp j (by omega)
        exact ⟨r, by rw [Nat.zero_add]; exact h1, h2⟩
      · rcases Nat.lt_or_ge w.heap.size wr.heap.size with h1 | h1
        · exact h1
        · rw [Array.getElem?_eq_none h1] at hg; cases hg
end Go.Proofs.Ytkoiimjpalhgbab
