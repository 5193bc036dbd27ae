/- Contracts of sums over lists of floats. Condition: the lists are read as floats (RdF). -/
import Derived.Test.YtfmhdnhaaohdjaaSl
import Derived.Test.YtfmhdnhaaohdjaaC1
import Derived.Deep.RegionWith
import Derived.Deep.OwnRows
namespace Go.Proofs.Ytfmhdnhaaohdjaa
open Go.RowKit Ieee

theorem fsum_all {L : List (Option Nat)} {n : Nat} (h : L.length = n) : L.take n = L := List.take_of_length_le (by omega)

theorem run_store_float (P : Program) (w : World) (a : Addr) (m : Mode) (k : FloatKind) (b : Nat) : (store a (.float k b) m).run P w = stored P w a (.float k b) m := run_store P w a _ m rfl
attribute [local go_sem] run_store_float

theorem made_get (z : Value) (n j : Nat) (hj : j < n) : (madeCells #[z] n)[j]? = some z := by
  simp [madeCells, hj]; rw [Nat.mod_one]; rfl

theorem blk_set {w : World} {g : Nat} {cs : Array Value} {t : TypeId} (hg : w.heap[g]? = some (.cells cs t (0, 0))) (k : Nat) (v : Value) :
    (w.setCell ⟨g, k, none⟩ v).heap[g]? = some (.cells (cs.setIfInBounds k v) t (0, 0)) := by
  simp [World.setCell, Array.getElem?_modify, hg]
theorem pre_set {cs : Array Value} {k q : Nat} {L : List (Option Nat)} (hk : k < cs.size) (hp : ∀ j, j < k → ∃ r, cs[j]? = some (.float .f32 r) ∧ Fl .f32 r (L.getD j none)) (hq : Fl .f32 q (L.getD k none)) :
    ∀ j, j < k + 1 → ∃ r, (cs.setIfInBounds k (.float .f32 q))[j]? = some (.float .f32 r) ∧ Fl .f32 r (L.getD j none) := by
  intro j hj
  by_cases h : j = k
  · subst h
    exact ⟨q, by simp [hk], hq⟩
  · obtain ⟨r, h1, h2⟩ := hp j (by omega)
    exact ⟨r, by rw [Array.getElem?_setIfInBounds, if_neg (fun e => h e.symm)]; exact h1, h2⟩

set_option maxRecDepth 20000 in
set_option maxHeartbeats 1000000 in
theorem c_toFloat32S {w : World} {B n c : Nat} {A : Option Addr} {L : List (Option Nat)} (h : RdF w B A n L) (hB : B ≤ w.heap.size) (hn : n ≤ 1048576) :
    Calls Try.prog 63 #[.slice A n c] w fun e w' => e = .returned (.slice (some ⟨w.heap.size, 0, none⟩) n n) ∧ RdF w' (w.heap.size + 1) (some ⟨w.heap.size, 0, none⟩) n L ∧ Below w.heap.size w w' ∧ w.heap.size < w'.heap.size := by
  have hmk := fun W => run_make_row' (P := Try.prog) 22 83 (.float .f32 0) 4 Try.underlying22 (by kernel_rfl) rfl .i64 .i64 n (by omega) (by omega) W
  go_enter Try.func63, Try.ntmps63
  go_wp2
  go_loopw [4] (fun i wr => ∃ (k : Nat) (cs : Array Value), k ≤ n ∧ i = .int .i64 k ∧ wr.heap[w.heap.size]? = some (.cells cs 83 (0, 0)) ∧ cs.size = n ∧ (∀ j, j < k → ∃ r, cs[j]? = some (.float .f32 r) ∧ Fl .f32 r (L.getD j none)) ∧ Below w.heap.size w wr) (fun i _ => n - (intOf i).toNat)
  case atStart => exact ⟨0, _, Nat.zero_le _, rfl, heap_alloc_new w _, size_madeCells _ _, fun j hj => absurd hj (Nat.not_lt_zero _), (Below.refl _ _).alloc (Nat.le_refl _) _⟩
  case round =>
    obtain ⟨k, cs, hk, rfl, hg, hsz, hp, hbel⟩ := hrel
    by_cases hlt : k < n
    · obtain ⟨b, off, q, rfl, hb, hc, hq⟩ := (h.below (hbel.mono hB)).cell hlt
      have hold : wr.cell? ⟨w.heap.size, k, none⟩ = cs[k]? := cell_of_row wr w.heap.size k cs _ (0, 0) hg
      obtain ⟨u, hu⟩ : ∃ u, cs[k]? = some u := ⟨cs[k]'(by omega), Array.getElem?_eq_getElem (by omega)⟩
      rw [hu] at hold
      have hfz : wr.frozen? ⟨w.heap.size, k, none⟩ = false := by simp [World.frozen?, hg]
      have HG := Lib.hid hg
      have HP := Lib.hid hp
      have HS := Lib.hid hsz
      have HU := Lib.hid hu
      clear hg hp hsz hu
      go_wp2
      exact ⟨⟨k + 1, cs.setIfInBounds k (.float .f32 q), by omega, by go_num, blk_set HG.out k _, by simpa using HS.out, pre_set (by have := HS.out; omega) HP.out hq, hbel.setCell (Nat.le_refl _) _⟩, by simp [intOf]; omega⟩
    · have hkn : k = n := by omega
      go_wp2
      go_ret
      refine ⟨rfl, ⟨h.len, fun i hi => ⟨w.heap.size, 0, rfl, by omega, fun j hj => ?_⟩⟩, hbel, ?_⟩
      · obtain ⟨r, h1, h2⟩ := hp j (by omega)
        exact ⟨r, by rw [cell_of_row _ w.heap.size _ cs _ (0, 0) hg, Nat.zero_add]; exact h1, h2⟩
      · rcases Nat.lt_or_ge w.heap.size wr.heap.size with h1 | h1
        · exact h1
        · rw [Array.getElem?_eq_none h1] at hg; cases hg
set_option maxRecDepth 20000 in
set_option maxHeartbeats 2000000 in
theorem c_eqFloat32S {w : World} {B B' n c c' : Nat} {A A' : Option Addr} {L : List (Option Nat)} (h : RdF w B A n L) (h' : RdF w B' A' n L) (hn : n ≤ 1048576) :
    Calls Try.prog 49 #[.slice A n c, .slice A' n c'] w fun e w' => e = .returned (.bool true) ∧ Dr w w' := by
  go_enter Try.func49, Try.ntmps49
  go_wp2
  go_loopw [5] (fun i wr => ∃ k : Nat, k ≤ n ∧ i = .int .i64 k ∧ Dr w wr) (fun i _ => n - (intOf i).toNat)
  case atStart => exact ⟨0, Nat.zero_le _, rfl, 0, rfl⟩
  case round =>
    obtain ⟨k, hk, rfl, m, rfl⟩ := hrel
    by_cases hlt : k < n
    · obtain ⟨b, off, q, rfl, hb, hc, hq⟩ := h.cell hlt
      obtain ⟨b', off', q', rfl, hb', hc', hq'⟩ := h'.cell hlt
      have hlt' : (k : Int) < (n : Int) := by omega
      go_wp2
      go_region_with (first | (apply upon_wide s_f32 Try.underlying96; (first | assumption | exact Fl.const (of_decide_eq_true (by kernel_rfl))); intro r n hr) | (go_at_call 84; refine Calls.mono (c_sameFloat (by assumption) (by assumption) _) ?_; rintro e w' ⟨rfl, n3, rfl⟩))
      all_goals
        go_wp2
        exact ⟨⟨k + 1, by omega, by go_num, _, rfl⟩, by simp [intOf]; omega⟩
    · have hkn : k = n := by omega
      go_wp2
      go_ret
      exact ⟨rfl, m, rfl⟩
/-- The sum of products from left to right, from +0 on. -/
def fdot (L M : List (Option Nat)) : Option Nat := (List.zip L M).foldl (fun s p => fop .add .f32 s (fop .mul .f32 p.1 p.2)) (some 0)
theorem fdot_succ (L M : List (Option Nat)) (k : Nat) (h : k < L.length) (h' : k < M.length) : fdot (L.take (k + 1)) (M.take (k + 1)) = fop .add .f32 (fdot (L.take k) (M.take k)) (fop .mul .f32 (L.getD k none) (M.getD k none)) := by
  rw [take_succ_getD L none k h, take_succ_getD M none k h', fdot, List.zip_append (by simp; omega), List.foldl_append]; rfl

end Go.Proofs.Ytfmhdnhaaohdjaa
