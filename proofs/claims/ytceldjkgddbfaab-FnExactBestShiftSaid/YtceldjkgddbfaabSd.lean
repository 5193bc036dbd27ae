/- Contracts: equations of Toeplitz form, the program. Condition: the lists are read. -/
import Derived.Test.YtceldjkgddbfaabSc
namespace Go.Proofs.Ytceldjkgddbfaab
open Go.RowKit Ieee

set_option maxRecDepth 20000 in
set_option maxHeartbeats 1000000 in
theorem c_recursionOf {w : World} {B n c : Nat} {A : Option Addr} {L : List (Option Nat)} (h : RdF w B A n L) (hB : B ≤ w.heap.size) (hpos : 0 < n) :
    Calls Try.prog 54 #[.slice A n c] w fun z w' => ∃ g1 t, z = .returned (.agg #[.slice A n c, .slice (some ⟨g1, 0, none⟩) 1 1, .float .f32 t]) ∧ Fl .f32 t (L.getD 0 none) ∧ OwL w' w.heap.size w'.heap.size (some ⟨g1, 0, none⟩) 1 [fu] ∧ Ext w w' := by
  obtain ⟨b0, o0, t0, rfl, hb0, hc0, ht0⟩ := h.cell hpos
  have hc00 : w.cell? ⟨b0, o0, none⟩ = some (.float .f32 t0) := by simpa using hc0
  have hposI : (0 : Int) < (n : Int) := by omega
  have hx2 : Ext w ((w.alloc (.cells #[.slice none 0 0, .slice none 0 0, .float .f32 0] 76)).alloc (.cells #[.float .f32 1065353216] 28)) := (by repeat (first | assumption | exact Ext.refl _ | apply Ext.drewN | apply Ext.drew | apply Ext.alloc | (refine Ext.trans ?_ (by assumption)) | (refine Ext.set ?_ (by dsimp only; omega) _)))
  have hcA := (hx2.cell (p := ⟨b0, o0, none⟩) (by show b0 < _; omega)).trans hc00
  go_enter Try.func54, Try.ntmps54
  go_wp2_with (fail)
  have hx3 : Ext w ((w.alloc (.cells #[.slice (some ⟨b0, o0, none⟩) n c, .slice (some ⟨w.heap.size + 1, 0, none⟩) 1 1, .float .f32 t0] 76)).alloc (.cells #[.float .f32 1065353216] 28)) := (by repeat (first | assumption | exact Ext.refl _ | apply Ext.drewN | apply Ext.drew | apply Ext.alloc | (refine Ext.trans ?_ (by assumption)) | (refine Ext.set ?_ (by dsimp only; omega) _)))
  have ho := own_one_l (w := w.alloc (.cells #[.slice (some ⟨b0, o0, none⟩) n c, .slice (some ⟨w.heap.size + 1, 0, none⟩) 1 1, .float .f32 t0] 76)) fl_fu
  rw [al_size] at ho
  refine bodyPost_ret (results_cell_row rfl _ _ w.heap.size 76 #[.slice (some ⟨b0, o0, none⟩) n c, .slice (some ⟨w.heap.size + 1, 0, none⟩) 1 1, .float .f32 t0] (0, 0) _ rfl (by repeat (first | (refine al_at ?_ ?_ <;> first | rfl | (simp only [al_size] <;> omega)) | apply al_old)) Try.underlying76 rfl (by kernel_rfl)) rfl ?_
  exact ⟨w.heap.size + 1, t0, rfl, ht0, ho.more (by omega) (Nat.le_refl _), hx3⟩
end Go.Proofs.Ytceldjkgddbfaab
