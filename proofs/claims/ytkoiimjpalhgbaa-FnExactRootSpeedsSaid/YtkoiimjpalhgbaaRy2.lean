/- Contracts: rays down on the program's side. Condition: the layers are read. -/
import Derived.Test.YtkoiimjpalhgbaaRy
namespace Go.Proofs.Ytkoiimjpalhgbaa
open Go.RowKit Ieee

theorem rayC_get {L : List Ly} {P : Option Nat} : ∀ {m j : Nat}, rayC L P m = true → j < m → lt1 (fsine P (L.getD j default).s) = true
  | m + 1, j, h, hj => by
    unfold rayC at h
    rw [Bool.and_eq_true] at h
    by_cases hjm : j = m
    · subst hjm; exact h.2
    · exact rayC_get h.1 (by omega)
set_option maxRecDepth 20000 in
set_option maxHeartbeats 400000 in
theorem c_mulNumbers {x y : Nat} {X Y : Option Nat} (fx : Fl .f32 x X) (fy : Fl .f32 y Y) (w : World) :
    Calls Try.prog 69 #[.float .f32 x, .float .f32 y] w fun e w' => ∃ r, e = .returned (.float .f32 r) ∧ Fl .f32 r (fop .mul .f32 X Y) ∧ Dr w w' := by
  go_enter Try.func69, Try.ntmps69
  go_wp2_with ((apply upon_fop rfl; (first | assumption | exact Fl.const (of_decide_eq_true (by kernel_rfl))); (first | assumption | exact Fl.const (of_decide_eq_true (by kernel_rfl))); intro r n hr))
  go_ret
  exact ⟨_, rfl, by assumption, _, rfl⟩
end Go.Proofs.Ytkoiimjpalhgbaa
