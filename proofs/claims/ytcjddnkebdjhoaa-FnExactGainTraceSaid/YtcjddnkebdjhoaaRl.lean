/- Float operations as rules of the walk, whatever they are asked. No condition. -/
import Derived.Test.YtcjddnkebdjhoaaTl
namespace Go.Proofs.Ytcjddnkebdjhoaa
open Go.RowKit Ieee

theorem fop_any {P : Program} {op : BinOp} (hop : isArith op = true) (t : TypeId) :
    ∃ (R N : Nat → Nat → World → Nat), (∀ x y w, (binOp op t (.float .f32 x) (.float .f32 y)).run P w = .ok (.float .f32 (R x y w)) (w.drewN (N x y w))) ∧ ∀ x y w X Y, Fl .f32 x X → Fl .f32 y Y → Fl .f32 (R x y w) (fop op .f32 X Y) := by
  have h := fun (x y : Nat) (w : World) => run_fop (P := P) w op hop t .f32 x y
  refine ⟨fun x y w => (h x y w).choose, fun x y w => (h x y w).choose_spec.choose, fun x y w => (h x y w).choose_spec.choose_spec.1, ?_⟩
  intro x y w X Y hx hy
  obtain ⟨_, h2, h3⟩ := (h x y w).choose_spec.choose_spec
  exact ⟨h2.trans (by rw [hx.eq, hy.eq]), h3⟩
end Go.Proofs.Ytcjddnkebdjhoaa
