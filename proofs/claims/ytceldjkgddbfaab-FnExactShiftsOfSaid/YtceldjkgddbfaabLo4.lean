/- A step of the walk through a region that draws its order: the opposite of a float. No condition. -/
import Derived.Test.YtceldjkgddbfaabLo3
import Derived.Test.YtceldjkgddbfaabPk
namespace Go.Proofs.Ytceldjkgddbfaab
open Go.RowKit Ieee

@[go_sem] theorem run_neg5 {P : Program} (w : World) (k : FloatKind) (b : Nat) : (Op.unary .neg (.float k b)).run P w = .ok (.float k (Op.negFloat k b)) w := rfl
section
variable {P : Program} {ops : Array Oper} {w : World} {Q : (Act → Prop) → Prop} {o : Oper} {l : List Oper} {T : (Act → Prop) → Prop}
/-- The opposite of a float. -/
theorem la_neg {X : Option Nat} (hg : o.guard = none)
    (h1 : T (fun a => ∃ x, Fl .f32 x X ∧ ∀ q, (execOp a.eval o).run P (w.drewN q) = .ok (.value (.float .f32 (Op.negFloat .f32 x))) (w.drewN q)))
    (h2 : wpLa P ops (Drawn w) Q l (fun R => T (fun a => ∀ r, Fl .f32 r (fneg32 X) → R (a.put o.dst (.float .f32 r))))) : wpLa P ops (Drawn w) Q (o :: l) T := by
  intro A hn hA
  obtain ⟨a0, ha0⟩ := hn
  obtain ⟨x0, hx0, _⟩ := hA _ h1 a0 ha0
  refine ⟨fun u => ∃ r, u = .float .f32 r ∧ Fl .f32 r (fneg32 X), ⟨_, _, rfl, fneg32_fl hx0⟩, fun a ha => .inl ⟨by simp [Region.wanted, hg], ?_⟩, h2 _ ⟨_, a0, _, ha0, ⟨_, rfl, fneg32_fl hx0⟩, rfl⟩ ?_⟩
  · rintro _ ⟨q, rfl⟩
    obtain ⟨x, hx, hrun⟩ := hA _ h1 a ha
    unfold looseAt
    rw [hrun q]
    exact ⟨⟨_, rfl, fneg32_fl hx⟩, q, rfl⟩
  · rintro R hR _ ⟨a, u, ha, ⟨r, rfl, hr⟩, rfl⟩
    exact hA _ hR a ha r hr
end
end Go.Proofs.Ytceldjkgddbfaab
