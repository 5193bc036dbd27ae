/- Float operations and calls that give floats, in a region's head that is walked in any order. No condition. -/
import Derived.Test.YtddemhlhlbpecaaMo2
namespace Go.Proofs.Ytddemhlhlbpecaa
open Go.RowKit Ieee

/-- A value is a float that stands for X. -/
def FlOf (k : FloatKind) (X : Option Nat) (v : Value) : Prop := ∃ r, v = .float k r ∧ Fl k r X
section
variable {P : Program} {ops : Array Oper} {w0 : World} {S : (Nat → Value) → Act} {fin : List (Nat × Fact) → Prop} {j : Nat} {d : Tmp} {rest : List (Nat × Tmp)} {Fs : List (Nat × Fact)}

theorem mo_fop {o : Oper} {op : BinOp} {t : TypeId} {k : FloatKind} {X Y : Option Nat} (hop : isArith op = true) (ho : ops[j]? = some o) (hg : o.guard = none)
    (h : ∀ vs w', Ext w0 w' → Deps ops Fs j vs w' → ∃ x y, Fl k x X ∧ Fl k y Y ∧ (execOp (S vs).eval o).run P w' = ((binOp op t (.float k x) (.float k y)).run P w').andThen fun v w' => .ok (.value v) w')
    (hrest : MoGo P .any ops Ext w0 S fin rest ((j, fun _ u _ => FlOf k (fop op k X Y) u) :: Fs)) : MoGo P .any ops Ext w0 S fin ((j, d) :: rest) Fs :=
  mo_any _ ho hg (fun _ _ _ _ h _ => h) (fun vs w' hw hd => by
    obtain ⟨x, y, hx, hy, hr⟩ := h vs w' hw hd
    unfold moAt
    rw [hr]
    obtain ⟨r, n, e, e1, e2⟩ := run_fop (P := P) w' op hop t k x y
    rw [e]
    exact ⟨⟨r, rfl, ⟨by rw [e1, hx.eq, hy.eq], e2⟩⟩, Ext.drewN (Ext.refl _) n⟩) hrest
theorem mo_callF {o : Oper} {k : FloatKind} {X : Option Nat} (ho : ops[j]? = some o) (hg : o.guard = none)
    (h : ∀ vs w', Ext w0 w' → Deps ops Fs j vs w' → ∃ f args, (execOp (S vs).eval o).run P w' = .ok (.enter f args) w' ∧ Calls P f args w' fun e w'' => ∃ r, e = .returned (.float k r) ∧ Fl k r X ∧ Ext w' w'')
    (hrest : MoGo P .any ops Ext w0 S fin rest ((j, fun _ u _ => FlOf k X u) :: Fs)) : MoGo P .any ops Ext w0 S fin ((j, d) :: rest) Fs :=
  mo_call (fun u _ => FlOf k X u) ho hg (fun _ _ _ h _ => h) (fun vs w' hw hd => by
    obtain ⟨f, args, h1, h2⟩ := h vs w' hw hd
    exact ⟨f, args, h1, h2.mono fun e w'' ⟨r, he, hr, hx⟩ => ⟨_, he, ⟨r, rfl, hr⟩, hx⟩⟩) hrest
end
end Go.Proofs.Ytddemhlhlbpecaa
