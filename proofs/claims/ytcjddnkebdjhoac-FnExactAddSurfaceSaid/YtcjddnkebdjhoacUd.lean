/- A call of a Go function, and float operations on what it gives back, as steps of a region that draws its order. No condition. -/
import Derived.Test.YtcjddnkebdjhoacTr
namespace Go.Proofs.Ytcjddnkebdjhoac
open Go.RowKit Ieee

theorem run_callFunc_go {P : Program} {f : FuncId} {fn : Func} (hf : P.funcs[f]? = some fn) (hname : (fn.name == "runtime.NumGoroutine") = false) (hb : fn.body.isNone = false) (args : Array Value) (w : World) :
    (callFunc f args).run P w = .ok (.enter f args) w := by
  have h1 : fn.name ≠ "runtime.NumGoroutine" := by simpa using hname
  have h2 : fn.body ≠ none := by intro h; rw [h] at hb; cases hb
  simp [callFunc, hf, h1, h2]
/-- A call of a Go function that gives back a float, as a step of a region that draws its order. -/
theorem step_call_float {P : Program} {ops : Array Oper} {o : Oper} {a : Act} {w : World} {K : Act → World → Prop} {Q : Exit → Act → World → Prop} {E : Prop}
    (hg : o.guard = none) (f : Nat) (args : Array Operand) (tys : Array TypeId) (hop : o.op = Op.call { callee := Callee.value (Operand.func f), args := args, argTypes := tys })
    {fn : Func} (hf : P.funcs[f]? = some fn) (hname : (fn.name == "runtime.NumGoroutine") = false) (hb : fn.body.isNone = false)
    (vals : Array Value) (hvals' : args.toList.map a.eval = vals.toList) {X : Option Nat} (hC : Calls P f vals w fun e w' => ∃ r, e = .returned (.float .f32 r) ∧ Fl .f32 r X ∧ Dr w w')
    (hK : ∀ r n, Fl .f32 r X → K (a.put o.dst (.float .f32 r)) (w.drewN n)) :
    if Region.wanted o (yielded ops a.tmps) = true then Oper.wp P o a w K Q else E := by
  have hw : Region.wanted o (yielded ops a.tmps) = true := by simp [Region.wanted, hg]
  rw [if_pos hw]
  have hvals : args.map a.eval = vals := by apply Array.ext'; simpa using hvals'
  have he : a.eval (Operand.func f) = .func (.func f) #[] #[] := rfl
  unfold Oper.wp
  simp [execOp, hop, resolve, invoke, hvals, he, Deferred.ofValue, run_callFunc_go hf hname hb]
  rw [Oper.upon_enter]
  refine Calls.mono hC ?_
  rintro e w' ⟨r, rfl, hr, n, rfl⟩
  exact hK r n hr
/-- The same, of three arguments. -/
theorem step_call_float3 {P : Program} {ops : Array Oper} {dst : Option Nat} {f : Nat} {x1 x2 x3 : Operand} {tys : Array TypeId} {ty : TypeId} {pos : String} {aft : Array Edge} {a : Act} {w : World} {K : Act → World → Prop} {Q : Exit → Act → World → Prop} {E : Prop}
    {fn : Func} (hf : P.funcs[f]? = some fn) (hname : (fn.name == "runtime.NumGoroutine") = false) (hb : fn.body.isNone = false)
    (v1 v2 v3 : Value) (h1 : a.eval x1 = v1) (h2 : a.eval x2 = v2) (h3 : a.eval x3 = v3) {X : Option Nat} (hC : Calls P f #[v1, v2, v3] w fun e w' => ∃ r, e = .returned (.float .f32 r) ∧ Fl .f32 r X ∧ Dr w w')
    (hK : ∀ r n, Fl .f32 r X → K (a.put dst (.float .f32 r)) (w.drewN n)) :
    if Region.wanted { dst := dst, op := Op.call { callee := Callee.value (Operand.func f), args := #[x1, x2, x3], argTypes := tys }, type := ty, pos := pos, after := aft, guard := none } (yielded ops a.tmps) = true then Oper.wp P { dst := dst, op := Op.call { callee := Callee.value (Operand.func f), args := #[x1, x2, x3], argTypes := tys }, type := ty, pos := pos, after := aft, guard := none } a w K Q else E :=
  step_call_float rfl f #[x1, x2, x3] tys rfl hf hname hb #[v1, v2, v3] (by show [a.eval x1, a.eval x2, a.eval x3] = [v1, v2, v3]; rw [h1, h2, h3]) hC hK
/-- A float operation on what comes in any world, as a rule of the walk. -/
theorem fop_rule_of {P : Program} {op : BinOp} (hop : isArith op = true) {x : Nat} {y : World → Nat} {X Y : Option Nat} (hx : Fl .f32 x X) (hy : ∀ v, Fl .f32 (y v) Y) (t : TypeId) :
    ∃ (R : World → World → Nat) (N : World → World → Nat), (∀ v w, (binOp op t (.float .f32 x) (.float .f32 (y v))).run P w = .ok (.float .f32 (R v w)) (w.drewN (N v w))) ∧ ∀ v w, Fl .f32 (R v w) (fop op .f32 X Y) := by
  have h := fun v w : World => run_fop (P := P) w op hop t .f32 x (y v)
  refine ⟨fun v w => (h v w).choose, fun v w => (h v w).choose_spec.choose, fun v w => (h v w).choose_spec.choose_spec.1, fun v w => ?_⟩
  obtain ⟨_, h2, h3⟩ := (h v w).choose_spec.choose_spec
  exact ⟨h2.trans (by rw [hx.eq, (hy v).eq]), h3⟩
end Go.Proofs.Ytcjddnkebdjhoac
