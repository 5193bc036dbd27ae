/- Steps of the walk through a region that draws its order, where floats may be any not-a-number. No condition. -/
import Derived.Test.YtfmhdnhaaohdjaaLo1
import Derived.Test.YtfmhdnhaaohdjaaConv
namespace Go.Proofs.Ytfmhdnhaaohdjaa
open Go.RowKit Ieee

theorem fop_is {op : BinOp} {k : FloatKind} {x y : Nat} {X Y : Option Nat} (hx : Fl k x X) (hy : Fl k y Y) : ∃ r, Fl k r (fop op k X Y) := by
  rw [← hx.eq, ← hy.eq, fop_fl]
  cases h : floatBits op k x y with
  | none => exact ⟨nanWord k 0, (nanWord_nan k 0).1, (nanWord_nan k 0).2⟩
  | some r =>
    refine ⟨r, floatBits_fl h, ?_⟩
    unfold floatBits at h
    split at h
    · exact k.format.add_lt h
    · exact k.format.sub_lt h
    · exact k.format.mul_lt h
    · exact k.format.div_lt h
    · cases h
theorem calls_some {P : Program} {f : FuncId} {args : Array Value} {w : World} {K : Ending → World → Prop} (h : Calls P f args w K) : ∃ e w', K e w' := by
  obtain ⟨e, w', _, hk, _⟩ := h []
  exact ⟨e, w', hk⟩
/-- The worlds that come of some draws. -/
abbrev Drawn (w : World) : World → Prop := fun w' => ∃ q, w' = w.drewN q

section
variable {P : Program} {ops : Array Oper} {w : World} {Q : (Act → Prop) → Prop} {o : Oper} {l : List Oper} {T : (Act → Prop) → Prop}

/-- The walk, of all states that a telescope tells. -/
def wpLa (P : Program) (ops : Array Oper) (C : World → Prop) (Q : (Act → Prop) → Prop) (l : List Oper) (T : (Act → Prop) → Prop) : Prop := ∀ A : Act → Prop, (∃ a, A a) → (∀ R : Act → Prop, T R → ∀ a, A a → R a) → wpLo P ops C Q l A
theorem la_start {a : Act} (h : wpLa P ops (Drawn w) Q l (fun R => R a)) : wpLo P ops (Drawn w) Q l (fun a' => a' = a) := h _ ⟨a, rfl⟩ (fun R hR a' ha' => by rw [ha']; exact hR)
theorem la_any (F : Value → Prop) (h0 : T (fun _ => ∃ v, F v)) (h1 : T (fun a => YieldsL P ops (Drawn w) o F a)) (h2 : wpLa P ops (Drawn w) Q l (fun R => T (fun a => ∀ u, F u → R (a.put o.dst u)))) : wpLa P ops (Drawn w) Q (o :: l) T := by
  intro A hn hA
  obtain ⟨a0, ha0⟩ := hn
  have hF := hA _ h0 a0 ha0
  refine ⟨F, hF, hA _ h1, h2 _ ?_ ?_⟩
  · obtain ⟨v, hv⟩ := hF
    exact ⟨_, a0, v, ha0, hv, rfl⟩
  rintro R hR _ ⟨a, u, ha, hu, rfl⟩
  exact hA _ hR a ha u hu
/-- An operation that leaves one value. -/
theorem la_fix (v : Value) (hg : o.guard = none) (h1 : T (fun a => ∀ q, (execOp a.eval o).run P (w.drewN q) = .ok (.value v) (w.drewN q))) (h2 : wpLa P ops (Drawn w) Q l (fun R => T (fun a => R (a.put o.dst v)))) : wpLa P ops (Drawn w) Q (o :: l) T := by
  intro A hn hA
  obtain ⟨a0, ha0⟩ := hn
  refine ⟨fun u => u = v, ⟨v, rfl⟩, fun a ha => .inl ⟨by simp [Region.wanted, hg], ?_⟩, h2 _ ⟨_, a0, v, ha0, rfl, rfl⟩ ?_⟩
  · rintro _ ⟨q, rfl⟩
    unfold looseAt
    rw [hA _ h1 a ha q]
    exact ⟨rfl, q, rfl⟩
  · rintro R hR _ ⟨a, u, ha, rfl, rfl⟩
    exact hA _ hR a ha
/-- A float operation. -/
theorem la_fop {op : BinOp} {t : TypeId} {k : FloatKind} {X Y : Option Nat} (hop : isArith op = true) (hg : o.guard = none)
    (h1 : T (fun a => ∃ x y, Fl k x X ∧ Fl k y Y ∧ ∀ q, (execOp a.eval o).run P (w.drewN q) = ((binOp op t (.float k x) (.float k y)).run P (w.drewN q)).andThen fun v w' => .ok (.value v) w'))
    (h2 : wpLa P ops (Drawn w) Q l (fun R => T (fun a => ∀ r, Fl k r (fop op k X Y) → R (a.put o.dst (.float k r))))) : wpLa P ops (Drawn w) Q (o :: l) T := by
  intro A hn hA
  obtain ⟨a0, ha0⟩ := hn
  obtain ⟨x0, y0, hx0, hy0, _⟩ := hA _ h1 a0 ha0
  obtain ⟨r0, hr0⟩ := fop_is (op := op) hx0 hy0
  refine ⟨fun u => ∃ r, u = .float k r ∧ Fl k r (fop op k X Y), ⟨_, r0, rfl, hr0⟩, fun a ha => .inl ⟨by simp [Region.wanted, hg], ?_⟩, h2 _ ⟨_, a0, _, ha0, ⟨r0, rfl, hr0⟩, rfl⟩ ?_⟩
  · rintro _ ⟨q, rfl⟩
    obtain ⟨x, y, hx, hy, hrun⟩ := hA _ h1 a ha
    unfold looseAt
    rw [hrun q]
    obtain ⟨r, n, hr, e1, e2⟩ := run_fop (P := P) (w.drewN q) op hop t k x y
    rw [hr]
    exact ⟨⟨r, rfl, ⟨by rw [e1, hx.eq, hy.eq], e2⟩⟩, q + n, by simp [World.drewN, Nat.add_assoc]⟩
  · rintro R hR _ ⟨a, u, ha, ⟨r, rfl, hr⟩, rfl⟩
    exact hA _ hR a ha r hr
/-- A float made one of another kind. -/
theorem la_conv {src dst : TypeId} {s k : FloatKind} {X : Option Nat} (hs : (P.underlying src).isSome = true) (hd : P.underlying dst = some (.float k)) (hf : Fits s k X) (hg : o.guard = none)
    (h1 : T (fun a => ∃ x, Fl s x X ∧ ∀ q, (execOp a.eval o).run P (w.drewN q) = ((convert src dst (.float s x)).run P (w.drewN q)).andThen fun v w' => .ok (.value v) w'))
    (h2 : wpLa P ops (Drawn w) Q l (fun R => T (fun a => ∀ r, Fl k r (fconv s k X) → R (a.put o.dst (.float k r))))) : wpLa P ops (Drawn w) Q (o :: l) T := by
  intro A hn hA
  obtain ⟨a0, ha0⟩ := hn
  obtain ⟨x0, hx0, _⟩ := hA _ h1 a0 ha0
  have hconv : ∀ W x, Fl s x X → ∃ r n, (convert src dst (.float s x)).run P W = .ok (.float k r) (W.drewN n) ∧ Fl k r (fconv s k X) := by
    intro W x hx
    obtain ⟨r, n, e1, e2, e3⟩ := run_fconv (P := P) W src dst s k x hx.lt hs hd (by rw [hx.eq]; exact hf)
    exact ⟨r, n, e1, ⟨by rw [e2, hx.eq], e3⟩⟩
  obtain ⟨r0, _, _, hr0⟩ := hconv w x0 hx0
  refine ⟨fun u => ∃ r, u = .float k r ∧ Fl k r (fconv s k X), ⟨_, r0, rfl, hr0⟩, fun a ha => .inl ⟨by simp [Region.wanted, hg], ?_⟩, h2 _ ⟨_, a0, _, ha0, ⟨r0, rfl, hr0⟩, rfl⟩ ?_⟩
  · rintro _ ⟨q, rfl⟩
    obtain ⟨x, hx, hrun⟩ := hA _ h1 a ha
    unfold looseAt
    rw [hrun q]
    obtain ⟨r, n, hr, e1⟩ := hconv (w.drewN q) x hx
    rw [hr]
    exact ⟨⟨r, rfl, e1⟩, q + n, by simp [World.drewN, Nat.add_assoc]⟩
  · rintro R hR _ ⟨a, u, ha, ⟨r, rfl, hr⟩, rfl⟩
    exact hA _ hR a ha r hr
/-- A call that gives back a float, and draws. -/
theorem la_callF {f : FuncId} {k : FloatKind} {X : Option Nat} (hg : o.guard = none)
    (h1 : T (fun a => ∃ args, (∀ q, (execOp a.eval o).run P (w.drewN q) = .ok (.enter f args) (w.drewN q)) ∧ ∀ q, Calls P f args (w.drewN q) fun e w' => ∃ r, e = .returned (.float k r) ∧ Fl k r X ∧ Dr (w.drewN q) w'))
    (h2 : wpLa P ops (Drawn w) Q l (fun R => T (fun a => ∀ r, Fl k r X → R (a.put o.dst (.float k r))))) : wpLa P ops (Drawn w) Q (o :: l) T := by
  intro A hn hA
  obtain ⟨a0, ha0⟩ := hn
  obtain ⟨_, _, hc0⟩ := hA _ h1 a0 ha0
  obtain ⟨_, _, r0, _, hr0, _⟩ := calls_some (hc0 0)
  refine ⟨fun u => ∃ r, u = .float k r ∧ Fl k r X, ⟨_, r0, rfl, hr0⟩, fun a ha => .inl ⟨by simp [Region.wanted, hg], ?_⟩, h2 _ ⟨_, a0, _, ha0, ⟨r0, rfl, hr0⟩, rfl⟩ ?_⟩
  · rintro _ ⟨q, rfl⟩
    obtain ⟨args, hrun, hc⟩ := hA _ h1 a ha
    unfold looseAt
    rw [hrun q]
    exact (hc q).mono fun e w' ⟨r, he, hr, n, hw⟩ => ⟨_, he, ⟨r, rfl, hr⟩, q + n, by rw [hw]; simp [World.drewN, Nat.add_assoc]⟩
  · rintro R hR _ ⟨a, u, ha, ⟨r, rfl, hr⟩, rfl⟩
    exact hA _ hR a ha r hr
theorem la_end {ops' : List Oper} {Q' : Exit → Act → World → Prop} (h : T (fun a => ∀ q, wpList P ops Q' ops' a (w.drewN q))) : wpLa P ops (Drawn w) (fun A => ∀ a' w', A a' → (∃ q, w' = w.drewN q) → wpList P ops Q' ops' a' w') [] T := by
  intro A _ hA
  show ∀ a' w', A a' → (∃ q, w' = w.drewN q) → _
  rintro a' _ ha ⟨q, rfl⟩
  exact hA _ h a' ha q
end
end Go.Proofs.Ytfmhdnhaaohdjaa
