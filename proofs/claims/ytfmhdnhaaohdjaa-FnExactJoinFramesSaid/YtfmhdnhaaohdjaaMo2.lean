/- Steps of the walk through a head that makes memory. No condition. -/
import Derived.Test.YtfmhdnhaaohdjaaMo1
import Derived.Test.YtfmhdnhaaohdjaaTl
import Derived.ArgAppend
namespace Go.Proofs.Ytfmhdnhaaohdjaa
open Go.RowKit Ieee

theorem ext_drew1 (w : World) : Ext w { w with drawn := w.drawn + 1 } := Ext.drew (Ext.refl w)
theorem ext_tr (a b c : World) (h : Ext a b) (k : Ext b c) : Ext a c := Ext.trans h k
theorem ext_grown {w w' : World} (h : w.grownBy w' none) : Ext w w' := ⟨h.os, h.tape, h.output, h.size, fun k hk => h.block k hk (by simp)⟩

/-- A part of what a call has left. -/
def tupAt : Value → Nat → Value
  | .tuple cs, i => cs.getD i undef
  | _, _ => undef

section
variable {P : Program} {ops : Array Oper} {w0 : World} {S : (Nat → Value) → Act} {fin : List (Nat × Fact) → Prop} {j : Nat} {d : Tmp} {rest : List (Nat × Tmp)} {Fs : List (Nat × Fact)}

/-- What an operation's walk is given. -/
def Deps (ops : Array Oper) (Fs : List (Nat × Fact)) (j : Nat) (vs : Nat → Value) (w' : World) : Prop := ∀ i, anc .any ops 3 j i = true → factAt Fs i (seen .any ops i vs) (vs i) w'
theorem mo_any {o : Oper} (F : Fact) (ho : ops[j]? = some o) (hg : o.guard = none) (hF : ∀ us v w w', F us v w → Ext w w' → F us v w') (h : ∀ vs w', Ext w0 w' → Deps ops Fs j vs w' → moAt P Ext o (S vs) (F (seen .any ops j vs)) w')
    (hrest : MoGo P .any ops Ext w0 S fin rest ((j, F) :: Fs)) : MoGo P .any ops Ext w0 S fin ((j, d) :: rest) Fs :=
  ⟨F, hF, fun o2 ho2 vs w' hw hd => by
    obtain rfl : o = o2 := Option.some.inj (ho.symm.trans ho2)
    exact .inl ⟨by simp [Region.wanted, hg], h vs w' hw hd⟩, hrest⟩
/-- It leaves a value that is known ahead. -/
theorem mo_fix {o : Oper} (v : Value) (ho : ops[j]? = some o) (hg : o.guard = none) (h : ∀ vs w', Ext w0 w' → Deps ops Fs j vs w' → (execOp (S vs).eval o).run P w' = .ok (.value v) w')
    (hrest : MoGo P .any ops Ext w0 S fin rest ((j, fun _ u _ => u = v) :: Fs)) : MoGo P .any ops Ext w0 S fin ((j, d) :: rest) Fs :=
  mo_any _ ho hg (fun _ _ _ _ h _ => h) (fun vs w' hw hd => by unfold moAt; rw [h vs w' hw hd]; exact ⟨rfl, Ext.refl _⟩) hrest
theorem seen_got {md : Region.Mode} {i : Nat} {vs : Nat → Value} {F : Fact} {v : Value} {w : World} (h : F (seen md ops i vs) v w) : ∃ us : Nat → Value, (∀ k, Region.waitsFor md ops i k = true → us k = vs k) ∧ F us v w := ⟨_, fun _ hk => if_pos hk, h⟩
/-- It leaves a value of those that it waits for. -/
theorem mo_of {o : Oper} (v : (Nat → Value) → Value) (ho : ops[j]? = some o) (hg : o.guard = none) (h : ∀ us vs w', (∀ k, Region.waitsFor .any ops j k = true → us k = vs k) → Ext w0 w' → Deps ops Fs j vs w' → (execOp (S vs).eval o).run P w' = .ok (.value (v us)) w')
    (hrest : MoGo P .any ops Ext w0 S fin rest ((j, fun us u _ => u = v us) :: Fs)) : MoGo P .any ops Ext w0 S fin ((j, d) :: rest) Fs :=
  mo_any _ ho hg (fun _ _ _ _ h _ => h) (fun vs w' hw hd => by unfold moAt; rw [h (seen .any ops j vs) vs w' (fun _ hk => if_pos hk) hw hd]; exact ⟨rfl, Ext.refl _⟩) hrest
/-- It makes a block: a pointer to it, or a slice of it. -/
def Made (w0 : World) (k : Addr → Value) (obj : Obj) (v : Value) (w : World) : Prop := ∃ g, v = k ⟨g, 0, none⟩ ∧ w0.heap.size ≤ g ∧ w.heap[g]? = some obj
theorem Made.ext {w0 w w' : World} {k : Addr → Value} {obj : Obj} {v : Value} (h : Made w0 k obj v w) (hx : Ext w w') : Made w0 k obj v w' := by
  obtain ⟨g, h1, h2, h3⟩ := h
  exact ⟨g, h1, h2, hx.blk h3⟩
theorem mo_make {o : Oper} (k : Addr → Value) (obj : Obj) (ho : ops[j]? = some o) (hg : o.guard = none) (h : ∀ vs w', Ext w0 w' → Deps ops Fs j vs w' → (execOp (S vs).eval o).run P w' = .ok (.value (k ⟨w'.heap.size, 0, none⟩)) (w'.alloc obj))
    (hrest : MoGo P .any ops Ext w0 S fin rest ((j, fun _ u w => Made w0 k obj u w) :: Fs)) : MoGo P .any ops Ext w0 S fin ((j, d) :: rest) Fs :=
  mo_any _ ho hg (fun _ _ _ _ h hx => h.ext hx) (fun vs w' hw hd => by
    unfold moAt
    rw [h vs w' hw hd]
    exact ⟨⟨_, rfl, hw.size, heap_alloc_new w' obj⟩, Ext.alloc (Ext.refl _) _⟩) hrest
/-- The same, of a value that it was given. -/
theorem mo_make_of {o : Oper} (k : Addr → Value) (obj : (Nat → Value) → Obj) (ho : ops[j]? = some o) (hg : o.guard = none) (h : ∀ us vs w', (∀ k, Region.waitsFor .any ops j k = true → us k = vs k) → Ext w0 w' → Deps ops Fs j vs w' → (execOp (S vs).eval o).run P w' = .ok (.value (k ⟨w'.heap.size, 0, none⟩)) (w'.alloc (obj us)))
    (hrest : MoGo P .any ops Ext w0 S fin rest ((j, fun us u w => Made w0 k (obj us) u w) :: Fs)) : MoGo P .any ops Ext w0 S fin ((j, d) :: rest) Fs :=
  mo_any _ ho hg (fun _ _ _ _ h hx => h.ext hx) (fun vs w' hw hd => by
    unfold moAt
    rw [h (seen .any ops j vs) vs w' (fun _ hk => if_pos hk) hw hd]
    exact ⟨⟨_, rfl, hw.size, heap_alloc_new w' _⟩, Ext.alloc (Ext.refl _) _⟩) hrest
/-- A call, by its contract. -/
theorem mo_call {o : Oper} (F : Value → World → Prop) (ho : ops[j]? = some o) (hg : o.guard = none) (hF : ∀ v w w', F v w → Ext w w' → F v w')
    (h : ∀ vs w', Ext w0 w' → Deps ops Fs j vs w' → ∃ f args, (execOp (S vs).eval o).run P w' = .ok (.enter f args) w' ∧ Calls P f args w' fun e w'' => ∃ u, e = .returned u ∧ F u w'' ∧ Ext w' w'')
    (hrest : MoGo P .any ops Ext w0 S fin rest ((j, fun _ u w => F u w) :: Fs)) : MoGo P .any ops Ext w0 S fin ((j, d) :: rest) Fs :=
  mo_any _ ho hg (fun _ v w w' h hx => hF v w w' h hx) (fun vs w' hw hd => by
    obtain ⟨f, args, h1, h2⟩ := h vs w' hw hd
    unfold moAt
    rw [h1]
    exact h2) hrest
/-- Some floats are appended to a list that was made empty. -/
def RowOf (w0 : World) (T : TypeId) (n : Nat) (xs : List Value) (v : Value) (w : World) : Prop := ∃ g cap cur, v = .slice (some ⟨g, 0, none⟩) n cap ∧ w0.heap.size ≤ g ∧ w.heap[g]? = some (.cells cur T (0, 0)) ∧ n ≤ cap ∧ cap ≤ maxLen ∧ cur.size = cap ∧ cur.toList.take n = xs
theorem RowOf.ext {w0 w w' : World} {T : TypeId} {n : Nat} {xs : List Value} {v : Value} (h : RowOf w0 T n xs v w) (hx : Ext w w') : RowOf w0 T n xs v w' := by
  obtain ⟨g, cap, cur, h1, h2, h3, h4⟩ := h
  exact ⟨g, cap, cur, h1, h2, hx.blk h3, h4⟩
theorem mo_append {o : Oper} (e : TypeId) (xs : List Value) (s x : Operand) (t : TypeId) (ho : ops[j]? = some o) (hg : o.guard = none) (hop : o.op = Op.call { callee := Callee.builtin Builtin.append, args := #[s, x], argTypes := #[t, t] })
    (i : TypeInfo) (z : Value) (bytes : Nat) (h1 : P.underlying t = some (.slice e)) (h2 : P.info? e = some i) (h3 : i.zero = some z) (h4 : i.size = 1) (h5 : i.bytes = bytes) (h6 : z.cells.size = 1)
    (m : Nat) (hpos : 0 < m) (hl : xs.length = m) (b1 : m ≤ maxLen) (b2 : m * bytes ≤ 140737488355328)
    (h : ∀ vs w', Ext w0 w' → Deps ops Fs j vs w' → ∃ g ad c, (S vs).eval s = .slice (some ⟨g, 0, none⟩) 0 0 ∧ (S vs).eval x = .slice (some ad) m c ∧ ∀ j u, xs[j]? = some u → w'.cell? (ad.add j) = some u)
    (hrest : MoGo P .any ops Ext w0 S fin rest ((j, fun _ u w => RowOf w0 e m xs u w) :: Fs)) : MoGo P .any ops Ext w0 S fin ((j, d) :: rest) Fs :=
  mo_any _ ho hg (fun _ _ _ _ h hx => h.ext hx) (fun vs w' hw hd => by
    obtain ⟨g, ad, c, hs, hx, hc⟩ := h vs w' hw hd
    obtain ⟨v', w'', hrun, r1, r2⟩ := run_append_arg_grows (P := P) w' t o.type e i z 1 bytes h1 h2 h3 h4 h5 h6 (by decide) ⟨g, 0, none⟩ 0 0 [] rfl (fun j u hj => by simp at hj) ad m c xs (by rw [hl, Nat.mul_one]) hc (by omega) (by omega) (by rw [Nat.zero_add]; exact b2)
    unfold moAt
    simp [execOp, hop, resolve, invoke, builtin, hs, hx, hrun, Result.andThen, moUpon]
    refine ⟨?_, ext_grown r2⟩
    obtain ⟨hlen, hown⟩ := r1
    rcases hown with ⟨_, h0⟩ | ⟨g', cap, cur, hv, hb, hgb, hn, hm, hcs, htk⟩
    · omega
    · rw [Nat.zero_add] at hv hn htk
      exact ⟨g', cap, cur, hv, Nat.le_trans hw.size hb, hgb, hn, hm, by rw [hcs, Nat.mul_one], by simpa using htk⟩) hrest
/-- The end of the head. -/
theorem mo_end (h : fin Fs) : MoGo P .any ops Ext w0 S fin [] Fs := h
end
end Go.Proofs.Ytfmhdnhaaohdjaa
