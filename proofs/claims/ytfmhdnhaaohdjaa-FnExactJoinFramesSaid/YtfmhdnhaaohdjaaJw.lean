/- Steps of a walk through a head in which a row of floats is appended to twice: rows may turn behind what stands in them. No condition. -/
import Derived.Test.YtfmhdnhaaohdjaaJv
namespace Go.Proofs.Ytfmhdnhaaohdjaa
open Go.RowKit Go.ChangeShapes Go.WideShapes Go.Deep Ieee
set_option linter.unusedVariables false
set_option linter.unusedSimpArgs false

/-- Blocks stay, but for rows of floats from b on, which keep what stands in front. -/
structure RJ (b n1 : Nat) (XA : List Value) (n : Nat) (X : List Value) (w w' : World) : Prop where
  os : w'.os = w.os
  tape : w'.tape = w.tape
  output : w'.output = w.output
  size : w.heap.size ≤ w'.heap.size
  block : ∀ k, k < w.heap.size → w'.heap[k]? = w.heap[k]? ∨ (b ≤ k ∧ ∃ cs cs', w.heap[k]? = some (.cells cs 83 (0, 0)) ∧ w'.heap[k]? = some (.cells cs' 83 (0, 0)) ∧ cs'.size = cs.size ∧ (cs.toList.take n1 = XA → cs'.toList.take n1 = XA) ∧ (cs.toList.take n = X → cs'.toList.take n = X))
section
variable {b n1 n : Nat} {XA X : List Value}
theorem RJ.refl (w : World) : RJ b n1 XA n X w w := ⟨rfl, rfl, rfl, Nat.le_refl _, fun _ _ => .inl rfl⟩
theorem RJ.of {w w' : World} (h : Ext w w') : RJ b n1 XA n X w w' := ⟨h.os, h.tape, h.output, h.size, fun k hk => .inl (h.block k hk)⟩
theorem RJ.tr (w1 w2 w3 : World) (h : RJ b n1 XA n X w1 w2) (k : RJ b n1 XA n X w2 w3) : RJ b n1 XA n X w1 w3 := by
  refine ⟨k.os.trans h.os, k.tape.trans h.tape, k.output.trans h.output, Nat.le_trans h.size k.size, fun i hi => ?_⟩
  rcases h.block i hi with h1 | ⟨hb, cs, cs', h1, h2, h3, h4, h5⟩
  · rcases k.block i (Nat.lt_of_lt_of_le hi h.size) with k1 | ⟨kb, ds, ds', k1, k2⟩
    · exact .inl (k1.trans h1)
    · exact .inr ⟨kb, ds, ds', h1.symm.trans k1, k2⟩
  · rcases k.block i (Nat.lt_of_lt_of_le hi h.size) with k1 | ⟨kb, ds, ds', k1, k2, k3, k4, k5⟩
    · exact .inr ⟨hb, cs, cs', h1, k1.trans h2, h3, h4, h5⟩
    · have e := h2.symm.trans k1
      simp only [Option.some.injEq, Obj.cells.injEq, and_true] at e
      subst e
      exact .inr ⟨hb, cs, ds', h1, k2, k3.trans h3, fun q => k4 (h4 q), fun q => k5 (h5 q)⟩
theorem RJ.drew1 (w : World) : RJ b n1 XA n X w { w with drawn := w.drawn + 1 } := RJ.of (ext_drew1 w)
theorem RJ.ext {w w' : World} (h : RJ w.heap.size n1 XA n X w w') : Ext w w' := ⟨h.os, h.tape, h.output, h.size, fun k hk => by
  rcases h.block k hk with h1 | ⟨h1, _⟩
  · exact h1
  · omega⟩
theorem RJ.other {w w' : World} (h : RJ b n1 XA n X w w') {k : Nat} {cs : Array Value} {T : TypeId} (hk : w.heap[k]? = some (.cells cs T (0, 0))) (hT : T ≠ 83) : w'.heap[k]? = some (.cells cs T (0, 0)) := by
  rcases h.block k (blk_lt hk) with h1 | ⟨_, ds, ds', h1, _⟩
  · exact h1.trans hk
  · have e := hk.symm.trans h1
    simp only [Option.some.injEq, Obj.cells.injEq] at e
    exact absurd e.2.1 hT
/-- A row of floats of its own. -/
def RowJ (b m : Nat) (xs : List Value) (v : Value) (w : World) : Prop := ∃ g cap cur, v = .slice (some ⟨g, 0, none⟩) m cap ∧ b ≤ g ∧ w.heap[g]? = some (.cells cur 83 (0, 0)) ∧ m ≤ cap ∧ cap ≤ maxLen ∧ cur.size = cap ∧ cur.toList.take m = xs
theorem RowJ.one {w w' : World} {v : Value} (h : RowJ b n1 XA v w) (hr : RJ b n1 XA n X w w') : RowJ b n1 XA v w' := by
  obtain ⟨g, cap, cur, h1, h2, h3, h4, h5, h6, h7⟩ := h
  rcases hr.block g (blk_lt h3) with k1 | ⟨_, ds, ds', k1, k2, k3, k4, _⟩
  · exact ⟨g, cap, cur, h1, h2, k1.trans h3, h4, h5, h6, h7⟩
  · have e := h3.symm.trans k1
    simp only [Option.some.injEq, Obj.cells.injEq, and_true] at e
    subst e
    exact ⟨g, cap, ds', h1, h2, k2, h4, h5, k3.trans h6, k4 h7⟩
theorem RowJ.two {w w' : World} {v : Value} (h : RowJ b n X v w) (hr : RJ b n1 XA n X w w') : RowJ b n X v w' := by
  obtain ⟨g, cap, cur, h1, h2, h3, h4, h5, h6, h7⟩ := h
  rcases hr.block g (blk_lt h3) with k1 | ⟨_, ds, ds', k1, k2, k3, _, k5⟩
  · exact ⟨g, cap, cur, h1, h2, k1.trans h3, h4, h5, h6, h7⟩
  · have e := h3.symm.trans k1
    simp only [Option.some.injEq, Obj.cells.injEq, and_true] at e
    subst e
    exact ⟨g, cap, ds', h1, h2, k2, h4, h5, k3.trans h6, k5 h7⟩
end
section
variable {n1 n : Nat} {XA X : List Value} {P : Program} {ops : Array Oper} {w0 : World} {S : (Nat → Value) → Act} {fin : List (Nat × Fact) → Prop} {j : Nat} {d : Tmp} {rest : List (Nat × Tmp)} {Fs : List (Nat × Fact)}
theorem mj_any {o : Oper} (F : Fact) (ho : ops[j]? = some o) (hg : o.guard = none) (hF : ∀ us v w w', F us v w → RJ w0.heap.size n1 XA n X w w' → F us v w') (h : ∀ vs w', Ext w0 w' → Deps ops Fs j vs w' → moAt P (RJ w0.heap.size n1 XA n X) o (S vs) (F (seen .any ops j vs)) w')
    (hrest : MoGo P .any ops (RJ w0.heap.size n1 XA n X) w0 S fin rest ((j, F) :: Fs)) : MoGo P .any ops (RJ w0.heap.size n1 XA n X) w0 S fin ((j, d) :: rest) Fs :=
  ⟨F, hF, fun o2 ho2 vs w' hw hd => by
    obtain rfl : o = o2 := Option.some.inj (ho.symm.trans ho2)
    exact .inl ⟨by simp [Region.wanted, hg], h vs w' hw.ext hd⟩, hrest⟩
theorem mj_fix {o : Oper} (v : Value) (ho : ops[j]? = some o) (hg : o.guard = none) (h : ∀ vs w', Ext w0 w' → Deps ops Fs j vs w' → (execOp (S vs).eval o).run P w' = .ok (.value v) w')
    (hrest : MoGo P .any ops (RJ w0.heap.size n1 XA n X) w0 S fin rest ((j, fun _ u _ => u = v) :: Fs)) : MoGo P .any ops (RJ w0.heap.size n1 XA n X) w0 S fin ((j, d) :: rest) Fs :=
  mj_any _ ho hg (fun _ _ _ _ h _ => h) (fun vs w' hw hd => by unfold moAt; rw [h vs w' hw hd]; exact ⟨rfl, RJ.refl _⟩) hrest
theorem mj_of {o : Oper} (v : (Nat → Value) → Value) (ho : ops[j]? = some o) (hg : o.guard = none) (h : ∀ us vs w', (∀ k, Region.waitsFor .any ops j k = true → us k = vs k) → Ext w0 w' → Deps ops Fs j vs w' → (execOp (S vs).eval o).run P w' = .ok (.value (v us)) w')
    (hrest : MoGo P .any ops (RJ w0.heap.size n1 XA n X) w0 S fin rest ((j, fun us u _ => u = v us) :: Fs)) : MoGo P .any ops (RJ w0.heap.size n1 XA n X) w0 S fin ((j, d) :: rest) Fs :=
  mj_any _ ho hg (fun _ _ _ _ h _ => h) (fun vs w' hw hd => by unfold moAt; rw [h (seen .any ops j vs) vs w' (fun _ hk => if_pos hk) hw hd]; exact ⟨rfl, RJ.refl _⟩) hrest
/-- An empty slice. -/
theorem mj_new {o : Oper} (obj : Obj) (ho : ops[j]? = some o) (hg : o.guard = none) (h : ∀ vs w', Ext w0 w' → Deps ops Fs j vs w' → (execOp (S vs).eval o).run P w' = .ok (.value (.slice (some ⟨w'.heap.size, 0, none⟩) 0 0)) (w'.alloc obj))
    (hrest : MoGo P .any ops (RJ w0.heap.size n1 XA n X) w0 S fin rest ((j, fun _ u _ => ∃ g, u = .slice (some ⟨g, 0, none⟩) 0 0) :: Fs)) : MoGo P .any ops (RJ w0.heap.size n1 XA n X) w0 S fin ((j, d) :: rest) Fs :=
  mj_any _ ho hg (fun _ _ _ _ h _ => h) (fun vs w' hw hd => by unfold moAt; rw [h vs w' hw hd]; exact ⟨⟨_, rfl⟩, RJ.of (Ext.alloc (Ext.refl _) _)⟩) hrest
/-- A box. -/
theorem mj_make {o : Oper} (k : Addr → Value) (cs : Array Value) (T : TypeId) (hT : T ≠ 83) (ho : ops[j]? = some o) (hg : o.guard = none) (h : ∀ vs w', Ext w0 w' → Deps ops Fs j vs w' → (execOp (S vs).eval o).run P w' = .ok (.value (k ⟨w'.heap.size, 0, none⟩)) (w'.alloc (.cells cs T (0, 0))))
    (hrest : MoGo P .any ops (RJ w0.heap.size n1 XA n X) w0 S fin rest ((j, fun _ u w => Made w0 k (.cells cs T (0, 0)) u w) :: Fs)) : MoGo P .any ops (RJ w0.heap.size n1 XA n X) w0 S fin ((j, d) :: rest) Fs :=
  mj_any _ ho hg (fun _ _ _ _ h hx => by
      obtain ⟨g, h1, h2, h3⟩ := h
      exact ⟨g, h1, h2, hx.other h3 hT⟩) (fun vs w' hw hd => by
    unfold moAt
    rw [h vs w' hw hd]
    exact ⟨⟨_, rfl, hw.size, heap_alloc_new w' _⟩, RJ.of (Ext.alloc (Ext.refl _) _)⟩) hrest
end
section
variable {n1 n : Nat} {XA X : List Value} {ops : Array Oper} {w0 : World} {S : (Nat → Value) → Act} {fin : List (Nat × Fact) → Prop} {j : Nat} {d : Tmp} {rest : List (Nat × Tmp)} {Fs : List (Nat × Fact)}
theorem mj_app1 {o : Oper} (s x : Operand) (ho : ops[j]? = some o) (hg : o.guard = none) (hop : o.op = Op.call { callee := Callee.builtin Builtin.append, args := #[s, x], argTypes := #[22, 22] }) (rs : List Nat) (hXA : XA = fvals rs) (hpos : 0 < n1) (hn : n1 ≤ 1000000) (hl : rs.length = n1)
    (h : ∀ vs w', Ext w0 w' → Deps ops Fs j vs w' → ∃ g ad c, (S vs).eval s = .slice (some ⟨g, 0, none⟩) 0 0 ∧ (S vs).eval x = .slice (some ad) n1 c ∧ ∀ j u, (fvals rs)[j]? = some u → w'.cell? (ad.add j) = some u)
    (hrest : MoGo Try.prog .any ops (RJ w0.heap.size n1 XA n X) w0 S fin rest ((j, fun _ u w => RowJ w0.heap.size n1 XA u w) :: Fs)) : MoGo Try.prog .any ops (RJ w0.heap.size n1 XA n X) w0 S fin ((j, d) :: rest) Fs :=
  mj_any (fun _ u w => RowJ w0.heap.size n1 XA u w) ho hg (fun _ _ _ _ h hx => RowJ.one h hx) (fun vs w' hw hd => by
    obtain ⟨i0, hi, hz0, hz1, hz2⟩ := info_parts info_f32
    obtain ⟨g, ad, c, hs, hx, hc⟩ := h vs w' hw hd
    obtain ⟨v', w'', hrun, r1, r2⟩ := run_append_arg_grows (P := Try.prog) w' 22 o.type 83 i0 (.float .f32 0) 1 4 Try.underlying22 hi hz0 hz1 hz2 rfl (by decide) ⟨g, 0, none⟩ 0 0 [] rfl (fun j u hj => by simp at hj) ad n1 c (fvals rs) (by simp [fvals, hl]) hc (by omega) (by unfold maxLen; omega) (by omega)
    unfold moAt
    simp [execOp, hop, resolve, invoke, builtin, hs, hx, hrun, Result.andThen, moUpon]
    refine ⟨?_, RJ.of (ext_grown r2)⟩
    obtain ⟨hlen, hown⟩ := r1
    rcases hown with ⟨_, h0⟩ | ⟨g', cap, cur, hv, hb, hgb, hn', hm, hcs, htk⟩
    · omega
    · rw [Nat.zero_add] at hv hn' htk
      exact ⟨g', cap, cur, hv, Nat.le_trans hw.size hb, hgb, hn', hm, by rw [hcs, Nat.mul_one], by rw [hXA]; simpa using htk⟩) hrest
theorem mj_app2 {o : Oper} (s x : Operand) (ho : ops[j]? = some o) (hg : o.guard = none) (hop : o.op = Op.call { callee := Callee.builtin Builtin.append, args := #[s, x], argTypes := #[22, 22] }) (rs1 rs : List Nat) (m : Nat) (hXA : XA = fvals rs1) (hX : X = fvals rs1 ++ fvals rs) (hnn : n = n1 + m) (hn : n ≤ 1000000) (hl1 : rs1.length = n1) (hl : rs.length = m)
    (h : ∀ vs w', Ext w0 w' → Deps ops Fs j vs w' → ∃ ad c, RowJ w0.heap.size n1 XA ((S vs).eval s) w' ∧ (S vs).eval x = .slice (some ad) m c ∧ ∀ j u, (fvals rs)[j]? = some u → w'.cell? (ad.add j) = some u)
    (hrest : MoGo Try.prog .any ops (RJ w0.heap.size n1 XA n X) w0 S fin rest ((j, fun _ u w => RowJ w0.heap.size n X u w) :: Fs)) : MoGo Try.prog .any ops (RJ w0.heap.size n1 XA n X) w0 S fin ((j, d) :: rest) Fs :=
  mj_any (fun _ u w => RowJ w0.heap.size n X u w) ho hg (fun _ _ _ _ h hx => RowJ.two h hx) (fun vs w' hw hd => by
    obtain ⟨i0, hi, hz0, hz1, hz2⟩ := info_parts info_f32
    obtain ⟨ad, c, ⟨g, cap, cur, hs, hbg, hgh, hnc, hcm, hcs, htk⟩, hx, hc⟩ := h vs w' hw hd
    rw [hXA] at htk
    have hlm : (fvals rs).length = m := by simp [fvals, hl]
    have hl1' : (fvals rs1).length = n1 := by simp [fvals, hl1]
    have h8 : cur.toList.length = cur.size := Array.length_toList
    have hone : ∀ u ∈ fvals rs, u.oneCell' = true := fun u hu => by simp only [fvals, List.mem_map] at hu; obtain ⟨r, _, rfl⟩ := hu; rfl
    by_cases hroom : n1 + m ≤ cap
    · have hr := run_append_room (P := Try.prog) w' 22 o.type 83 i0 Try.underlying22 hi g n1 cap cur hgh ad m c (fvals rs) (by rw [hlm, hz1, Nat.mul_one]) hc hone hroom (by rw [hz1, Nat.mul_one, hlm]; omega)
      rw [hz1, Nat.mul_one, hlm] at hr
      have hset := setRow_heap w' g cur (cur.toList.take n1 ++ fvals rs ++ cur.toList.drop (n1 + m)).toArray 83 (0, 0) hgh
      have hsz : (cur.toList.take n1 ++ fvals rs ++ cur.toList.drop (n1 + m)).toArray.size = cur.size := by
        simp only [List.size_toArray, List.length_append, List.length_take, List.length_drop]; omega
      have ht1 : (cur.toList.take n1 ++ fvals rs ++ cur.toList.drop (n1 + m)).toArray.toList.take n1 = fvals rs1 := by
        rw [htk]
        show List.take n1 (fvals rs1 ++ fvals rs ++ _) = _
        rw [List.append_assoc]; exact List.take_left' hl1'
      have ht2 : (cur.toList.take n1 ++ fvals rs ++ cur.toList.drop (n1 + m)).toArray.toList.take n = X := by
        rw [htk, hX]
        exact List.take_left' (by rw [List.length_append, hl1', hlm, hnn])
      generalize (cur.toList.take n1 ++ fvals rs ++ cur.toList.drop (n1 + m)).toArray = CS at hr hset hsz ht1 ht2
      unfold moAt
      simp [execOp, hop, resolve, invoke, builtin, hs, hx, hr, Result.andThen, moUpon]
      refine ⟨⟨g, cap, _, by rw [hnn], hbg, hset, by omega, hcm, hsz.trans hcs, ht2⟩, ⟨rfl, rfl, rfl, by simp [World.setRow], fun k hk => ?_⟩⟩
      by_cases hkg : k = g
      · subst hkg
        exact .inr ⟨hbg, cur, _, hgh, hset, hsz, fun _ => ht1.trans hXA.symm, fun _ => ht2⟩
      · exact .inl (setRow_other w' g k _ hkg)
    · obtain ⟨v', w'', hrun, r1, r2⟩ := run_append_arg_grows (P := Try.prog) w' 22 o.type 83 i0 (.float .f32 0) 1 4 Try.underlying22 hi hz0 hz1 hz2 rfl (by decide) ⟨g, 0, none⟩ n1 cap (fvals rs1) (by rw [hl1', Nat.mul_one]) (fun j u hj => by
        rw [Addr.add_lit, Nat.zero_add, cell_of_row w' g j cur _ (0, 0) hgh]
        rw [← htk, List.getElem?_take] at hj
        split at hj
        · rw [Array.getElem?_toList] at hj; exact hj
        · cases hj) ad m c (fvals rs) (by rw [hlm, Nat.mul_one]) hc (by omega) (by unfold maxLen; omega) (by omega)
      unfold moAt
      simp [execOp, hop, resolve, invoke, builtin, hs, hx, hrun, Result.andThen, moUpon]
      refine ⟨?_, RJ.of (ext_grown r2)⟩
      obtain ⟨hlen, hown⟩ := r1
      rcases hown with ⟨_, h0⟩ | ⟨g', cap', cur', hv, hb, hgb, hn', hm, hcs', htk'⟩
      · exact ⟨g, cap, cur, by omega, by omega, by omega, by omega, by omega, by omega, by omega⟩
      · exact ⟨g', cap', cur', by rw [hv, hnn], Nat.le_trans hw.size hb, hgb, by omega, hm, by rw [hcs', Nat.mul_one], by rw [hnn, hX, ← htk', Nat.mul_one]⟩) hrest
end
end Go.Proofs.Ytfmhdnhaaohdjaa
