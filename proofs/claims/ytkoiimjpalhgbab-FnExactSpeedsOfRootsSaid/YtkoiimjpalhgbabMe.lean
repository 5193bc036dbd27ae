/- Contracts: mean speeds of a ground, on both sides. Condition: the ground is read. -/
import Derived.Test.YtkoiimjpalhgbabDl
import Derived.Deep.RegionLaw
namespace Go.Proofs.Ytkoiimjpalhgbab
open Go.RowKit Ieee

/-- append to a list of the call's own, as a step of a region that draws its order. -/
theorem step_append_own {P : Program} {ops : Array Oper} {o : Oper} {a : Act} {w : World} {K : Act → World → Prop} {Q : Exit → Act → World → Prop} {E : Prop}
    (hg : o.guard = none) (s x : Operand) (t : TypeId) (hop : o.op = Op.call { callee := Callee.builtin Builtin.append, args := #[s, x], argTypes := #[t, t] })
    (e : TypeId) (i : TypeInfo) (z : Value) (size bytes : Nat) (h1 : P.underlying t = some (.slice e)) (h2 : P.info? e = some i) (h3 : i.zero = some z) (h4 : i.size = size) (h5 : i.bytes = bytes) (h6 : z.cells.size = size) (h7 : 0 < size)
    (base : Nat) (v : Value) (n : Nat) (olds : List Value) (hs : a.eval s = v) (hown : w.ownsRow base e size v n olds)
    (ad : Addr) (m c : Nat) (news : List Value) (hx : a.eval x = .slice (some ad) m c) (hn : news.length = m * size) (hc : ∀ j u, news[j]? = some u → w.cell? (ad.add j) = some u) (h1c : ∀ u ∈ news, u.oneCell' = true)
    (b1 : n + m ≤ maxLen) (b2 : (n + m) * bytes ≤ 140737488355328) (hb : base ≤ w.heap.size)
    (hK : ∀ v' w', w'.ownsRow base e size v' (n + m) (olds ++ news) → w.grownBy w' v.ownBlock → K (a.put o.dst v') w') :
    if Region.wanted o (yielded ops a.tmps) = true then Oper.wp P o a w K Q else E := by
  have hw : Region.wanted o (yielded ops a.tmps) = true := by simp [Region.wanted, hg]
  rw [if_pos hw]
  obtain ⟨v', w', hrun, r1, r2, _⟩ := run_append_own (P := P) w base t o.type e i z size bytes h1 h2 h3 h4 h5 h6 h7 v n olds hown ad m c news hn hc h1c b1 b2 hb
  unfold Oper.wp
  simp [execOp, hop, resolve, invoke, builtin, hs, hx, hrun, Result.andThen]
  exact hK v' w' r1 r2
/-- The same for one float in a row that was built for it. -/
theorem step_append_float {P : Program} {ops : Array Oper} {o : Oper} {a : Act} {w : World} {K : Act → World → Prop} {Q : Exit → Act → World → Prop} {E : Prop}
    (hg : o.guard = none) (s x : Operand) (t : TypeId) (hop : o.op = Op.call { callee := Callee.builtin Builtin.append, args := #[s, x], argTypes := #[t, t] })
    (e : TypeId) (i : TypeInfo) (z : Value) (bytes : Nat) (h1 : P.underlying t = some (.slice e)) (h2 : P.info? e = some i) (h3 : i.zero = some z) (h4 : i.size = 1) (h5 : i.bytes = bytes) (h6 : z.cells.size = 1)
    (base : Nat) (v : Value) (n : Nat) (olds : List Value) (hs : a.eval s = v) (W0 : World) (r : Nat) (hw : w = W0.alloc (.cells #[.float .f32 r] e)) (hx : a.eval x = .slice (some ⟨W0.heap.size, 0, none⟩) 1 1)
    (hown : W0.ownsRow base e 1 v n olds) (b1 : n + 1 ≤ maxLen) (b2 : (n + 1) * bytes ≤ 140737488355328) (hb : base ≤ W0.heap.size)
    (hK : ∀ v' w', w'.ownsRow base e 1 v' (n + 1) (olds ++ [.float .f32 r]) → w.grownBy w' v.ownBlock → K (a.put o.dst v') w') :
    if Region.wanted o (yielded ops a.tmps) = true then Oper.wp P o a w K Q else E := by
  subst hw
  refine step_append_own hg s x t hop e i z 1 bytes h1 h2 h3 h4 h5 h6 (by decide) base v n olds hs (hown.alloc _) ⟨W0.heap.size, 0, none⟩ 1 1 [.float .f32 r] hx rfl ?_ (by intro u hu; simp at hu; subst hu; rfl) b1 b2 (by simp; omega) hK
  intro j u hj
  match j, hj with
  | 0, hj =>
    simp at hj
    subst hj
    simp [Addr.add]
/-- A float operation as a rule of the walk: its result and its draws by the world. -/
theorem fop_rule {P : Program} {op : BinOp} (hop : isArith op = true) {x y : Nat} {X Y : Option Nat} (hx : Fl .f32 x X) (hy : Fl .f32 y Y) (t : TypeId) :
    ∃ (R : World → Nat) (N : World → Nat), (∀ w, (binOp op t (.float .f32 x) (.float .f32 y)).run P w = .ok (.float .f32 (R w)) (w.drewN (N w))) ∧ ∀ w, Fl .f32 (R w) (fop op .f32 X Y) := by
  have h := fun w : World => run_fop (P := P) w op hop t .f32 x y
  refine ⟨fun w => (h w).choose, fun w => (h w).choose_spec.choose, fun w => (h w).choose_spec.choose_spec.1, fun w => ?_⟩
  obtain ⟨_, h2, h3⟩ := (h w).choose_spec.choose_spec
  exact ⟨h2.trans (by rw [hx.eq, hy.eq]), h3⟩
def fmean (L : List Ly) (j : Nat) : Option Nat := fop .quo .f32 (fdep L j) (ftim L j)
def okM (L : List Ly) (S D : Option Nat) : Bool := fvalid L S D && ((finL (lst (fdep L) L.length) && finL (lst (ftim L) L.length)) && finL (lst (fmean L) L.length))
theorem row_step {F : Nat → Option Nat} {k r : Nat} {xs : List Value} (hl : xs.length = k) (h : ∀ j, j < k → ∃ r, xs[j]? = some (.float .f32 r) ∧ Fl .f32 r (F j)) (hr : Fl .f32 r (F k)) :
    ∀ j, j < k + 1 → ∃ r', (xs ++ [Value.float .f32 r])[j]? = some (.float .f32 r') ∧ Fl .f32 r' (F j) := by
  intro j hj
  by_cases hjk : j = k
  · subst hjk
    exact ⟨r, by rw [List.getElem?_append_right (by omega), hl]; simp, hr⟩
  · obtain ⟨r', h1, h2⟩ := h j (by omega)
    exact ⟨r', by rw [List.getElem?_append_left (by omega)]; exact h1, h2⟩
theorem fin_step {F : Nat → Option Nat} {k : Nat} (h : ∀ j, j < k → ffin .f32 (F j) = true) (h1 : ffin .f32 (F k) = true) : ∀ j, j < k + 1 → ffin .f32 (F j) = true := by
  intro j hj
  by_cases hjk : j = k
  · subst hjk; exact h1
  · exact h j (by omega)
theorem OwF.more {w : World} {base base' n : Nat} {v : Value} {F : Nat → Option Nat} (h : OwF w base v n F) (hb : base' ≤ base) : OwF w base' v n F := by
  obtain ⟨xs, ho, hr⟩ := h.own
  refine ⟨xs, ⟨ho.1, ?_⟩, hr⟩
  rcases ho.2 with hn | ⟨g, cap, cur, hv, hb', hg, hrest⟩
  · exact .inl hn
  · exact .inr ⟨g, cap, cur, hv, by omega, hg, hrest⟩
theorem okM_no {L : List Ly} {S D : Option Nat} {n k : Nat} (hl : L.length = n) (hk : k < n) (h : ffin .f32 (fdep L k) = false ∨ ffin .f32 (ftim L k) = false) : okM L S D = false := by
  unfold okM
  rw [hl]
  rcases h with h | h
  · rw [finL_not hk h]; simp
  · rw [finL_not hk h]; simp
theorem okM_yes {L : List Ly} {S D : Option Nat} {n : Nat} (hl : L.length = n) (hV : fvalid L S D = true) (h1 : ∀ j, j < n → ffin .f32 (fdep L j) = true) (h2 : ∀ j, j < n → ffin .f32 (ftim L j) = true) : okM L S D = finL (lst (fmean L) n) := by
  unfold okM
  rw [hl, hV, finL_all h1, finL_all h2]; rfl

/-- A row of the call's own, as a list. -/
theorem own_lst {w : World} {g n : Nat} {cs : Array Value} {F : Nat → Option Nat} (hg : w.heap[g]? = some (.cells cs 23 (0, 0))) (hs : cs.size = n) (h : ∀ j, j < n → ∃ r, cs[j]? = some (.float .f32 r) ∧ Fl .f32 r (F j)) :
    OwL w g w.heap.size (some ⟨g, 0, none⟩) n (lst F n) :=
  ⟨lst_len _ _, .inr ⟨g, 0, cs, rfl, Nat.le_refl _, blk_lt hg, hg, by omega, fun j hj => by
    obtain ⟨r, h1, h2⟩ := h j hj
    exact ⟨r, by rw [Nat.zero_add]; exact h1, by rw [lst_at hj]; exact h2⟩⟩⟩

end Go.Proofs.Ytkoiimjpalhgbab
