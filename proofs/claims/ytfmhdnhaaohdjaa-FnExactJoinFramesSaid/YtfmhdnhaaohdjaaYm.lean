/- Contract: the reference copies a gather. Condition: the gather is read, and none of its lists is empty. -/
import Derived.Test.YtfmhdnhaaohdjaaYl
import Derived.Test.YtfmhdnhaaohdjaaMo2
import Derived.Maps.AppendAt
namespace Go.Proofs.Ytfmhdnhaaohdjaa
open Go.RowKit Ieee

theorem typ_ne {w : World} {a b : Nat} {x y : Array Value} {T U : TypeId} (h : w.heap[a]? = some (.cells x T (0, 0))) (h' : w.heap[b]? = some (.cells y U (0, 0))) (hT : T ≠ U) : a ≠ b := fun e => by
  subst e
  rw [h] at h'
  exact hT (Obj.cells.inj (Option.some.inj h')).2.1
/-- Rows stay where only the spine's block turns. -/
theorem RowsIn.other {w w' : World} {base g g' : Nat} {f : Nat → Nat} {cs cs' : Array Value} {k : Nat} {R : List (List (Option Nat))} (h : RowsIn w base g f cs 0 k R) (hg : w.grownBy w' (some g)) (hcs : ∀ j, j < k → cs'[j]? = cs[j]?) (hg' : g' = g ∨ w.heap.size ≤ g') : RowsIn w' base g' f cs' 0 k R :=
  ⟨fun j hj => by
    obtain ⟨A', c', h1, h2, h3, h4, h5, h6⟩ := h.at_ j hj
    refine ⟨A', c', by rw [Nat.zero_add] at h1 ⊢; rw [hcs j hj]; exact h1, h2.same (fun b h7 h8 => by
      have e : b = f j := by omega
      rw [e]; exact hg.block _ h6 (fun e2 => h4 (Option.some.inj e2))), h3, ?_, h5, Nat.lt_of_lt_of_le h6 hg.size⟩
    rcases hg' with rfl | h7
    · exact h4
    · omega, h.inj⟩
theorem take_get {l : List Value} {cs : Array Value} {k n : Nat} {x : List Value} (h : cs.toList.take n = l.take k ++ x) (hk : k ≤ l.length) (hn : k ≤ n) : ∀ j, j < k → cs[j]? = l[j]? := by
  intro j hj
  have h1 : cs[j]? = (cs.toList.take n)[j]? := by rw [List.getElem?_take_of_lt (by omega)]; simp
  rw [h1, h, List.getElem?_append_left (by simp; omega), List.getElem?_take_of_lt hj]
theorem take_get_end {l : List Value} {cs : Array Value} {k : Nat} {v : Value} (h : cs.toList.take (k + 1) = l.take k ++ [v]) (hk : k ≤ l.length) : cs[k]? = some v := by
  have h1 : cs[k]? = (cs.toList.take (k + 1))[k]? := by rw [List.getElem?_take_of_lt (by omega)]; simp
  rw [h1, h, List.getElem?_append_right (by rw [List.length_take]; omega)]
  simp [Nat.min_eq_left hk]
/-- One slice more at a spine that grows. -/
theorem RowsIn.grow {w w' : World} {base base0 g k cap b : Nat} {f : Nat → Nat} {cs : Array Value} {R : List (List (Option Nat))} {v : Value} {A' : Option Addr} {c' : Nat} (h : RowsIn w base g f cs 0 k R) (hk : k ≤ cap) (hcs : cs.size = cap)
    (hown : w'.ownsRow base0 22 1 v (k + 1) (cs.toList.take k ++ [.slice A' (R.getD k []).length c'])) (hg : w.grownBy w' (some g)) (hblk : v.ownBlock = some g ∨ v.ownBlock = some w.heap.size)
    (ho : OwL w b (b + 1) A' (R.getD k []).length (R.getD k [])) (hc : (R.getD k []).length ≤ c') (hb : b ≠ g) (hbb : base ≤ b) (hbs : b < w.heap.size) (hn : ∀ j, j < k → f j ≠ b) :
    ∃ g' cap' cs', v = .slice (some ⟨g', 0, none⟩) (k + 1) cap' ∧ base0 ≤ g' ∧ w'.heap[g']? = some (.cells cs' 22 (0, 0)) ∧ k + 1 ≤ cap' ∧ cap' ≤ maxLen ∧ cs'.size = cap' ∧ RowsIn w' base g' (fun j => if j < k then f j else b) cs' 0 (k + 1) R := by
  obtain ⟨hl, hd⟩ := hown
  rcases hd with ⟨_, h0⟩ | ⟨g', cap', cs', rfl, hb0, hgb, hn', hm', hsz, htk⟩
  · omega
  have hg' : g' = g ∨ w.heap.size ≤ g' := by
    rcases hblk with e | e
    · exact .inl (Option.some.inj e)
    · have := Option.some.inj e; dsimp only at this; exact .inr (by omega)
  rw [Nat.mul_one] at hsz htk
  have hle : k ≤ cs.toList.length := by simp; omega
  have hR := h.other (cs' := cs') hg (fun j hj => by rw [take_get htk hle (by omega) j hj]; simp) hg'
  refine ⟨g', cap', cs', rfl, hb0, hgb, hn', hm', hsz, fun j hj => ?_, fun i j hi hj => ?_⟩
  · by_cases hjk : j < k
    · simp only [hjk, if_true]
      exact hR.at_ j hjk
    · obtain rfl : j = k := by omega
      simp only [Nat.lt_irrefl, if_false]
      refine ⟨A', c', by rw [Nat.zero_add]; exact take_get_end htk hle, ho.same (fun x h7 h8 => by
        have e : x = b := by omega
        rw [e]; exact hg.block _ hbs (fun e2 => hb (Option.some.inj e2))), hc, ?_, hbb, Nat.lt_of_lt_of_le hbs hg.size⟩
      rcases hg' with rfl | h7
      · exact hb
      · omega
  · by_cases hjk : j < k
    · have hik : i < k := by omega
      simp only [hjk, hik, if_true]
      exact h.inj i j hi hjk
    · obtain rfl : j = k := by omega
      simp only [hi, Nat.lt_irrefl, if_true, if_false]
      exact hn i hi
theorem RowOf.owl {w0 w : World} {n : Nat} {rs : List Nat} {v : Value} {L : List (Option Nat)} (h : RowOf w0 83 n (fvals rs) v w) (hl : rs.length = n) (hL : L.length = n) (hr : ∀ j, j < n → Fl .f32 (rs.getD j 0) (L.getD j none)) :
    ∃ g cap cs, v = .slice (some ⟨g, 0, none⟩) n cap ∧ w0.heap.size ≤ g ∧ g < w.heap.size ∧ n ≤ cap ∧ w.heap[g]? = some (.cells cs 83 (0, 0)) ∧ n ≤ cs.size ∧ RowF cs n (fun j => L.getD j none) ∧ OwL w g (g + 1) (some ⟨g, 0, none⟩) n L := by
  obtain ⟨g, cap, cur, hv, hg, hb, hn, hm, hs, htk⟩ := h
  have hrow : RowF cur n (fun j => L.getD j none) := fun j hj => by
    have e1 : cur[j]? = (cur.toList.take n)[j]? := by rw [List.getElem?_take_of_lt hj]; simp
    exact ⟨rs.getD j 0, by rw [e1, htk, fvals_at (by omega)], hr j hj⟩
  exact ⟨g, cap, cur, hv, hg, blk_lt hb, hn, hb, by omega, hrow, hL, .inr ⟨g, 0, cur, rfl, Nat.le_refl _, Nat.lt_succ_self _, hb, by omega, fun j hj => by
    obtain ⟨r, h1, h2⟩ := hrow j hj
    exact ⟨r, by rw [Nat.zero_add]; exact h1, h2⟩⟩⟩
end Go.Proofs.Ytfmhdnhaaohdjaa
