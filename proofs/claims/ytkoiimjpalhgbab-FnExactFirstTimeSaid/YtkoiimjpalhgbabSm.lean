/- Contracts: sums down to boundaries, as lists of their own, on both sides. Condition: the ground is read. -/
import Derived.Test.YtkoiimjpalhgbabRy2
import Derived.OwnWalk
import Derived.Deep.RegionWith
namespace Go.Proofs.Ytkoiimjpalhgbab
open Go.RowKit Ieee

/-- The sum of what the first layers have. -/
def sums (q : Ly → Option Nat) (L : List Ly) : Nat → Option Nat
  | 0 => fz
  | j + 1 => fop .add .f32 (sums q L j) (q (L.getD j default))
/-- A list of floats of the call's own, from block base on. -/
structure OwF (w : World) (base : Nat) (v : Value) (n : Nat) (F : Nat → Option Nat) : Prop where
  own : ∃ xs, w.ownsRow base 23 1 v n xs ∧ ∀ j, j < n → ∃ r, xs[j]? = some (.float .f32 r) ∧ Fl .f32 r (F j)
theorem OwF.rd {w : World} {base n : Nat} {v : Value} {F : Nat → Option Nat} (h : OwF w base v n F) :
    ∃ A c, v = .slice A n c ∧ ∀ j, j < n → ∃ g r, A = some ⟨g, 0, none⟩ ∧ base ≤ g ∧ g < w.heap.size ∧ w.cell? ⟨g, j, none⟩ = some (.float .f32 r) ∧ Fl .f32 r (F j) := by
  obtain ⟨xs, ho, hx⟩ := h.own
  have ho' := ho
  obtain ⟨_, hd⟩ := ho
  rcases hd with ⟨hv, hn⟩ | ⟨g, cap, cur, hv, hb, hg, _, _, _, _⟩
  · exact ⟨none, 0, by rw [hv, hn], fun j hj => by omega⟩
  · refine ⟨some ⟨g, 0, none⟩, cap, hv, fun j hj => ?_⟩
    obtain ⟨r, h1, h2⟩ := hx j hj
    rw [hv] at ho'
    exact ⟨g, r, rfl, hb, blk_lt hg, by rw [ho'.cellAt j (by omega)]; exact h1, h2⟩
theorem OwF.ext {w w' : World} {base n : Nat} {v : Value} {F : Nat → Option Nat} (h : OwF w base v n F) (hx : Ext w w') : OwF w' base v n F := by
  obtain ⟨xs, ho, hr⟩ := h.own
  refine ⟨xs, ⟨ho.1, ?_⟩, hr⟩
  rcases ho.2 with hn | ⟨g, cap, cur, hv, hb, hg, hrest⟩
  · exact .inl hn
  · exact .inr ⟨g, cap, cur, hv, hb, hx.blk hg, hrest⟩
theorem cell1' {w : World} {g : Nat} {v0 : Value} {t : TypeId} (hg : w.heap[g]? = some (.cells #[v0] t (0, 0))) : w.cell? ⟨g, 0, none⟩ = some v0 := by
  rw [cell_of_row w g _ _ _ (0, 0) hg]; rfl
theorem sums_step {q : Ly → Option Nat} {L : List Ly} {k r : Nat} {xs : List Value} (hl : xs.length = k) (h : ∀ j, j < k → ∃ r, xs[j]? = some (.float .f32 r) ∧ Fl .f32 r (sums q L (j + 1))) (hr : Fl .f32 r (sums q L (k + 1))) :
    ∀ j, j < k + 1 → ∃ r', (xs ++ [Value.float .f32 r])[j]? = some (.float .f32 r') ∧ Fl .f32 r' (sums q L (j + 1)) := by
  intro j hj
  by_cases hjk : j = k
  · subst hjk
    exact ⟨r, by rw [List.getElem?_append_right (by omega), hl]; simp, hr⟩
  · obtain ⟨r', h1, h2⟩ := h j (by omega)
    exact ⟨r', by rw [List.getElem?_append_left (by omega)]; exact h1, h2⟩
theorem one_new {w : World} {r : Nat} : ∀ j u, [Value.float .f32 r][j]? = some u → (w.alloc (.cells #[.float .f32 r] 23)).cell? ((⟨w.heap.size, 0, none⟩ : Addr).add j) = some u := by
  intro j u hj
  match j, hj with
  | 0, hj =>
    simp at hj
    subst hj
    simp [Addr.add]
theorem grown_ext {w w1 w' : World} {v : Value} {n : Nat} {e : TypeId} {xs : List Value} (hx : Ext w w1) (hown : w1.ownsRow w.heap.size e 1 v n xs) (hg : w1.grownBy w' v.ownBlock) : Ext w w' :=
  Below.grown hx hg hx.size (fun k hk => (hown.lt k hk).1)
theorem info_f32 : (Try.prog.info? 23).map (fun i => (i.zero, i.size, i.bytes)) = some (some (.float .f32 0), 1, 4) := by kernel_rfl

/-- The time through a layer, and its square's share. -/
def fthru (y : Ly) : Option Nat := fop .quo .f32 y.t y.s
def fsqthru (y : Ly) : Option Nat := fop .mul .f32 (fop .mul .f32 y.s y.s) (fthru y)
theorem pre_setF {cs : Array Value} {k q : Nat} {F : Nat → Option Nat} (hk : k < cs.size) (hp : ∀ j, j < k → ∃ r, cs[j]? = some (.float .f32 r) ∧ Fl .f32 r (F j)) (hq : Fl .f32 q (F k)) :
    ∀ j, j < k + 1 → ∃ r, (cs.setIfInBounds k (.float .f32 q))[j]? = some (.float .f32 r) ∧ Fl .f32 r (F j) := by
  intro j hj
  by_cases h : j = k
  · subst h
    exact ⟨q, by simp [hk], hq⟩
  · obtain ⟨r, h1, h2⟩ := hp j (by omega)
    exact ⟨r, by rw [Array.getElem?_setIfInBounds, if_neg (fun e => h e.symm)]; exact h1, h2⟩
theorem own_cell {w : World} {g n k : Nat} {cs : Array Value} {t : TypeId} (hg : w.heap[g]? = some (.cells cs t (0, 0))) (hsz : cs.size = n) (hk : k < n) :
    ∃ u, w.cell? ⟨g, k, none⟩ = some u ∧ w.frozen? ⟨g, k, none⟩ = false :=
  ⟨cs[k]'(by omega), by rw [cell_of_row w g _ cs _ (0, 0) hg]; exact Array.getElem?_eq_getElem (by omega), by simp [World.frozen?, hg]⟩
end Go.Proofs.Ytkoiimjpalhgbab
