/- A law's argument that is a gather, opened: it is read. No condition. -/
import Derived.Test.YtfmhdnhaaohdjaaYa
namespace Go.Proofs.Ytfmhdnhaaohdjaa
open Go.RowKit Go.ChangeShapes Go.WideShapes Go.Deep Ieee

section
variable {H : Type} {enc : TypeId × Value → H} {P : Program} {w : World}

theorem open_list {fuel : Nat} {t e : TypeId} {v : Value} {x : DataW H × List MemPlace} (ht : P.underlying t = some (.slice e)) (he : P.underlying e = some (.float .f32)) (hc : P.cellsOf e = 1)
    (hf : DataW.trod enc P w 0 (fun _ => true) true fuel t [v] = some x) (hlt : ∀ q ∈ x.2, q.block < w.heap.size) :
    ∃ A n c L, v = .slice A n c ∧ n ≤ maxLen ∧ n ≤ c ∧ RdF w w.heap.size A n L := by
  rcases Go.Deep.open_slice1 ht hc hf with ⟨hcs, _⟩ | ⟨a, len, cap, m, n, V, D, Pl, hcs, _, hl, hm, hmm, hx, hcell⟩
  · simp only [List.cons.injEq, and_true] at hcs
    subst hcs
    exact ⟨none, 0, 0, [], rfl, Nat.zero_le _, Nat.le_refl _, rfl, fun k hk => absurd hk (Nat.not_lt_zero _)⟩
  · simp only [List.cons.injEq, and_true] at hcs
    subst hcs
    simp only [if_true] at hmm
    have hfl : ∀ i, i < len → ∃ b, V i = .float .f32 b ∧ (Lit.float .f32 b).wf = true := fun i hi => trod_float_cell he (hcell i (by omega)).2
    refine ⟨some a, len, cap, (List.range len).map fun i => match V i with | .float .f32 b => fl .f32 b | _ => none, rfl, Nat.le_trans hl hm, hl, by simp, fun k hk => ?_⟩
    obtain ⟨b, off, spot⟩ := a
    have hspot : spot = none := by simpa [Addr.add] using World.cell?_spot (hcell 0 (by omega)).1
    subst hspot
    have hblk : b < w.heap.size := by
      have : MemPlace.cell b (off + k) ∈ x.2 := by
        rw [hx]
        exact List.mem_append_left _ (MemPlace.mem_row.2 ⟨k, by omega, rfl⟩)
      exact hlt _ this
    refine ⟨b, off, rfl, hblk, fun j hj => ?_⟩
    obtain ⟨q, h1, h2⟩ := hfl j hj
    have h3 := (hcell j (by omega)).1
    rw [add_plain, h1] at h3
    refine ⟨q, h3, ?_⟩
    have : ((List.range len).map fun i => match V i with | .float .f32 b => fl .f32 b | _ => none).getD j none = fl .f32 q := by
      simp [List.getD, hj, h1]
    rw [this]
    exact Fl.of32 (wf32 h2)
theorem RdF.of_len {w : World} {B n : Nat} {A : Option Addr} {L : List (Option Nat)} (h : RdF w B A n L) : RdF w B A L.length L := by rw [h.len]; exact h
theorem open_lists {fuel : Nat} {t s e : TypeId} {v : Value} {x : DataW H × List MemPlace} (ht : P.underlying t = some (.slice s)) (hs : P.underlying s = some (.slice e)) (he : P.underlying e = some (.float .f32)) (hcs : P.cellsOf s = 1) (hc : P.cellsOf e = 1)
    (hf : DataW.trod enc P w 0 (fun _ => true) true fuel t [v] = some x) (hlt : ∀ q ∈ x.2, q.block < w.heap.size) :
    ∃ A n c R, v = .slice A n c ∧ n ≤ maxLen ∧ n ≤ c ∧ RdS w w.heap.size A n R ∧ ∀ j, j < n → (R.getD j []).length ≤ maxLen := by
  rcases Go.Deep.open_slice1 ht hcs hf with ⟨hv, _⟩ | ⟨a, len, cap, m, n, V, D, Pl, hv, _, hl, hm, hmm, hx, hcell⟩
  · simp only [List.cons.injEq, and_true] at hv
    subst hv
    exact ⟨none, 0, 0, [], rfl, Nat.zero_le _, Nat.le_refl _, ⟨rfl, fun k hk => absurd hk (Nat.not_lt_zero _)⟩, fun k hk => absurd hk (Nat.not_lt_zero _)⟩
  · simp only [List.cons.injEq, and_true] at hv
    subst hv
    simp only [if_true] at hmm
    have each : ∀ i, i < len → ∃ q : Option Addr × Nat × List (Option Nat), V i = .slice q.1 q.2.2.length q.2.1 ∧ q.2.2.length ≤ maxLen ∧ q.2.2.length ≤ q.2.1 ∧ RdF w w.heap.size q.1 q.2.2.length q.2.2 := by
      intro i hil
      obtain ⟨A, k, c, L, h1, h2, h3, h4⟩ := open_list hs he hc (hcell i (by omega)).2 (fun q hq => hlt q (by
        rw [hx]
        exact List.mem_append_right _ (List.mem_flatMap.2 ⟨i, List.mem_range.2 (by omega), hq⟩)))
      obtain rfl := h4.len
      exact ⟨(A, c, L), h1, h2, h3, h4⟩
    obtain ⟨q, hq⟩ := Go.Deep.choose_lt each
    have hat : ∀ j, j < len → ((List.range len).map fun i => (q i).2.2).getD j [] = (q j).2.2 := fun j hj => by simp [List.getD, hj]
    refine ⟨some a, len, cap, (List.range len).map fun i => (q i).2.2, rfl, Nat.le_trans hl hm, hl, ⟨by simp, fun k hk => ?_⟩, fun j hj => by rw [hat j hj]; exact (hq j hj).2.1⟩
    obtain ⟨b, off, spot⟩ := a
    have hspot : spot = none := by simpa [Addr.add] using World.cell?_spot (hcell 0 (by omega)).1
    subst hspot
    have hblk : b < w.heap.size := by
      have : MemPlace.cell b (off + k) ∈ x.2 := by
        rw [hx]
        exact List.mem_append_left _ (MemPlace.mem_row.2 ⟨k, by omega, rfl⟩)
      exact hlt _ this
    refine ⟨b, off, rfl, hblk, fun j hj => ?_⟩
    obtain ⟨h1, h2, h3, h4⟩ := hq j hj
    have h5 := (hcell j (by omega)).1
    rw [add_plain, h1] at h5
    rw [hat j hj]
    exact ⟨_, _, h5, h4, h3⟩
end
theorem trod_int_cell {H : Type} {enc : TypeId × Value → H} {P : Program} {w : World} {base : Nat} {spare : Nat → Bool} {held : Bool} {fuel : Nat} {e : TypeId} {k : IntKind} {v : Value} {x : DataW H × List MemPlace} (he : P.underlying e = some (.int k))
    (h : DataW.trod enc P w base spare held fuel e [v] = some x) : ∃ b, v = .int k b ∧ (Lit.int k b).wf = true := by
  cases fuel with
  | zero => simp [DataW.trod] at h
  | succ n =>
    simp only [DataW.trod, he] at h
    cases v <;> simp at h
    case int k' b =>
      obtain ⟨⟨rfl, hw⟩, _⟩ := h
      exact ⟨b, rfl, hw⟩
end Go.Proofs.Ytfmhdnhaaohdjaa
