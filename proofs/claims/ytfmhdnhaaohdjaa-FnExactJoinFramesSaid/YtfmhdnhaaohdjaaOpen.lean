/- Slices of floats among a law's arguments, opened: they are read as floats (RdF). No condition. -/
import Derived.Test.YtfmhdnhaaohdjaaLaw
import Derived.Test.YtfmhdnhaaohdjaaSl
import Derived.Deep.Slices
namespace Go.Proofs.Ytfmhdnhaaohdjaa
open Go.RowKit Go.ChangeShapes Go.WideShapes

theorem cells_f32 : Try.prog.cellsOf 83 = 1 := by kernel_rfl

section
variable {H : Type} {enc : TypeId × Value → H} {P : Program} {w : World}

theorem trod_float_cell {base : Nat} {spare : Nat → Bool} {held : Bool} {fuel : Nat} {e : TypeId} {k : FloatKind} {v : Value} {x : DataW H × List MemPlace} (he : P.underlying e = some (.float k))
    (h : DataW.trod enc P w base spare held fuel e [v] = some x) : ∃ b, v = .float k b ∧ (Lit.float k b).wf = true := by
  cases fuel with
  | zero => simp [DataW.trod] at h
  | succ n =>
    simp only [DataW.trod, he] at h
    cases v <;> simp at h
    case float k' b =>
      obtain ⟨⟨rfl, hw⟩, _⟩ := h
      exact ⟨b, rfl, hw⟩

theorem open_floats {b0 : Nat} {r : Reach} {t e : TypeId} {v : Value} {d : DataW H} {ps : List MemPlace} (ht : P.underlying t = some (.slice e)) (he : P.underlying e = some (.float .f32)) (hc : P.cellsOf e = 1)
    (hval : Value.okWide P w r b0 t v) (hd : DataW.Trod enc P w 0 (fun _ => true) true t v d ps) (hlt : ∀ x ∈ ps, x.block < w.heap.size) :
    ∃ A n c L, v = .slice A n c ∧ n ≤ maxLen ∧ RdF w w.heap.size A n L := by
  obtain ⟨a0, len0, cap0, rfl⟩ := okWide_slice ht hval
  obtain ⟨fuel, hf⟩ := hd
  rcases Go.Deep.open_slice1 ht hc hf with ⟨hcs, _⟩ | ⟨a, len, cap, m, n, V, D, Pl, hcs, _, hl, hm, hmm, hx, hcell⟩
  · simp [Value.cells] at hcs
    obtain ⟨rfl, rfl, rfl⟩ := hcs
    exact ⟨none, 0, 0, [], rfl, Nat.zero_le _, rfl, fun k hk => absurd hk (Nat.not_lt_zero _)⟩
  · simp [Value.cells] at hcs
    obtain ⟨rfl, rfl, rfl⟩ := hcs
    simp only [if_true] at hmm
    have hfl : ∀ i, i < len0 → ∃ b, V i = .float .f32 b ∧ (Lit.float .f32 b).wf = true := fun i hi => trod_float_cell he (hcell i (by omega)).2
    refine ⟨some a, len0, cap0, (List.range len0).map fun i => match V i with | .float .f32 b => fl .f32 b | _ => none, rfl, Nat.le_trans hl hm, by simp, fun k hk => ?_⟩
    obtain ⟨b, off, spot⟩ := a
    have hspot : spot = none := by simpa [Addr.add] using World.cell?_spot (hcell 0 (by omega)).1
    subst hspot
    have hblk : b < w.heap.size := by
      have : MemPlace.cell b (off + k) ∈ ps := by
        have hx2 := congrArg Prod.snd hx
        simp only at hx2
        rw [hx2]
        exact List.mem_append_left _ (MemPlace.mem_row.2 ⟨k, by omega, rfl⟩)
      exact hlt _ this
    refine ⟨b, off, rfl, hblk, fun j hj => ?_⟩
    obtain ⟨q, h1, h2⟩ := hfl j hj
    have h3 := (hcell j (by omega)).1
    rw [add_plain, h1] at h3
    refine ⟨q, h3, ?_⟩
    have : ((List.range len0).map fun i => match V i with | .float .f32 b => fl .f32 b | _ => none).getD j none = fl .f32 q := by
      simp [List.getD, hj, h1]
    rw [this]
    exact Fl.of32 (wf32 h2)
end
end Go.Proofs.Ytfmhdnhaaohdjaa
