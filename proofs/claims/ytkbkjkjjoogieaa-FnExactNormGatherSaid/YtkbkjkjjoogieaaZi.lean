/- Gathers some numbers of which have become +0. Condition: none. -/
import Derived.Test.YtkbkjkjjoogieaaZe
namespace Go.Proofs.Ytkbkjkjjoogieaa
open Go.RowKit Ieee

theorem ext_getD {α : Type} {L M : List α} {d : α} (hl : L.length = M.length) (h : ∀ j, j < L.length → L.getD j d = M.getD j d) : L = M := by
  apply List.ext_getElem hl
  intro j h1 h2
  have h3 := h j h1
  have h4 : ∀ (X : List α) (hx : j < X.length), X.getD j d = X[j] := fun X hx => by simp [List.getD, hx]
  rw [h4 L h1, h4 M h2] at h3
  exact h3
/-- A trace of a gather, of which the numbers of the traces before i, and the first k of the trace i, are done. -/
def mst (q : Nat → Nat → Bool) (G : Gat) (i k j : Nat) : List (Option Nat) := lst (fun t => if (decide (j < i) || (decide (j = i) && decide (t < k))) && q j t then fz else (G.r.getD j []).getD t none) (G.r.getD j []).length
def mstS (q : Nat → Nat → Bool) (G : Gat) (i k : Nat) : List (List (Option Nat)) := lstS (mst q G i k) G.r.length
def mutG (q : Nat → Nat → Bool) (G : Gat) : Gat := ⟨G.t, G.p, mstS q G G.r.length 0⟩
section
variable {q : Nat → Nat → Bool} {G : Gat} {i k : Nat}
theorem mst_len (j : Nat) : (mst q G i k j).length = (G.r.getD j []).length := lst_len _ _
theorem mstS_len : (mstS q G i k).length = G.r.length := lstS_len _ _
theorem mstS_at {j : Nat} (hj : j < G.r.length) : (mstS q G i k).getD j [] = mst q G i k j := lstS_at hj
theorem mstS_row {j : Nat} (hj : j < G.r.length) : ((mstS q G i k).getD j []).length = (G.r.getD j []).length := by rw [mstS_at hj, mst_len]
theorem mst_at {j t : Nat} (ht : t < (G.r.getD j []).length) : (mst q G i k j).getD t none = if (decide (j < i) || (decide (j = i) && decide (t < k))) && q j t then fz else (G.r.getD j []).getD t none := lst_at ht
theorem mst_eq {i' k' : Nat} (h : ∀ j t, j < G.r.length → t < (G.r.getD j []).length → ((decide (j < i) || (decide (j = i) && decide (t < k))) && q j t) = ((decide (j < i') || (decide (j = i') && decide (t < k'))) && q j t)) : mstS q G i k = mstS q G i' k' := by
  refine ext_getD (d := []) (by rw [mstS_len, mstS_len]) fun j hj => ?_
  rw [mstS_len] at hj
  rw [mstS_at hj, mstS_at hj]
  refine ext_getD (d := none) (by rw [mst_len, mst_len]) fun t ht => ?_
  rw [mst_len] at ht
  rw [mst_at ht, mst_at ht, h j t hj ht]
theorem mst_start : mstS q G 0 0 = G.r := by
  refine ext_getD (d := []) mstS_len fun j hj => ?_
  rw [mstS_len] at hj
  rw [mstS_at hj]
  refine ext_getD (d := none) (mst_len _) fun t ht => ?_
  rw [mst_len] at ht
  rw [mst_at ht, if_neg (by simp)]
theorem mst_next (hk : k = (G.r.getD i []).length) : mstS q G i k = mstS q G (i + 1) 0 := by
  refine mst_eq fun j t _ ht => congrArg (· && q j t) ?_
  rw [Bool.eq_iff_iff]
  simp only [Bool.or_eq_true, Bool.and_eq_true, decide_eq_true_eq]
  by_cases hji : j = i
  · subst hji; omega
  · omega
theorem mst_skip (h : q i k = false) : mstS q G i (k + 1) = mstS q G i k := by
  refine mst_eq fun j t _ ht => ?_
  by_cases hjt : j = i ∧ t = k
  · obtain ⟨rfl, rfl⟩ := hjt
    rw [h, Bool.and_false, Bool.and_false]
  · refine congrArg (· && q j t) ?_
    rw [Bool.eq_iff_iff]
    simp only [Bool.or_eq_true, Bool.and_eq_true, decide_eq_true_eq]
    omega
theorem mst_put (hi : i < G.r.length) (hk : k < (G.r.getD i []).length) (h : q i k = true) : (mstS q G i k).set i (((mstS q G i k).getD i []).set k fz) = mstS q G i (k + 1) := by
  refine ext_getD (d := []) (by rw [List.length_set, mstS_len, mstS_len]) fun j hj => ?_
  rw [List.length_set, mstS_len] at hj
  by_cases hji : j = i
  · subst hji
    rw [getD_set_at (by rw [mstS_len]; exact hj), mstS_at hj, mstS_at hj]
    refine ext_getD (d := none) (by rw [List.length_set, mst_len, mst_len]) fun t ht => ?_
    rw [List.length_set, mst_len] at ht
    by_cases htk : t = k
    · subst htk
      rw [getD_set_at (by rw [mst_len]; exact ht), mst_at ht, h, if_pos (by simp)]
    · rw [getD_set_no htk, mst_at ht, mst_at ht]
      refine congrArg (fun b : Bool => if b then fz else (G.r.getD j []).getD t none) (congrArg (· && q j t) ?_)
      rw [Bool.eq_iff_iff]
      simp only [Bool.or_eq_true, Bool.and_eq_true, decide_eq_true_eq, true_and]
      omega
  · rw [getD_set_no hji, mstS_at hj, mstS_at hj]
    refine ext_getD (d := none) (by rw [mst_len, mst_len]) fun t ht => ?_
    rw [mst_len] at ht
    rw [mst_at ht, mst_at ht]
    refine congrArg (fun b : Bool => if b then fz else (G.r.getD j []).getD t none) (congrArg (· && q j t) ?_)
    rw [Bool.eq_iff_iff]
    simp only [Bool.or_eq_true, Bool.and_eq_true, decide_eq_true_eq]
    omega
theorem gsz_mut : gsz (mutG q G) = gsz G := by
  unfold gsz mutG
  dsimp only
  rw [mstS_len, tot_lens (mstS q G G.r.length 0) G.r mstS_len (fun j hj => by rw [mstS_len] at hj; exact mstS_row hj)]
end
end Go.Proofs.Ytkbkjkjjoogieaa
