/- Contract: gathers of shifted traces, the reference. Condition: the gather and the list are read. -/
import Derived.Test.YtkbkjkjjoogieaaZi
import Derived.Test.YtkbkjkjjoogieaaTd
import Derived.Deep.QuietTactic
import Derived.BigQuiet
namespace Go.Proofs.Ytkbkjkjjoogieaa
open Go.RowKit Ieee

/-- The slice of address A and length n holds the ints X. -/
def RdI (w : World) (B : Nat) (A : Option Addr) (n : Nat) (X : List Int) : Prop :=
  X.length = n ∧ ∀ k, k < n → ∃ b off, A = some ⟨b, off, none⟩ ∧ b < B ∧ w.cell? ⟨b, off + k, none⟩ = some (.int .i64 (X.getD k 0))
theorem RdI.below {w w' : World} {B n : Nat} {A : Option Addr} {X : List Int} (h : RdI w B A n X) (hw : Below B w w') : RdI w' B A n X :=
  ⟨h.1, fun k hk => by
    obtain ⟨b, off, hA, hb, hc⟩ := h.2 k hk
    exact ⟨b, off, hA, hb, (hw.cell (p := ⟨b, off + k, none⟩) hb).trans hc⟩⟩
/-- A trace of a gather, of which the numbers of the traces before i, and the first k of the trace i, have become those of F. -/
def gst (F : Nat → Nat → Option Nat) (G : Gat) (i k j : Nat) : List (Option Nat) := lst (fun t => if decide (j < i) || (decide (j = i) && decide (t < k)) then F j t else (G.r.getD j []).getD t none) (G.r.getD j []).length
def gstS (F : Nat → Nat → Option Nat) (G : Gat) (i k : Nat) : List (List (Option Nat)) := lstS (gst F G i k) G.r.length
def genG (F : Nat → Nat → Option Nat) (G : Gat) : Gat := ⟨G.t, G.p, gstS F G G.r.length 0⟩
section
variable {F : Nat → Nat → Option Nat} {G : Gat} {i k : Nat}
theorem gst_len (j : Nat) : (gst F G i k j).length = (G.r.getD j []).length := lst_len _ _
theorem gstS_len : (gstS F G i k).length = G.r.length := lstS_len _ _
theorem gstS_at {j : Nat} (hj : j < G.r.length) : (gstS F G i k).getD j [] = gst F G i k j := lstS_at hj
theorem gstS_row {j : Nat} (hj : j < G.r.length) : ((gstS F G i k).getD j []).length = (G.r.getD j []).length := by rw [gstS_at hj, gst_len]
theorem gst_at {j t : Nat} (ht : t < (G.r.getD j []).length) : (gst F G i k j).getD t none = if decide (j < i) || (decide (j = i) && decide (t < k)) then F j t else (G.r.getD j []).getD t none := lst_at ht
theorem gst_start : gstS F G 0 0 = G.r := by
  refine ext_getD (d := []) gstS_len fun j hj => ?_
  rw [gstS_len] at hj
  rw [gstS_at hj]
  refine ext_getD (d := none) (gst_len _) fun t ht => ?_
  rw [gst_len] at ht
  rw [gst_at ht, if_neg (by simp)]
theorem gst_next (hk : k = (G.r.getD i []).length) : gstS F G i k = gstS F G (i + 1) 0 := by
  refine ext_getD (d := []) (by rw [gstS_len, gstS_len]) fun j hj => ?_
  rw [gstS_len] at hj
  rw [gstS_at hj, gstS_at hj]
  refine ext_getD (d := none) (by rw [gst_len, gst_len]) fun t ht => ?_
  rw [gst_len] at ht
  rw [gst_at ht, gst_at ht]
  refine congrArg (fun b : Bool => if b then F j t else (G.r.getD j []).getD t none) ?_
  rw [Bool.eq_iff_iff]
  simp only [Bool.or_eq_true, Bool.and_eq_true, decide_eq_true_eq]
  by_cases hji : j = i
  · subst hji; omega
  · omega
theorem gst_put (hi : i < G.r.length) (hk : k < (G.r.getD i []).length) : (gstS F G i k).set i (((gstS F G i k).getD i []).set k (F i k)) = gstS F G i (k + 1) := by
  refine ext_getD (d := []) (by rw [List.length_set, gstS_len, gstS_len]) fun j hj => ?_
  rw [List.length_set, gstS_len] at hj
  by_cases hji : j = i
  · subst hji
    rw [getD_set_at (by rw [gstS_len]; exact hj), gstS_at hj, gstS_at hj]
    refine ext_getD (d := none) (by rw [List.length_set, gst_len, gst_len]) fun t ht => ?_
    rw [List.length_set, gst_len] at ht
    by_cases htk : t = k
    · subst htk
      rw [getD_set_at (by rw [gst_len]; exact ht), gst_at ht, if_pos (by simp)]
    · rw [getD_set_no htk, gst_at ht, gst_at ht]
      refine congrArg (fun b : Bool => if b then F j t else (G.r.getD j []).getD t none) ?_
      rw [Bool.eq_iff_iff]
      simp only [Bool.or_eq_true, Bool.and_eq_true, decide_eq_true_eq, true_and]
      omega
  · rw [getD_set_no hji, gstS_at hj, gstS_at hj]
    refine ext_getD (d := none) (by rw [gst_len, gst_len]) fun t ht => ?_
    rw [gst_len] at ht
    rw [gst_at ht, gst_at ht]
    refine congrArg (fun b : Bool => if b then F j t else (G.r.getD j []).getD t none) ?_
    rw [Bool.eq_iff_iff]
    simp only [Bool.or_eq_true, Bool.and_eq_true, decide_eq_true_eq]
    omega
theorem gsz_gen : gsz (genG F G) = gsz G := by
  unfold gsz genG
  dsimp only
  rw [gstS_len, tot_lens (gstS F G G.r.length 0) G.r gstS_len (fun j hj => by rw [gstS_len] at hj; exact gstS_row hj)]
end
def inR (x : Int) : Bool := inB x (-64) 64
def allR (X : List Int) : Bool := X.all inR
def okSh (G : Gat) (n : Nat) (X : List Int) : Bool := fvG G && (decide (n = G.r.length) && allR X)
def shF (G : Gat) (X : List Int) (j t : Nat) : Option Nat := fshift (G.r.getD j []) (-(X.getD j 0)) t
theorem allR_no {X : List Int} {k : Nat} (h : k < X.length) (hf : inR (X.getD k 0) = false) : allR X = false := by
  rw [Bool.eq_false_iff]
  intro ha
  unfold allR at ha
  rw [List.all_eq_true] at ha
  have := ha (X.getD k 0) (by simp [List.getD, h])
  rw [hf] at this; cases this
theorem allR_yes {X : List Int} (h : ∀ k, k < X.length → inR (X.getD k 0) = true) : allR X = true := by
  unfold allR
  rw [List.all_eq_true]
  intro x hx
  obtain ⟨j, hj, rfl⟩ := List.getElem_of_mem hx
  have := h j hj
  simpa [List.getD, hj] using this
end Go.Proofs.Ytkbkjkjjoogieaa
