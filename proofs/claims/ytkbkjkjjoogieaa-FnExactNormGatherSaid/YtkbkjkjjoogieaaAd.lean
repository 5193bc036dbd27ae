/- Contracts: an event is added to a gather, on both sides. Condition: the gather is read. -/
import Derived.Test.YtkbkjkjjoogieaaZo
import Derived.Test.YtkbkjkjjoogieaaZm
import Derived.Test.YtkbkjkjjoogieaaNq
import Derived.Test.YtkbkjkjjoogieaaZe
namespace Go.Proofs.Ytkbkjkjjoogieaa
open Go.RowKit Ieee

section
variable {F : Nat → Nat → Option Nat} {G : Gat} {i : Nat}
theorem gst_same (h : ∀ t, t < (G.r.getD i []).length → F i t = (G.r.getD i []).getD t none) : gstS F G i 0 = gstS F G (i + 1) 0 := by
  refine ext_getD (d := []) (by rw [gstS_len, gstS_len]) fun j hj => ?_
  rw [gstS_len] at hj
  rw [gstS_at hj, gstS_at hj]
  refine ext_getD (d := none) (by rw [gst_len, gst_len]) fun t ht => ?_
  rw [gst_len] at ht
  rw [gst_at ht, gst_at ht]
  by_cases hji : j = i
  · subst hji
    rw [if_neg (by simp), if_pos (by simp), h t ht]
  · refine congrArg (fun b : Bool => if b then F j t else (G.r.getD j []).getD t none) ?_
    rw [Bool.eq_iff_iff]
    simp only [Bool.or_eq_true, Bool.and_eq_true, decide_eq_true_eq]
    omega
theorem gst_zero (hi : i < G.r.length) {K : Nat} (hK : K < (G.r.getD i []).length) : ((gstS F G i 0).getD i []).getD K none = (G.r.getD i []).getD K none := by
  rw [gstS_at hi, gst_at hK, if_neg (by simp)]
theorem gst_one (hi : i < G.r.length) {K : Nat} (hK : K < (G.r.getD i []).length) (h : ∀ t, t < (G.r.getD i []).length → t ≠ K → F i t = (G.r.getD i []).getD t none) :
    (gstS F G i 0).set i (((gstS F G i 0).getD i []).set K (F i K)) = gstS F G (i + 1) 0 := by
  refine ext_getD (d := []) (by rw [List.length_set, gstS_len, gstS_len]) fun j hj => ?_
  rw [List.length_set, gstS_len] at hj
  by_cases hji : j = i
  · subst hji
    rw [getD_set_at (by rw [gstS_len]; exact hj), gstS_at hj, gstS_at hj]
    refine ext_getD (d := none) (by rw [List.length_set, gst_len, gst_len]) fun t ht => ?_
    rw [List.length_set, gst_len] at ht
    rw [gst_at ht, if_pos (by simp)]
    by_cases htk : t = K
    · subst htk
      rw [getD_set_at (by rw [gst_len]; exact ht)]
    · rw [getD_set_no htk, gst_at ht, if_neg (by simp), h t ht htk]
  · rw [getD_set_no hji, gstS_at hj, gstS_at hj]
    refine ext_getD (d := none) (by rw [gst_len, gst_len]) fun t ht => ?_
    rw [gst_len] at ht
    rw [gst_at ht, gst_at ht]
    refine congrArg (fun b : Bool => if b then F j t else (G.r.getD j []).getD t none) ?_
    rw [Bool.eq_iff_iff]
    simp only [Bool.or_eq_true, Bool.and_eq_true, decide_eq_true_eq]
    omega
end
/-- When an event comes, and half a tick. -/
def evT (G : Gat) (S V : Option Nat) (j : Nat) : Option Nat := fop .add .f32 (fcurve S (G.p.getD j none) V) (fl .f32 1056964608)
def evF (G : Gat) (S V Z : Option Nat) (j t : Nat) : Option Nat := if flt32 (evT G S V j) (some (mk G.t.toNat)) && decide (t = flo (evT G S V j)) then fop .add .f32 ((G.r.getD j []).getD t none) Z else (G.r.getD j []).getD t none
theorem fl_half32 : Fl .f32 1056964608 (fl .f32 1056964608) := Fl.of32 (by decide)
theorem nk_half : Nk .f32 (fl .f32 1056964608) := ⟨1056964608, by decide +kernel, by decide +kernel⟩
theorem nq_fin {a : Nat} {X : Option Nat} (h : Fl .f32 a X) (hX : ffin .f32 X = true) : Nq X := nq_of h (by rintro rfl; cases hX)
def okEv (G : Gat) (S V : Option Nat) : Bool := fvG G && (fway S && fabove V)
end Go.Proofs.Ytkbkjkjjoogieaa
