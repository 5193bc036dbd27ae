/- Rows that are set here and there; lists that are read, as rows of words. No condition. -/
import Derived.Test.YtfmhdnhaaohdjaaTr
import Derived.Lib.SliceRun
namespace Go.Proofs.Ytfmhdnhaaohdjaa
open Go.RowKit Ieee

/-- The first n cells are those of F. -/
def RowF (cs : Array Value) (n : Nat) (F : Nat → Option Nat) : Prop := ∀ j, j < n → ∃ r, cs[j]? = some (.float .f32 r) ∧ Fl .f32 r (F j)
theorem RowF.set {cs : Array Value} {n t r : Nat} {F G : Nat → Option Nat} (h : RowF cs n F) (hs : cs.size = n) (hr : Fl .f32 r (G t)) (hFG : ∀ j, j < n → j ≠ t → F j = G j) : RowF (cs.setIfInBounds t (.float .f32 r)) n G := by
  intro j hj
  by_cases h1 : j = t
  · subst h1
    exact ⟨r, by rw [Array.getElem?_setIfInBounds, if_pos rfl, if_pos (by omega)], hr⟩
  · obtain ⟨q, e1, e2⟩ := h j hj
    exact ⟨q, by rw [Array.getElem?_setIfInBounds, if_neg (fun e => h1 e.symm)]; exact e1, by rw [← hFG j hj h1]; exact e2⟩
theorem RowF.keep {cs : Array Value} {n : Nat} {F G : Nat → Option Nat} (h : RowF cs n F) (hFG : ∀ j, j < n → F j = G j) : RowF cs n G := by
  intro j hj
  obtain ⟨q, e1, e2⟩ := h j hj
  exact ⟨q, e1, by rw [← hFG j hj]; exact e2⟩
theorem RowF.made {n : Nat} {F : Nat → Option Nat} (h : ∀ j, j < n → F j = fz) : RowF (madeCells #[.float .f32 0] n) n F := fun j hj => ⟨0, made_get _ _ _ hj, by rw [h j hj]; exact fl_fz⟩
theorem RowF.cell {w : World} {g n k : Nat} {cs : Array Value} {F : Nat → Option Nat} (h : RowF cs n F) (hg : w.heap[g]? = some (.cells cs 83 (0, 0))) (hk : k < n) :
    ∃ r, w.cell? ⟨g, k, none⟩ = some (.float .f32 r) ∧ w.frozen? ⟨g, k, none⟩ = false ∧ Fl .f32 r (F k) := by
  obtain ⟨r, e1, e2⟩ := h k hk
  exact ⟨r, by rw [cell_of_row w g _ cs _ (0, 0) hg]; exact e1, by simp [World.frozen?, hg], e2⟩

/-- A list that is read, word by word. -/
theorem RdF.words {w : World} {B n : Nat} {A : Option Addr} {L : List (Option Nat)} (h : RdF w B A n L) (hn : 0 < n) :
    ∃ b off, A = some ⟨b, off, none⟩ ∧ b < B ∧ ∃ rs : List Nat, rs.length = n ∧ ∀ j, j < n → w.cell? ⟨b, off + j, none⟩ = some (.float .f32 (rs.getD j 0)) ∧ Fl .f32 (rs.getD j 0) (L.getD j none) := by
  obtain ⟨b, off, hA, hb, hj⟩ := h.at_ 0 hn
  refine ⟨b, off, hA, hb, (List.range n).map fun j => if hh : j < n then (hj j hh).choose else 0, by simp, fun j hjn => ?_⟩
  have e : ((List.range n).map fun j => if hh : j < n then (hj j hh).choose else 0).getD j 0 = (hj j hjn).choose := by
    simp [List.getD, hjn]
  rw [e]
  exact (hj j hjn).choose_spec
def fvals (rs : List Nat) : List Value := rs.map fun r => .float .f32 r
theorem fvals_at {rs : List Nat} {j : Nat} (h : j < rs.length) : (fvals rs)[j]? = some (.float .f32 (rs.getD j 0)) := by
  simp [fvals, List.getD, h]
def le2 (n m : Nat) : Bool := decide (n ≤ m)
theorem le2_yes {n m : Nat} (h : n ≤ m) : le2 n m = true := decide_eq_true h
theorem le2_no {n m : Nat} (h : m < n) : le2 n m = false := decide_eq_false (by omega)
theorem le2_of {n m : Nat} (h : le2 n m = true) : n ≤ m := of_decide_eq_true h
theorem le2_not {n m : Nat} (h : le2 n m = false) : m < n := by have := of_decide_eq_false h; omega

/-- What is shifted, of the first numbers; the numbers that are set already. -/
def fshiftK (L : List (Option Nat)) (i : Int) (k j : Nat) : Option Nat := if 0 ≤ (j : Int) - i ∧ (j : Int) - i < k then L.getD ((j : Int) - i).toNat none else fz
theorem fshiftK_all {L : List (Option Nat)} {i : Int} {n : Nat} (h : L.length = n) : fshiftK L i n = fshift L i := by
  funext j; unfold fshiftK fshift; rw [h]
theorem fshiftK_zero (L : List (Option Nat)) (i : Int) (j : Nat) : fshiftK L i 0 j = fz := by unfold fshiftK; rw [if_neg (by omega)]
theorem fshiftK_other {L : List (Option Nat)} {i : Int} {k j : Nat} (h : (j : Int) - i ≠ k) : fshiftK L i k j = fshiftK L i (k + 1) j := by
  unfold fshiftK
  by_cases h1 : 0 ≤ (j : Int) - i ∧ (j : Int) - i < k
  · rw [if_pos h1, if_pos (by omega)]
  · rw [if_neg h1, if_neg (by omega)]
theorem fshiftK_at {L : List (Option Nat)} {i : Int} {k j : Nat} (h : (j : Int) - i = k) : fshiftK L i (k + 1) j = L.getD k none := by
  unfold fshiftK
  rw [if_pos (by omega), h, Int.toNat_natCast]
def fsetK (F : Nat → Option Nat) (k j : Nat) : Option Nat := if j < k then F j else fz
theorem fsetK_zero (F : Nat → Option Nat) (j : Nat) : fsetK F 0 j = fz := by unfold fsetK; rw [if_neg (by omega)]
theorem fsetK_at (F : Nat → Option Nat) (k : Nat) : fsetK F (k + 1) k = F k := by unfold fsetK; rw [if_pos (by omega)]
theorem fsetK_other (F : Nat → Option Nat) {k j : Nat} (h : j ≠ k) : fsetK F k j = fsetK F (k + 1) j := by
  unfold fsetK
  by_cases h1 : j < k
  · rw [if_pos h1, if_pos (by omega)]
  · rw [if_neg h1, if_neg (by omega)]
theorem fsetK_skip {F : Nat → Option Nat} {k : Nat} (h : F k = fz) (j : Nat) : fsetK F k j = fsetK F (k + 1) j := by
  by_cases h1 : j = k
  · subst h1; rw [fsetK_at, h]; unfold fsetK; rw [if_neg (by omega)]
  · exact fsetK_other F h1
theorem fsetK_all (F : Nat → Option Nat) {n j : Nat} (h : j < n) : fsetK F n j = F j := by unfold fsetK; rw [if_pos h]
/-- A list of which k numbers at each end have changed places. -/
def frevK (F : Nat → Option Nat) (n k j : Nat) : Option Nat := if j < k ∨ n ≤ j + k then F (n - 1 - j) else F j
theorem frevK_zero (F : Nat → Option Nat) {n j : Nat} (h : j < n) : frevK F n 0 j = F j := by unfold frevK; rw [if_neg (by omega)]
theorem frevK_end {F : Nat → Option Nat} {n k j : Nat} (hk : n ≤ 2 * k + 1) (h : j < n) : frevK F n k j = F (n - 1 - j) := by
  unfold frevK
  by_cases h1 : j < k ∨ n ≤ j + k
  · rw [if_pos h1]
  · rw [if_neg h1, show n - 1 - j = j by omega]
theorem frevK_low {F : Nat → Option Nat} {n k : Nat} : frevK F n (k + 1) k = F (n - 1 - k) := by unfold frevK; rw [if_pos (by omega)]
theorem frevK_high {F : Nat → Option Nat} {n k m : Nat} (h : n = m + k + 1) : frevK F n (k + 1) m = F k := by
  unfold frevK; rw [if_pos (by omega), show n - 1 - m = k by omega]
theorem frevK_in {F : Nat → Option Nat} {n k j : Nat} (h1 : k ≤ j) (h2 : j + k < n) : frevK F n k j = F j := by unfold frevK; rw [if_neg (by omega)]
theorem frevK_other {F : Nat → Option Nat} {n k m j : Nat} (h : n = m + k + 1) (h1 : j ≠ k) (h2 : j ≠ m) : frevK F n k j = frevK F n (k + 1) j := by
  unfold frevK
  by_cases h3 : j < k ∨ n ≤ j + k
  · rw [if_pos h3, if_pos (by omega)]
  · rw [if_neg h3, if_neg (by omega)]
/-- A row of the call's own, whole, as a list. -/
theorem RowF.lst {w : World} {g n : Nat} {cs : Array Value} {F : Nat → Option Nat} (h : RowF cs n F) (hg : w.heap[g]? = some (.cells cs 83 (0, 0))) (hs : cs.size = n) : OwL w g w.heap.size (some ⟨g, 0, none⟩) n (lst F n) := own_lst hg hs h
end Go.Proofs.Ytfmhdnhaaohdjaa
