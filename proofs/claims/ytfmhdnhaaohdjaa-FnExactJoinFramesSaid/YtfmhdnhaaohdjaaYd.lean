/- Contracts: whether a gather is valid, on both sides. Condition: the gather is read. -/
import Derived.Test.YtfmhdnhaaohdjaaYb
import Derived.Test.YtfmhdnhaaohdjaaWb
import Derived.Deep.QuietTactic
import Derived.BigQuiet
namespace Go.Proofs.Ytfmhdnhaaohdjaa
open Go.RowKit Ieee

def plen (n : Nat) : Bool := decide (1 ≤ n) && decide (n ≤ 16)
theorem plen_lo {n : Nat} (h : n < 1) : plen n = false := by unfold plen; rw [decide_eq_false (by omega : ¬ 1 ≤ n)]; rfl
theorem plen_hi {n : Nat} (h : 16 < n) : plen n = false := by unfold plen; rw [decide_eq_false (by omega : ¬ n ≤ 16)]; simp
theorem plen_yes {n : Nat} (h1 : 1 ≤ n) (h2 : n ≤ 16) : plen n = true := by unfold plen; rw [decide_eq_true h1, decide_eq_true h2]; rfl
theorem plen_of {n : Nat} (h : plen n = true) : 1 ≤ n ∧ n ≤ 16 := by
  unfold plen at h; rw [Bool.and_eq_true] at h; exact ⟨of_decide_eq_true h.1, of_decide_eq_true h.2⟩
theorem plen_not {n : Nat} (h : plen n = false) : n < 1 ∨ 16 < n := by
  rcases Nat.lt_or_ge n 1 with h1 | h1
  · exact .inl h1
  · rcases Nat.lt_or_ge 16 n with h2 | h2
    · exact .inr h2
    · rw [plen_yes h1 h2] at h; cases h
def rowOk (t : Int) (l : List (Option Nat)) : Bool := decide ((l.length : Int) = t)
def rowsOk (t : Int) (R : List (List (Option Nat))) : Bool := R.all (rowOk t)
theorem rowsOk_no {t : Int} {R : List (List (Option Nat))} {k : Nat} (h : k < R.length) (hf : rowOk t (R.getD k []) = false) : rowsOk t R = false := by
  rw [Bool.eq_false_iff]
  intro ha
  unfold rowsOk at ha
  rw [List.all_eq_true] at ha
  have := ha (R.getD k []) (by simp [List.getD, h])
  rw [hf] at this; cases this
theorem rowsOk_step {t : Int} {R : List (List (Option Nat))} {k : Nat} (h : k < R.length) (ha : rowsOk t (R.take k) = true) (hf : rowOk t (R.getD k []) = true) : rowsOk t (R.take (k + 1)) = true := by
  unfold rowsOk at *
  rw [take_succ_getD R [] k h, List.all_append, ha]; simpa using hf
theorem rowsOk_end {t : Int} {R : List (List (Option Nat))} {n : Nat} (h : R.length = n) (ha : rowsOk t (R.take n) = true) : rowsOk t R = true := by
  rwa [List.take_of_length_le (by omega)] at ha
theorem rowsOk_at {t : Int} {R : List (List (Option Nat))} {k : Nat} (h : k < R.length) (ha : rowsOk t R = true) : ((R.getD k []).length : Int) = t := by
  unfold rowsOk at ha
  rw [List.all_eq_true] at ha
  exact of_decide_eq_true (ha (R.getD k []) (by simp [List.getD, h]))
theorem rowOk_yes {t : Int} {l : List (Option Nat)} (h : (l.length : Int) = t) : rowOk t l = true := decide_eq_true h
theorem rowOk_not {t : Int} {l : List (Option Nat)} (h : rowOk t l = false) : (l.length : Int) ≠ t := of_decide_eq_false h
theorem rowOk_of {t : Int} {l : List (Option Nat)} (h : rowOk t l = true) : (l.length : Int) = t := of_decide_eq_true h
/-- A gather is valid. -/
def fvG (G : Gat) : Bool := inB G.t 1 64 && (plen G.p.length && (allL (ffin .f32) G.p && (same2 G.r.length G.p.length && rowsOk G.t G.r)))
theorem fvG_t {G : Gat} (h : inB G.t 1 64 = false) : fvG G = false := by unfold fvG; rw [h]; rfl
theorem fvG_n {G : Gat} (h : plen G.p.length = false) : fvG G = false := by unfold fvG; rw [h]; simp
theorem fvG_p {G : Gat} (h : allL (ffin .f32) G.p = false) : fvG G = false := by unfold fvG; rw [h]; simp
theorem fvG_m {G : Gat} (h : same2 G.r.length G.p.length = false) : fvG G = false := by unfold fvG; rw [h]; simp
theorem fvG_r {G : Gat} (h : rowsOk G.t G.r = false) : fvG G = false := by unfold fvG; rw [h]; simp
theorem fvG_yes {G : Gat} (h1 : inB G.t 1 64 = true) (h2 : plen G.p.length = true) (h3 : allL (ffin .f32) G.p = true) (h4 : same2 G.r.length G.p.length = true) (h5 : rowsOk G.t G.r = true) : fvG G = true := by
  unfold fvG; rw [h1, h2, h3, h4, h5]; rfl
/-- What a valid gather has. -/
structure VG (G : Gat) : Prop where
  t1 : 1 ≤ G.t
  t2 : G.t ≤ 64
  n1 : 1 ≤ G.p.length
  n2 : G.p.length ≤ 16
  fin : allL (ffin .f32) G.p = true
  m : G.r.length = G.p.length
  row : ∀ k, k < G.r.length → ((G.r.getD k []).length : Int) = G.t
theorem fvG_of {G : Gat} (h : fvG G = true) : VG G := by
  unfold fvG at h
  simp only [Bool.and_eq_true] at h
  obtain ⟨h1, h2, h3, h4, h5⟩ := h
  exact ⟨(inB_of h1).1, (inB_of h1).2, (plen_of h2).1, (plen_of h2).2, h3, same2_of h4, fun k hk => rowsOk_at hk h5⟩

end Go.Proofs.Ytfmhdnhaaohdjaa
