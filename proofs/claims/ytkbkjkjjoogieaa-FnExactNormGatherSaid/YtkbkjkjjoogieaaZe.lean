/- Contracts: gathers without distances and with them, on both sides. Condition: the gather is read. -/
import Derived.Test.YtkbkjkjjoogieaaZd
namespace Go.Proofs.Ytkbkjkjjoogieaa
open Go.RowKit Ieee

theorem GbAt.kb {w w' : World} {lo hi b : Nat} {t : Int} {Ap At : Option Addr} {np cp nt ct : Nat} (h : GbAt w b t Ap np cp At nt ct) (hk : Kb lo hi w w') (hb : b < lo ∨ hi ≤ b) : GbAt w' b t Ap np cp At nt ct := by
  have hblk : w'.heap[b]? = w.heap[b]? := by
    rcases hb with h1 | h1
    · exact hk.below.block b h1
    · exact hk.above b h1 h.lt
  have hc : ∀ i, w'.cell? ⟨b, i, none⟩ = w.cell? ⟨b, i, none⟩ := fun i => World.cell?_of_block hblk
  exact ⟨(hc 0).trans h.p0, (hc 1).trans h.p1, (hc 2).trans h.p2, Nat.lt_of_lt_of_le h.lt hk.below.size⟩
/-- A gather of a call's own is returned, with its success, to the letter. -/
def RetGQ (w : World) (e : Ending) (w' : World) (ok : Bool) (Q : Gat) : Prop :=
  ∃ v, e = .returned (.tuple #[v, .bool ok]) ∧ OwG w' w.heap.size w'.heap.size v Q ∧ Ext w w'
theorem tot_lens : ∀ (R R' : List (List (Option Nat))), R.length = R'.length → (∀ j, j < R.length → (R.getD j []).length = (R'.getD j []).length) → tot R = tot R'
  | [], [], _, _ => rfl
  | [], _ :: _, h, _ => by simp at h
  | _ :: _, [], h, _ => by simp at h
  | a :: R, a' :: R', h, hj => by
    have h0 := hj 0 (by simp)
    have h1 := tot_lens R R' (by simpa using h) (fun j hl => by have := hj (j + 1) (by simp; omega); simpa using this)
    simp only [List.getD_cons_zero] at h0
    simp only [tot]
    omega
theorem gsz_out {ok : Bool} {G : Gat} (h : gsz G ≤ 1048576) : gsz (outG ok G) ≤ 1048576 := by
  cases ok
  · show gsz noG ≤ _
    decide
  · exact h
theorem gsz_all {q : List (Option Nat) → Option Nat → Option Nat → Nat → Option Nat} {V : Option Nat} {G : Gat} : gsz (allG q V G) = gsz G := by
  unfold gsz allG
  dsimp only
  rw [lstS_len, tot_lens (lstS (allF q V G) G.r.length) G.r (lstS_len _ _) (fun j hj => by rw [lstS_len] at hj; rw [lstS_at hj]; unfold allF; rw [lst_len])]
end Go.Proofs.Ytkbkjkjjoogieaa
