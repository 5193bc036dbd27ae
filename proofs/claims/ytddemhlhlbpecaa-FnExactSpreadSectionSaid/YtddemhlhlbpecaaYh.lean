/- Contracts: whether gathers are the same, on both sides. Condition: both are read. -/
import Derived.Test.YtddemhlhlbpecaaYd
namespace Go.Proofs.Ytddemhlhlbpecaa
open Go.RowKit Ieee

def upto (p : Nat → Bool) (k : Nat) : Bool := (List.range k).all p
theorem upto_zero (p : Nat → Bool) : upto p 0 = true := rfl
theorem upto_succ (p : Nat → Bool) (k : Nat) : upto p (k + 1) = (upto p k && p k) := by unfold upto; rw [List.range_succ, List.all_append]; simp
theorem upto_step {p : Nat → Bool} {k : Nat} (h : upto p k = true) (h1 : p k = true) : upto p (k + 1) = true := by rw [upto_succ, h, h1]; rfl
theorem upto_no {p : Nat → Bool} {k n : Nat} (hk : k < n) (h : p k = false) : upto p n = false := by
  rw [Bool.eq_false_iff]
  intro ha
  unfold upto at ha
  rw [List.all_eq_true] at ha
  have := ha k (List.mem_range.2 hk)
  rw [h] at this; cases this
def fsame (X Y : Option Nat) : Bool := decide (fbits X = fbits Y)
def sameL (L M : List (Option Nat)) : Bool := same2 L.length M.length && upto (fun j => fsame (L.getD j none) (M.getD j none)) L.length
def sameR (R S : List (List (Option Nat))) : Bool := same2 R.length S.length && upto (fun j => sameL (R.getD j []) (S.getD j [])) R.length
def sameG (G H : Gat) : Bool := decide (G.t = H.t) && (sameL G.p H.p && sameR G.r H.r)
theorem sameL_len {L M : List (Option Nat)} {n m : Nat} (h : L.length = n) (h' : M.length = m) (hn : n ≠ m) : sameL L M = false := by unfold sameL; rw [h, h', same2_no hn]; rfl
theorem sameL_eq {L M : List (Option Nat)} {n : Nat} (h : L.length = n) (h' : M.length = n) : sameL L M = upto (fun j => fsame (L.getD j none) (M.getD j none)) n := by unfold sameL; rw [h, h', same2_yes rfl]; rfl
theorem sameR_len {R S : List (List (Option Nat))} {n m : Nat} (h : R.length = n) (h' : S.length = m) (hn : n ≠ m) : sameR R S = false := by unfold sameR; rw [h, h', same2_no hn]; rfl
theorem sameR_eq {R S : List (List (Option Nat))} {n : Nat} (h : R.length = n) (h' : S.length = n) : sameR R S = upto (fun j => sameL (R.getD j []) (S.getD j [])) n := by unfold sameR; rw [h, h', same2_yes rfl]; rfl

set_option maxRecDepth 20000 in
set_option maxHeartbeats 400000 in
theorem c_l01Same {a b : Nat} {X Y : Option Nat} (fa : Fl .f32 a X) (fb : Fl .f32 b Y) (w : World) :
    Calls Try.prog 109 #[.float .f32 a, .float .f32 b] w fun e w' => e = .returned (.bool (fsame X Y)) ∧ Dr w w' := by
  go_enter Try.func109, Try.ntmps109
  go_wp2_with (go_at_call 150; refine Calls.mono (c_spec_l01Bits (by assumption) _) ?_; rintro e w' ⟨rfl, rfl⟩)
  go_ret
  exact ⟨rfl, 0, rfl⟩






end Go.Proofs.Ytddemhlhlbpecaa
