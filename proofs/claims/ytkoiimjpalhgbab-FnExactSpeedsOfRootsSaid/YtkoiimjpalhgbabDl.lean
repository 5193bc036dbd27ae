/- Contracts: lists of a ground that are returned: depths, times, mean speeds, on both sides. Condition: the ground is read. -/
import Derived.Test.YtkoiimjpalhgbabSm
import Derived.Test.YtkoiimjpalhgbabFi
namespace Go.Proofs.Ytkoiimjpalhgbab
open Go.RowKit Ieee

def lst (F : Nat → Option Nat) (n : Nat) : List (Option Nat) := (List.range n).map F
theorem lst_len (F : Nat → Option Nat) (n : Nat) : (lst F n).length = n := by simp [lst]
theorem lst_at {F : Nat → Option Nat} {n j : Nat} (h : j < n) : (lst F n).getD j none = F j := by simp [lst, List.getD, h]
theorem finL_all {F : Nat → Option Nat} {n : Nat} (h : ∀ j, j < n → ffin .f32 (F j) = true) : finL (lst F n) = true := by
  unfold finL lst
  rw [List.all_eq_true]
  intro x hx
  obtain ⟨j, hj, rfl⟩ := List.mem_map.1 hx
  exact h j (List.mem_range.1 hj)
theorem finL_one {F : Nat → Option Nat} {n j : Nat} (h : finL (lst F n) = true) (hj : j < n) : ffin .f32 (F j) = true := by
  unfold finL lst at h
  rw [List.all_eq_true] at h
  exact h _ (List.mem_map.2 ⟨j, List.mem_range.2 hj, rfl⟩)
theorem finL_not {F : Nat → Option Nat} {n j : Nat} (hj : j < n) (h : ffin .f32 (F j) = false) : finL (lst F n) = false := by
  rw [Bool.eq_false_iff]; intro ha; rw [finL_one ha hj] at h; cases h
theorem OwF.owl {w : World} {base n : Nat} {v : Value} {F : Nat → Option Nat} (h : OwF w base v n F) : ∃ A c, v = .slice A n c ∧ OwL w base w.heap.size A n (lst F n) := by
  obtain ⟨xs, ho, hx⟩ := h.own
  obtain ⟨hlen, hd⟩ := ho
  rcases hd with ⟨hv, rfl⟩ | ⟨g, cap, cur, hv, hb, hg, hnc, _, hcs, htk⟩
  · exact ⟨none, 0, hv, OwL.nil _ _ _ _⟩
  · refine ⟨some ⟨g, 0, none⟩, cap, hv, lst_len _ _, .inr ⟨g, 0, cur, rfl, hb, blk_lt hg, hg, by omega, fun j hj => ?_⟩⟩
    obtain ⟨r, h1, h2⟩ := hx j hj
    refine ⟨r, ?_, by rw [lst_at hj]; exact h2⟩
    rw [← htk, List.getElem?_take_of_lt (by omega)] at h1
    rw [Nat.zero_add]
    simpa using h1
theorem OwL.more {w : World} {lo hi lo' hi' n : Nat} {A : Option Addr} {L : List (Option Nat)} (h : OwL w lo hi A n L) (h1 : lo' ≤ lo) (h2 : hi ≤ hi') : OwL w lo' hi' A n L := by
  refine ⟨h.len, ?_⟩
  rcases h.at_ with h0 | ⟨g, off, cs, hA, h3, h4, hrest⟩
  · exact .inl h0
  · exact .inr ⟨g, off, cs, hA, by omega, by omega, hrest⟩
theorem OwL.ext {w w' : World} {lo hi n : Nat} {A : Option Addr} {L : List (Option Nat)} (h : OwL w lo hi A n L) (hh : hi ≤ w.heap.size) (hx : Ext w w') : OwL w' lo hi A n L :=
  h.same (hx.same hh)
/-- What is returned of an owned list. -/
theorem retL_of {w w1 w' : World} {A : Option Addr} {n c : Nat} {M : List (Option Nat)} {f : Bool} (hx : Ext w w1) (ho : OwL w1 w.heap.size w1.heap.size A n M) (hd : Ext w1 w') :
    RetL w (.returned (.tuple #[slc f A n c, .bool f])) w' f M := by
  cases f
  · exact ⟨none, 0, 0, rfl, OwL.nil _ _ _ _, hx.trans hd⟩
  · exact ⟨A, n, c, rfl, (ho.ext (Nat.le_refl _) hd).more (Nat.le_refl _) hd.size, hx.trans hd⟩
theorem retL_no {w w' : World} {M : List (Option Nat)} {f : Bool} (hf : f = false) (hx : Ext w w') : RetL w (.returned (.tuple #[.slice none 0 0, .bool false])) w' f M := by
  subst hf; exact ⟨none, 0, 0, rfl, OwL.nil _ _ _ _, hx⟩

def fdep (L : List Ly) (j : Nat) : Option Nat := sums Ly.t L (j + 1)
def ftim (L : List Ly) (j : Nat) : Option Nat := sums fthru L (j + 1)
/-- A ground's list, if it is valid and its numbers are finite. -/
def okL (F : List Ly → Nat → Option Nat) (L : List Ly) (S D : Option Nat) : Bool := fvalid L S D && finL (lst (F L) L.length)






/-- A list of a call's own is returned, with its success, to the letter. -/
def RetQ (w : World) (e : Ending) (w' : World) (ok : Bool) (q : Nat) (Q : List (Option Nat)) : Prop :=
  ∃ A c, e = .returned (.tuple #[.slice A q c, .bool ok]) ∧ OwL w' w.heap.size w'.heap.size A q Q ∧ Ext w w'
theorem RetL.q {w w' : World} {e : Ending} {ok : Bool} {M : List (Option Nat)} (h : RetL w e w' ok M) : RetQ w e w' ok (outL ok M).length (outL ok M) := by
  obtain ⟨A, n, c, rfl, ho, hx⟩ := h
  obtain rfl := ho.len
  exact ⟨A, c, rfl, ho, hx⟩
theorem MadeG.lt {w w' : World} {g n : Nat} {L : List Ly} (h : MadeG w w' g n L) : g < w'.heap.size := by
  obtain ⟨cs, h1, _, _⟩ := h.own
  exact blk_lt h1
theorem size_drewN (w : World) (m : Nat) : (w.drewN m).heap.size = w.heap.size := rfl
theorem c_markG {w0 wg w : World} {g n s d k0 : Nat} {L : List Ly} (mg : MadeG w0 wg g n L) (hx : Ext wg w) (hn : n ≤ 1048576) (hk0 : k0 ≤ 1000000000) :
    Calls Try.prog 34 #[.agg #[.slice (some ⟨g, 0, none⟩) n n, .float .f32 s, .float .f32 d], .int .i64 (k0 : Int)] w fun e w' => e = .returned (.int .i64 ((k0 + 4 * n : Nat) : Int)) ∧ Kb g (g + 1) w w' := by
  obtain ⟨cs, h1, h2, _⟩ := mg.own
  exact c_markGround (hx.blk h1) h2 hn hk0


end Go.Proofs.Ytkoiimjpalhgbab
