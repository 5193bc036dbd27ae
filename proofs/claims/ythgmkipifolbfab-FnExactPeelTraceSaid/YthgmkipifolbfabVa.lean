/- What is peeled of a trace: the mathematics, rows that are parts of blocks, and what goes down first (the program). Condition: the list is read. -/
import Derived.Test.YthgmkipifolbfabUw
import Derived.Test.YthgmkipifolbfabUf
import Derived.Maps.AppendAt
namespace Go.Proofs.Ythgmkipifolbfab
open Go.RowKit Ieee

def pd0 (L : List (Option Nat)) (S : Option Nat) (j : Nat) : Option Nat := if j = 0 then fu else fag S (L.getD (j - 1) none)
def pnu (R : Option Nat) (D U : Nat → Option Nat) (j : Nat) : Option Nat := fbel R (D j) (U j)
def pnd (R : Option Nat) (D U : Nat → Option Nat) (j : Nat) : Option Nat := fdn R (D j) (pnu R D U j)
/-- What goes up and down behind t boundaries. -/
def pst (L : List (Option Nat)) (S : Option Nat) : Nat → (Nat → Option Nat) × (Nat → Option Nat)
  | 0 => (fun j => L.getD j none, pd0 L S)
  | t + 1 => (fun j => pnu (fop .quo .f32 ((pst L S t).1 0) ((pst L S t).2 0)) (pst L S t).2 (pst L S t).1 (j + 1), fun j => pnd (fop .quo .f32 ((pst L S t).1 0) ((pst L S t).2 0)) (pst L S t).2 (pst L S t).1 j)
def fpr (L : List (Option Nat)) (S : Option Nat) (t : Nat) : Option Nat := fop .quo .f32 ((pst L S t).1 0) ((pst L S t).2 0)
theorem pst_next (L : List (Option Nat)) (S : Option Nat) (t : Nat) : pst L S (t + 1) = (fun j => pnu (fpr L S t) (pst L S t).2 (pst L S t).1 (j + 1), fun j => pnd (fpr L S t) (pst L S t).2 (pst L S t).1 j) := rfl
/-- Of a row whose first numbers are turned already. -/
def pmix (F G : Nat → Option Nat) (k j : Nat) : Option Nat := if j < k then F j else G j
theorem pmix_zero (F G : Nat → Option Nat) (j : Nat) : pmix F G 0 j = G j := by unfold pmix; rw [if_neg (by omega)]
theorem pmix_at (F G : Nat → Option Nat) (k : Nat) : pmix F G k k = G k := by unfold pmix; rw [if_neg (by omega)]
theorem pmix_set (F G : Nat → Option Nat) (k : Nat) : pmix F G (k + 1) k = F k := by unfold pmix; rw [if_pos (by omega)]
theorem pmix_other (F G : Nat → Option Nat) {k j : Nat} (h : j ≠ k) : pmix F G k j = pmix F G (k + 1) j := by
  unfold pmix
  by_cases h1 : j < k
  · rw [if_pos h1, if_pos (by omega)]
  · rw [if_neg h1, if_neg (by omega)]
theorem pmix_all (F G : Nat → Option Nat) {k j : Nat} (h : j < k) : pmix F G k j = F j := by unfold pmix; rw [if_pos h]
def okPl (L : List (Option Nat)) (S : Option Nat) (m : Nat) : Bool := allU (fun j => fcoef (fpr L S j)) m

/-- A row in the midst of a block. -/
def RowO (cs : Array Value) (off n : Nat) (F : Nat → Option Nat) : Prop := ∀ j, j < n → ∃ r, cs[off + j]? = some (.float .f32 r) ∧ Fl .f32 r (F j)
theorem RowO.set {cs : Array Value} {off n t r : Nat} {F G : Nat → Option Nat} (h : RowO cs off n F) (hs : off + n ≤ cs.size) (ht : t < n) (hr : Fl .f32 r (G t)) (hFG : ∀ j, j < n → j ≠ t → F j = G j) : RowO (cs.setIfInBounds (off + t) (.float .f32 r)) off n G := by
  intro j hj
  by_cases hjt : j = t
  · subst hjt
    have : off + j < cs.size := by omega
    exact ⟨r, by simp [this], hr⟩
  · obtain ⟨q, e1, e2⟩ := h j hj
    refine ⟨q, ?_, by rw [← hFG j hj hjt]; exact e2⟩
    rw [Array.getElem?_setIfInBounds_ne (by omega)]; exact e1
theorem RowO.keep {cs : Array Value} {off n : Nat} {F G : Nat → Option Nat} (h : RowO cs off n F) (hFG : ∀ j, j < n → F j = G j) : RowO cs off n G := by
  intro j hj
  obtain ⟨q, e1, e2⟩ := h j hj
  exact ⟨q, e1, by rw [← hFG j hj]; exact e2⟩
theorem RowO.cell {w : World} {g off n k : Nat} {cs : Array Value} {F : Nat → Option Nat} (h : RowO cs off n F) (hg : w.heap[g]? = some (.cells cs 29 (0, 0))) (hk : k < n) :
    ∃ r, w.cell? ⟨g, off + k, none⟩ = some (.float .f32 r) ∧ w.frozen? ⟨g, off + k, none⟩ = false ∧ Fl .f32 r (F k) := by
  obtain ⟨r, e1, e2⟩ := h k hk
  exact ⟨r, by rw [cell_of_row w g _ cs _ (0, 0) hg]; exact e1, by simp [World.frozen?, hg], e2⟩
theorem RowO.tail {cs : Array Value} {off n : Nat} {F : Nat → Option Nat} (h : RowO cs off (n + 1) F) : RowO cs (off + 1) n (fun j => F (j + 1)) := by
  intro j hj
  obtain ⟨q, e1, e2⟩ := h (j + 1) (by omega)
  exact ⟨q, by rw [show off + 1 + j = off + (j + 1) by omega]; exact e1, e2⟩
theorem RowO.less {cs : Array Value} {off n m : Nat} {F : Nat → Option Nat} (h : RowO cs off n F) (hm : m ≤ n) : RowO cs off m F := fun j hj => h j (by omega)

theorem owns_set {W : World} {base n : Nat} {v : Value} {e : TypeId} {xs : List Value} (h : W.ownsRow base e 1 v n xs) {p : Addr} (hp : v.ownBlock ≠ some p.block) (u : Value) : (W.setCell p u).ownsRow base e 1 v n xs := by
  refine ⟨h.1, ?_⟩
  rcases h.2 with hn | ⟨g, cap, cur, hv, hbg, hg, hrest⟩
  · exact .inl hn
  · refine .inr ⟨g, cap, cur, hv, hbg, set_other hg ?_, hrest⟩
    rintro rfl
    exact hp (by rw [hv]; rfl)
theorem owns_ext' {W W' : World} {base n : Nat} {v : Value} {e : TypeId} {xs : List Value} (h : W.ownsRow base e 1 v n xs) (hx : Ext W W') : W'.ownsRow base e 1 v n xs := by
  refine ⟨h.1, ?_⟩
  rcases h.2 with hn | ⟨g, cap, cur, hv, hbg, hg, hrest⟩
  · exact .inl hn
  · exact .inr ⟨g, cap, cur, hv, hbg, hx.blk hg, hrest⟩
/-- A row that was made by appending, as a part of its block. -/
theorem owns_row {W : World} {base n : Nat} {v : Value} {xs : List Value} {F : Nat → Option Nat} (h : W.ownsRow base 29 1 v n xs) (hn : 0 < n) (hF : ∀ j, j < n → ∃ r, xs[j]? = some (.float .f32 r) ∧ Fl .f32 r (F j)) :
    ∃ g cap cs, v = .slice (some ⟨g, 0, none⟩) n cap ∧ v.ownBlock = some g ∧ base ≤ g ∧ n ≤ cap ∧ n ≤ cs.size ∧ W.heap[g]? = some (.cells cs 29 (0, 0)) ∧ RowO cs 0 n F := by
  rcases h.2 with ⟨rfl, hn0⟩ | ⟨g, cap, cur, rfl, hbg, hg, hnc, hcm, hcs, htake⟩
  · omega
  · have hl := h.1
    rw [Nat.mul_one] at hl hcs htake
    refine ⟨g, cap, cur, rfl, rfl, hbg, hnc, by omega, hg, fun j hj => ?_⟩
    obtain ⟨r, e1, e2⟩ := hF j hj
    refine ⟨r, ?_, e2⟩
    rw [Nat.zero_add, ← Array.getElem?_toList, ← e1, ← htake, List.getElem?_take_of_lt hj]

set_option maxRecDepth 20000 in
set_option maxHeartbeats 4000000 in
theorem c_firstDown {w : World} {B n c : Nat} {A : Option Addr} {L : List (Option Nat)} (h : RdF w B A n L) (hB : B ≤ w.heap.size) (hn0 : 1 ≤ n) (hn : n ≤ 128) (hcap : n ≤ c) {s : Nat} {S : Option Nat} (fs : Fl .f32 s S) :
    Calls Try.prog 63 #[.slice A n c, .float .f32 s] w fun e w' => ∃ v, e = .returned v ∧ OwF w' w.heap.size v n (pd0 L S) ∧ Ext w w' := by
  obtain ⟨M, hM⟩ : ∃ M, n = M + 1 := ⟨n - 1, by omega⟩
  have hsub : (n : Int) - 1 = (M : Int) := by omega
  have hwr : IntKind.i64.wrap (M : Int) = (M : Int) := IntWalk.i64_in _ (by omega)
  have hM0 : (0 : Int) ≤ (M : Int) := by omega
  have hMc : (M : Int) ≤ (c : Int) := by omega
  have hMn : M < n := by omega
  have HM := Lib.hid hM
  clear hM
  obtain ⟨i0, hi, hz0, hz1, hz2⟩ := info_parts info_f32
  go_enter Try.func63, Try.ntmps63
  go_wp2_with (fail)
  go_loopw [5, 15] (fun v y wr => ∃ (k : Nat) (xs : List Value), k ≤ M ∧ y = .int .i64 k ∧ wr.ownsRow w.heap.size 29 1 v (k + 1) xs ∧ (∀ j, j < k + 1 → ∃ r, xs[j]? = some (.float .f32 r) ∧ Fl .f32 r (pd0 L S j)) ∧ Ext w wr) (fun _ y _ => M - (intOf y).toNat)
  case atStart =>
    refine ⟨0, [.float .f32 1065353216], Nat.zero_le _, rfl, owns_one _ _, ?_, (by repeat (first | assumption | exact Ext.refl _ | apply Ext.drewN | apply Ext.drew | apply Ext.alloc | (refine Ext.trans ?_ (by assumption)) | (refine Ext.set ?_ (by dsimp only; omega) _)))⟩
    intro j hj
    obtain rfl : j = 0 := by omega
    exact ⟨_, rfl, fl_fu⟩
  case round =>
    obtain ⟨k, xs, hk, rfl, hown, hxs, hx⟩ := hrel
    have HX := Lib.hid hxs
    clear hxs
    by_cases hlt : k < M
    · have hlt' : (k : Int) < (M : Int) := by omega
      obtain ⟨b1, o1, t1, rfl, hb1, hc1, ht1⟩ := (h.below (hx.mono hB)).cell (show k < n by omega)
      have hT : pd0 L S (k + 1) = fag S (L.getD k none) := by unfold pd0; rw [if_neg (by omega), Nat.add_sub_cancel]
      have HT := Lib.hid hT
      clear hT
      go_wp2_with (first | (go_at_call 83; refine Calls.mono (c_downAgain fs ht1) ?_; rintro e w_1 ⟨r4, rfl, hr4, n4, rfl⟩; rw [← HT.out] at hr4) | (at_builtin; refine wpList_append_own _ rfl _ _ 22 rfl w.heap.size 29 i0 (.float .f32 0) 1 4 Try.underlying22 hi hz0 hz1 hz2 rfl (by decide) _ _ _ rfl (World.ownsRow.alloc (w := wr.drewN _) hown _) ⟨wr.heap.size, 0, none⟩ 1 1 [.float .f32 r4] rfl rfl ?_ ?_ ?_ ?_ ?_ ?_))
      all_goals first
        | exact one_new (w := wr.drewN _)
        | (intro u hu; simp at hu; subst hu; rfl)
        | (unfold maxLen; omega)
        | omega
        | (have := hx.size; simp; omega)
        | (intro v' w4 hown' hgrow _
           have hl' : xs.length = k + 1 := by have := hown.1; omega
           have hx' : Ext w w4 := grown_ext (Ext.alloc (Ext.drewN hx _) _) (World.ownsRow.alloc (w := wr.drewN _) hown _) hgrow
           have HXX := Lib.hid (row_step hl' HX.out hr4)
           clear hown hgrow hx
           go_wp2_with (fail)
           exact ⟨⟨k + 1, _, by omega, by go_num, by exact hown', HXX.out, hx'⟩, by simp [intOf]; omega⟩)
    · obtain rfl : k = M := by omega
      go_wp2_with (fail)
      go_ret
      have hn' := HM.out
      exact ⟨_, rfl, ⟨xs, by rw [hn']; exact hown, by rw [hn']; exact HX.out⟩, hx⟩
end Go.Proofs.Ythgmkipifolbfab
