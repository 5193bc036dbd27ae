/- The set of stations, the reference; sets as increasing lists. Condition: the list is read. -/
import Derived.Test.YtfmhdnhaaohdjaaQj
import Derived.Test.YtfmhdnhaaohdjaaQk
namespace Go.Proofs.Ytfmhdnhaaohdjaa
open Go.RowKit Go.ChangeShapes Go.WideShapes Go.Deep Ieee
set_option linter.unusedVariables false
set_option linter.unusedSimpArgs false
attribute [local irreducible] wpQuiet

def Inc (L : List Int) : Prop := L.Pairwise (fun a b => a < b)
theorem Inc.snoc {L : List Int} {x : Int} (h : Inc L) (hx : ∀ z, z ∈ L → z < x) : Inc (L ++ [x]) := by
  unfold Inc at *
  rw [List.pairwise_append]
  exact ⟨h, List.pairwise_singleton _ _, fun a ha b hb => by simp at hb; subst hb; exact hx a ha⟩
theorem Inc.tail {L : List Int} {x : Int} (h : Inc (x :: L)) : Inc L ∧ ∀ z, z ∈ L → x < z := by
  unfold Inc at *
  rw [List.pairwise_cons] at h
  exact ⟨h.2, h.1⟩
/-- Two increasing lists with the same members are the same. -/
theorem inc_ext : ∀ {L M : List Int}, Inc L → Inc M → (∀ x, x ∈ L ↔ x ∈ M) → L = M
  | [], [], _, _, _ => rfl
  | [], b :: M, _, _, h => by have := (h b).2 (by simp); simp at this
  | a :: L, [], _, _, h => by have := (h a).1 (by simp); simp at this
  | a :: L, b :: M, hL, hM, h => by
    obtain ⟨l1, l2⟩ := hL.tail
    obtain ⟨m1, m2⟩ := hM.tail
    have hab : a = b := by
      have ha := (h a).1 (by simp)
      have hb := (h b).2 (by simp)
      rw [List.mem_cons] at ha hb
      rcases ha with ha | ha
      · exact ha
      · rcases hb with hb | hb
        · exact hb.symm
        · have := l2 b hb; have := m2 a ha; omega
    subst hab
    rw [inc_ext l1 m1 (fun x => ?_)]
    have hx := h x
    rw [List.mem_cons, List.mem_cons] at hx
    constructor
    · intro hm
      rcases hx.1 (.inr hm) with e | e
      · have := l2 x hm; omega
      · exact e
    · intro hm
      rcases hx.2 (.inr hm) with e | e
      · have := m2 x hm; omega
      · exact e
theorem inc_take {X : List Int} (h : Inc X) {k : Nat} (hk : k < X.length) : ∀ z, z ∈ X.take k → z < X.getD k 0 := by
  have h1 : Inc (X.take (k + 1)) := List.Pairwise.sublist (List.take_sublist _ _) h
  rw [take_succ_getD X 0 k hk] at h1
  unfold Inc at h1
  rw [List.pairwise_append] at h1
  intro z hz
  exact h1.2.2 z hz _ (by simp)
theorem putK_inc {X : List Int} {y : Int} (h : Inc X) : ∀ k, k ≤ X.length → ∃ O b, putK X y k = (O, b) ∧ (b = false → O = X.take k ∧ ∀ z, z ∈ X.take k → z < y) ∧ (b = true → Inc O ∧ (∀ z, z ∈ O ↔ z ∈ X.take k ∨ z = y) ∧ ∃ t, t ∈ X.take k ∧ y ≤ t)
  | 0, _ => ⟨[], false, rfl, fun _ => ⟨by simp, by simp⟩, fun h => by cases h⟩
  | k + 1, hk => by
    obtain ⟨O, b, e, hf, ht⟩ := putK_inc h k (by omega)
    have hx := inc_take h (show k < X.length by omega)
    have hT : Inc (X.take k) := List.Pairwise.sublist (List.take_sublist _ _) h
    have hs := take_succ_getD X 0 k (show k < X.length by omega)
    cases b
    · obtain ⟨rfl, hlt⟩ := hf rfl
      rcases Int.lt_trichotomy (X.getD k 0) y with hl | hl | hl
      · exact ⟨_, false, putK_lt e hl, fun _ => ⟨hs.symm, fun z hz => by rw [hs, List.mem_append] at hz; rcases hz with hz | hz; exact hlt z hz; simp at hz; subst hz; simpa using hl⟩, fun h => by cases h⟩
      · refine ⟨_, true, putK_eq e hl, fun h => (by cases h), fun _ => ⟨hT.snoc hx, fun z => ?_, X.getD k 0, by rw [hs]; simp, by omega⟩⟩
        rw [hs, List.mem_append]
        constructor
        · exact fun h => .inl h
        · rintro (h | h)
          · exact h
          · exact .inr (by rw [h, ← hl]; simp)
      · refine ⟨_, true, putK_gt e hl, fun h => (by cases h), fun _ => ⟨(hT.snoc hlt).snoc (fun z hz => ?_), fun z => ?_, X.getD k 0, by rw [hs]; simp, by omega⟩⟩
        · rw [List.mem_append] at hz
          rcases hz with hz | hz
          · exact hx z hz
          · simp at hz; subst hz; exact hl
        · rw [hs]
          simp only [List.mem_append, List.mem_singleton]
          constructor
          · rintro ((h | h) | h)
            · exact .inl (.inl h)
            · exact .inr h
            · exact .inl (.inr h)
          · rintro ((h | h) | h)
            · exact .inl (.inl h)
            · exact .inr h
            · exact .inl (.inr h)
    · obtain ⟨h1, h2, t, h3, h4⟩ := ht rfl
      refine ⟨_, true, putK_old e, fun h => (by cases h), fun _ => ⟨h1.snoc (fun z hz => ?_), fun z => ?_, t, by rw [hs, List.mem_append]; exact .inl h3, h4⟩⟩
      · rcases (h2 z).1 hz with h | h
        · exact hx z h
        · have := hx t h3; omega
      · rw [hs]
        simp only [List.mem_append, List.mem_singleton, h2]
        constructor
        · rintro ((h | h) | h)
          · exact .inl (.inl h)
          · exact .inr h
          · exact .inl (.inr h)
        · rintro ((h | h) | h)
          · exact .inl (.inl h)
          · exact .inr h
          · exact .inl (.inr h)
theorem putL_inc {X : List Int} {y : Int} (h : Inc X) : Inc (putL X y) ∧ ∀ z, z ∈ putL X y ↔ z ∈ X ∨ z = y := by
  obtain ⟨O, b, e, hf, ht⟩ := putK_inc (y := y) h X.length (Nat.le_refl _)
  rw [List.take_of_length_le (Nat.le_refl _)] at hf ht
  unfold putL
  rw [e]
  cases b
  · obtain ⟨rfl, hlt⟩ := hf rfl
    rw [if_neg (by simp)]
    exact ⟨h.snoc hlt, fun z => by simp⟩
  · obtain ⟨h1, h2, _⟩ := ht rfl
    rw [if_pos rfl]
    exact ⟨h1, h2⟩
/-- The set of the stations of the first k frames. -/
def stM (R : List Sct) : Nat → List Int
  | 0 => []
  | k + 1 => putL (stM R k) (R.getD k noT).x
def inM (R : List Sct) (k : Nat) (s : Int) : Bool := (List.range k).any fun j => decide ((R.getD j noT).x = s)
theorem inM_succ (R : List Sct) (k : Nat) (s : Int) : inM R (k + 1) s = (inM R k s || decide ((R.getD k noT).x = s)) := by
  unfold inM; rw [List.range_succ, List.any_append]; simp
theorem stM_inc (R : List Sct) : ∀ k, Inc (stM R k) ∧ ∀ z, z ∈ stM R k ↔ inM R k z = true
  | 0 => ⟨List.Pairwise.nil, fun z => by simp [stM, inM]⟩
  | k + 1 => by
    obtain ⟨h1, h2⟩ := stM_inc R k
    obtain ⟨h3, h4⟩ := putL_inc (y := (R.getD k noT).x) h1
    refine ⟨h3, fun z => ?_⟩
    rw [show stM R (k + 1) = putL (stM R k) (R.getD k noT).x from rfl, h4, h2, inM_succ, Bool.or_eq_true, decide_eq_true_iff]
    constructor
    · rintro (h | h)
      · exact .inl h
      · exact .inr h.symm
    · rintro (h | h)
      · exact .inl h
      · exact .inr h.symm
theorem putL_len (X : List Int) (y : Int) : (putL X y).length ≤ 2 * X.length + 1 := by
  have := putK_len X y X.length
  unfold putL; split
  · omega
  · simp; omega
theorem stM_len (R : List Sct) : ∀ k, (stM R k).length + 1 ≤ 2 ^ k
  | 0 => by simp [stM]
  | k + 1 => by
    have h1 := stM_len R k
    have h2 := putL_len (stM R k) (R.getD k noT).x
    rw [Nat.pow_succ]
    show (putL (stM R k) (R.getD k noT).x).length + 1 ≤ _
    omega
set_option maxRecDepth 20000 in
set_option maxHeartbeats 4000000 in
theorem c_l07Stations {w : World} {B n c : Nat} {A : Option Addr} {R : List Sct} (h : RdM w B A n R) (hB : B ≤ w.heap.size) (hn : n ≤ 12) :
    Calls Try.prog 69 #[.slice A n c] w fun e w' => ∃ A' n' c', e = .returned (.slice A' n' c') ∧ OwI w' w.heap.size w'.heap.size A' n' (stM R n) ∧ Ext w w' := by
  go_enter Try.func69, Try.ntmps69
  go_wp2_with (fail)
  go_loopw [3, 8] (fun v y wr => ∃ (k n' c' : Nat) (A' : Option Addr), k ≤ n ∧ y = .int .i64 k ∧ v = .slice A' n' c' ∧ OwI wr w.heap.size wr.heap.size A' n' (stM R k) ∧ Ext w wr) (fun _ y _ => n - (intOf y).toNat)
  case atStart => exact ⟨0, 0, 0, _, Nat.zero_le _, rfl, rfl, by rw [show stM R 0 = [] from rfl]; exact OwI.nil _ _ _ _, (by repeat (first | assumption | exact Ext.refl _ | apply Ext.drewN | apply Ext.drew | apply Ext.alloc | (refine Ext.trans ?_ (by assumption)) | (refine Ext.set ?_ (by dsimp only; omega) _)))⟩
  case round =>
    obtain ⟨k, n', c', A', hk, rfl, rfl, hown, hx⟩ := hrel
    by_cases hlt : k < n
    · have hlt' : (k : Int) < (n : Int) := by omega
      obtain ⟨b1, o1, A1, c1, rfl, _, ⟨f0, _, _⟩, _, _⟩ := (h.below (hx.mono hB)).cell hlt
      have hsl := stM_len R k
      have h2l := hown.len
      have h2k : 2 ^ k ≤ 4096 := Nat.pow_le_pow_right (n := 2) (by omega) (show k ≤ 12 by omega)
      have cP := c_l00Put (w := wr) (y := (R.getD k noT).x) (c := c') hown (Nat.le_refl _) (by omega)
      have hns : putL (stM R k) (R.getD k noT).x = stM R (k + 1) := rfl
      rw [hns] at cP
      have CP := Lib.hid cP
      generalize (R.getD k noT).x = X at *
      clear cP hns
      go_wp2_with (go_at_call 68; refine Calls.mono CP.out ?_; rintro e w5 ⟨A5, n5, c5, rfl, ho5, hx5⟩)
      exact ⟨⟨k + 1, n5, c5, A5, by omega, by go_num, rfl, ho5.more hx.size (Nat.le_refl _), hx.trans hx5⟩, by simp [intOf]; omega⟩
    · obtain rfl : k = n := by omega
      go_wp2_with (fail)
      go_ret
      exact ⟨_, _, _, rfl, hown, hx⟩
set_option maxRecDepth 20000 in
set_option maxHeartbeats 4000000 in
theorem c_spec_StationsOf {w : World} {B n c : Nat} {A : Option Addr} {R : List Sct} (h : RdM w B A n R) (hB : B ≤ w.heap.size) (hn : n ≤ 1048576) (hr : ∀ j, j < n → (R.getD j noT).v.length ≤ 1048576) :
    Calls Try.prog 31 #[.slice A n c] w fun e w' => RetI w e w' (areM R) (stM R n) := by
  have cV := c_l07Are (c := c) h hn hr
  cases hV : areM R
  · rw [hV] at cV
    go_enter Try.func31, Try.ntmps31
    go_wp2_with (go_at_call 67; refine Calls.mono cV ?_; rintro e w1 ⟨rfl, n1, rfl⟩)
    go_ret2
    exact retI_no rfl (by repeat (first | assumption | exact Ext.refl _ | apply Ext.drewN | apply Ext.drew | apply Ext.alloc | (refine Ext.trans ?_ (by assumption)) | (refine Ext.set ?_ (by dsimp only; omega) _)))
  rw [hV] at cV
  have hl := h.len
  obtain ⟨hn12, _⟩ := areM_of hV
  have cS := fun (m : Nat) => c_l07Stations (c := c) (h.drewN m) hB (by omega)
  go_enter Try.func31, Try.ntmps31
  go_wp2_with (first | (go_at_call 67; refine Calls.mono cV ?_; rintro e w1 ⟨rfl, n1, rfl⟩) | (go_at_call 69; refine Calls.mono (cS _) ?_; rintro e w2 ⟨A2, n2, c2, rfl, ho2, hx2⟩))
  go_ret2
  exact ⟨_, _, _, rfl, ho2, Ext.trans (Ext.drewN (Ext.refl _) _) hx2⟩
end Go.Proofs.Ytfmhdnhaaohdjaa
