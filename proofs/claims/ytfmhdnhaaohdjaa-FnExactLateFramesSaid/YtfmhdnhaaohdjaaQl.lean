/- Frames that come late, on both sides. Condition: the list is read. -/
import Derived.Test.YtfmhdnhaaohdjaaQj
import Derived.Test.YtfmhdnhaaohdjaaQk
import Derived.Maps.OwnOps
import Derived.Maps.OwnSet
namespace Go.Proofs.Ytfmhdnhaaohdjaa
open Go.RowKit Go.ChangeShapes Go.WideShapes Go.Deep Ieee
set_option linter.unusedVariables false
set_option linter.unusedSimpArgs false
attribute [local irreducible] wpQuiet

/-- Whether one of the first k frames has this station and a greater start. -/
def anyM (R : List Sct) (k : Nat) (s t : Int) : Bool := (List.range k).any fun j => decide ((R.getD j noT).x = s) && decide (t < (R.getD j noT).z)
theorem anyM_succ (R : List Sct) (k : Nat) (s t : Int) : anyM R (k + 1) s t = (anyM R k s t || (decide ((R.getD k noT).x = s) && decide (t < (R.getD k noT).z))) := by
  unfold anyM; rw [List.range_succ, List.any_append]; simp
/-- The greatest start of a station among the first k frames, at least 0. -/
def topM (R : List Sct) : Nat → Int → Int
  | 0, _ => 0
  | k + 1, s => if (R.getD k noT).x = s then max (topM R k s) (R.getD k noT).z else topM R k s
theorem topM_any {R : List Sct} {s t : Int} (ht : 0 ≤ t) : ∀ k, anyM R k s t = decide (t < topM R k s)
  | 0 => by
    show false = decide (t < 0)
    exact (decide_eq_false (by omega)).symm
  | k + 1 => by
    rw [anyM_succ, topM_any ht k, topM]
    by_cases hx : (R.getD k noT).x = s
    · rw [decide_eq_true hx, if_pos hx, Bool.true_and]
      by_cases h1 : t < topM R k s
      · rw [decide_eq_true h1, decide_eq_true (by omega : t < max (topM R k s) (R.getD k noT).z)]; rfl
      · rw [decide_eq_false h1, Bool.false_or]
        by_cases h2 : t < (R.getD k noT).z
        · rw [decide_eq_true h2, decide_eq_true (by omega)]
        · rw [decide_eq_false h2, decide_eq_false (by omega)]
    · rw [decide_eq_false hx, if_neg hx, Bool.false_and, Bool.or_false]
theorem topM_le {R : List Sct} {s m : Int} (hm : 0 ≤ m) : ∀ k, (∀ j, j < k → (R.getD j noT).z ≤ m) → 0 ≤ topM R k s ∧ topM R k s ≤ m
  | 0, _ => by unfold topM; omega
  | k + 1, h => by
    have := topM_le hm k (s := s) (fun j hj => h j (by omega))
    have := h k (by omega)
    rw [topM]; split <;> omega
def isLate (R : List Sct) (i : Nat) : Bool := anyM R i (R.getD i noT).x (R.getD i noT).z
/-- The indices of late frames among the first k. -/
def lateL (R : List Sct) (k : Nat) : List Int := ((List.range k).filter (isLate R)).map (fun j : Nat => (j : Int))
theorem lateL_succ (R : List Sct) (k : Nat) : lateL R (k + 1) = if isLate R k = true then lateL R k ++ [(k : Int)] else lateL R k := by
  unfold lateL
  rw [List.range_succ, List.filter_append, List.map_append]
  cases h : isLate R k
  · simp [h]
  · simp [h]
theorem lateL_len (R : List Sct) (k : Nat) : (lateL R k).length ≤ k := by
  unfold lateL
  rw [List.length_map]
  exact Nat.le_trans (List.length_filter_le _ _) (by simp)
theorem lateL_lt {R : List Sct} {k j : Nat} (hj : j < (lateL R k).length) : (lateL R k).getD j 0 < (k : Int) := by
  have hm : (lateL R k).getD j 0 ∈ lateL R k := by
    rw [List.getD_eq_getElem?_getD, List.getElem?_eq_getElem hj]; exact List.getElem_mem hj
  unfold lateL at hm
  rw [List.mem_map] at hm
  obtain ⟨a, ha, he⟩ := hm
  have := List.mem_range.1 (List.mem_filter.1 ha).1
  unfold lateL at *
  omega
theorem putK_all {X : List Int} {y : Int} : ∀ k, k ≤ X.length → (∀ j, j < k → X.getD j 0 < y) → putK X y k = (X.take k, false)
  | 0, _, _ => by simp [putK]
  | k + 1, hk, h => by
    rw [putK_lt (putK_all k (by omega) (fun j hj => h j (by omega))) (h k (by omega)), take_succ_getD X 0 k (by omega)]
theorem putL_end {X : List Int} {y : Int} (h : ∀ j, j < X.length → X.getD j 0 < y) : putL X y = X ++ [y] := by
  unfold putL; rw [putK_all _ (Nat.le_refl _) h, if_neg (by simp), List.take_of_length_le (Nat.le_refl _)]
theorem putL_again {X : List Int} {y : Int} (h : ∀ j, j < X.length → X.getD j 0 < y) : putL (X ++ [y]) y = X ++ [y] := by
  have h1 : ∀ j, j < X.length → (X ++ [y]).getD j 0 < y := fun j hj => by
    rw [List.getD_eq_getElem?_getD, List.getElem?_append_left hj, ← List.getD_eq_getElem?_getD]; exact h j hj
  have h2 := putK_all (X := X ++ [y]) (y := y) X.length (by simp) h1
  have h3 : (X ++ [y]).getD X.length 0 = y := by simp
  have h4 := putK_eq h2 h3
  rw [h3, List.take_left] at h4
  unfold putL
  rw [show (X ++ [y]).length = X.length + 1 by simp, h4, if_pos rfl]
/-- What stands in the list while the first k frames are held against the i-th. -/
def midL (R : List Sct) (i k : Nat) : List Int := if anyM R k (R.getD i noT).x (R.getD i noT).z = true then lateL R i ++ [(i : Int)] else lateL R i
theorem midL_zero (R : List Sct) (i : Nat) : midL R i 0 = lateL R i := by unfold midL; simp [anyM]
theorem midL_end (R : List Sct) (i : Nat) : midL R i i = lateL R (i + 1) := by rw [lateL_succ]; rfl
theorem midL_len (R : List Sct) (i k : Nat) : (midL R i k).length ≤ i + 1 := by
  have := lateL_len R i
  unfold midL; split
  · simp; omega
  · omega
theorem midL_no {R : List Sct} {i k : Nat} (h : (decide ((R.getD k noT).x = (R.getD i noT).x) && decide ((R.getD i noT).z < (R.getD k noT).z)) = false) : midL R i (k + 1) = midL R i k := by
  unfold midL; rw [anyM_succ, h, Bool.or_false]
theorem midL_yes {R : List Sct} {i k : Nat} (h : (decide ((R.getD k noT).x = (R.getD i noT).x) && decide ((R.getD i noT).z < (R.getD k noT).z)) = true) : putL (midL R i k) (i : Int) = midL R i (k + 1) := by
  unfold midL; rw [anyM_succ, h, Bool.or_true, if_pos rfl]
  split
  · exact putL_again (fun j hj => lateL_lt hj)
  · exact putL_end (fun j hj => lateL_lt hj)
set_option maxRecDepth 20000 in
set_option maxHeartbeats 4000000 in
theorem c_spec_LateFrames {w : World} {B n c : Nat} {A : Option Addr} {R : List Sct} (h : RdM w B A n R) (hB : B ≤ w.heap.size) (hn : n ≤ 1048576) (hr : ∀ j, j < n → (R.getD j noT).v.length ≤ 1048576) :
    Calls Try.prog 25 #[.slice A n c] w fun e w' => RetI w e w' (areM R) (lateL R n) := by
  have cV := c_l07Are (c := c) h hn hr
  cases hV : areM R
  · rw [hV] at cV
    go_enter Try.func25, Try.ntmps25
    go_wp2_with (go_at_call 67; refine Calls.mono cV ?_; rintro e w1 ⟨rfl, n1, rfl⟩)
    go_ret2
    exact retI_no rfl (by repeat (first | assumption | exact Ext.refl _ | apply Ext.drewN | apply Ext.drew | apply Ext.alloc | (refine Ext.trans ?_ (by assumption)) | (refine Ext.set ?_ (by dsimp only; omega) _)))
  rw [hV] at cV
  have hl := h.len
  obtain ⟨hn12, _⟩ := areM_of hV
  go_enter Try.func25, Try.ntmps25
  go_wp2_with (go_at_call 67; refine Calls.mono cV ?_; rintro e w1 ⟨rfl, n1, rfl⟩)
  go_loopw [4, 13] (fun v y wr => ∃ (i n' c' : Nat) (A' : Option Addr), i ≤ n ∧ y = .int .i64 i ∧ v = .slice A' n' c' ∧ OwI wr w.heap.size wr.heap.size A' n' (lateL R i) ∧ Ext w wr) (fun _ y _ => n - (intOf y).toNat)
  case atStart => exact ⟨0, 0, 0, _, Nat.zero_le _, rfl, rfl, by rw [show lateL R 0 = [] from rfl]; exact OwI.nil _ _ _ _, (by repeat (first | assumption | exact Ext.refl _ | apply Ext.drewN | apply Ext.drew | apply Ext.alloc | (refine Ext.trans ?_ (by assumption)) | (refine Ext.set ?_ (by dsimp only; omega) _)))⟩
  case round =>
    obtain ⟨i, n', c', A', hi, rfl, rfl, hown, hx⟩ := hrel
    by_cases hlt : i < n
    · have hlt' : (i : Int) < (n : Int) := by omega
      go_wp2_with (fail)
      go_loopw [4, 6] (fun v y wq => ∃ (k n2 c2 : Nat) (A2 : Option Addr), k ≤ i ∧ y = .int .i64 k ∧ v = .slice A2 n2 c2 ∧ OwI wq w.heap.size wq.heap.size A2 n2 (midL R i k) ∧ Ext w wq) (fun _ y _ => i - (intOf y).toNat)
      case atStart => exact ⟨0, n', c', A', Nat.zero_le _, rfl, rfl, by rw [midL_zero]; exact hown, hx⟩
      case round =>
        obtain ⟨k, n2, c2, A2, hk, rfl, rfl, hown2, hx2⟩ := hrel
        by_cases hlt2 : k < i
        · have hlt2' : (k : Int) < (i : Int) := by omega
          have hkn : (k : Int) < (n : Int) := by omega
          have hq := h.below (hx2.mono hB)
          obtain ⟨b1, o1, A1, c1, hA1, _, ⟨f0, f1, _⟩, _, _⟩ := hq.cell (show k < n by omega)
          obtain ⟨b3, o3, A3, c3, hA3, _, ⟨g0, g1, _⟩, _, _⟩ := hq.cell hlt
          rw [hA1] at hA3
          simp only [Option.some.injEq, Addr.mk.injEq] at hA3
          obtain ⟨rfl, rfl, _⟩ := hA3
          have hml := midL_len R i k
          have h2l := hown2.len
          have hno := @midL_no R i k
          have hys := @midL_yes R i k
          obtain ⟨x1, hx1⟩ : ∃ x, (R.getD k noT).x = x := ⟨_, rfl⟩
          obtain ⟨z1, hz1⟩ : ∃ x, (R.getD k noT).z = x := ⟨_, rfl⟩
          obtain ⟨x3, hx3⟩ : ∃ x, (R.getD i noT).x = x := ⟨_, rfl⟩
          obtain ⟨z3, hz3⟩ : ∃ x, (R.getD i noT).z = x := ⟨_, rfl⟩
          rw [hx1] at f0
          rw [hz1] at f1
          rw [hx3] at g0
          rw [hz3] at g1
          rw [hx1, hx3, hz1, hz3] at hno hys
          have cP := fun (m : Nat) => c_l00Put (w := wr.drewN m) (y := (i : Int)) (c := c2) (hown2.same (w' := wr.drewN m) (fun _ _ _ => rfl)) (Nat.le_refl _) (by omega)
          clear hx1 hz1 hx3 hz3 hq
          subst hA1
          have CP := Lib.hid cP
          clear cP
          by_cases hs : x1 = x3
          · subst hs
            by_cases ht : z3 < z1
            · have hns := Lib.hid (hys (by rw [decide_eq_true rfl, decide_eq_true ht]; rfl))
              clear hno hys
              go_wp2_with (fail)
              go_quiet (fail)
              go_wp2_with (go_at_call 68; refine Calls.mono (CP.out _) ?_; rintro e w5 ⟨A5, n5, c5, rfl, ho5, hx5⟩)
              have hx6 : Ext w w5 := (hx2.drewN _).trans hx5
              exact ⟨⟨k + 1, n5, c5, A5, by omega, by go_num, rfl, by rw [← hns.out]; exact ho5.more hx2.size (Nat.le_refl _), hx6⟩, by simp [intOf]; omega⟩
            · have hns := Lib.hid (hno (by rw [decide_eq_true rfl, decide_eq_false ht]; rfl))
              clear hno hys
              go_wp2_with (fail)
              go_quiet (fail)
              go_wp2_with (fail)
              exact ⟨⟨k + 1, n2, c2, A2, by omega, by go_num, rfl, by rw [hns.out]; exact hown2.same (fun _ _ _ => rfl), hx2.drewN _⟩, by simp [intOf]; omega⟩
          · have hns := Lib.hid (hno (by rw [decide_eq_false hs]; rfl))
            have e1 : (x1 == x3) = false := by simp [hs]
            clear hno hys
            go_wp2_with (fail)
            go_quiet (fail)
            go_wp2_with (fail)
            exact ⟨⟨k + 1, n2, c2, A2, by omega, by go_num, rfl, by rw [hns.out]; exact hown2.same (fun _ _ _ => rfl), hx2.drewN _⟩, by simp [intOf]; omega⟩
        · obtain rfl : k = i := by omega
          rw [midL_end] at hown2
          go_wp2_with (fail)
          exact ⟨⟨k + 1, n2, c2, A2, by omega, by go_num, rfl, hown2, hx2⟩, by simp [intOf]; omega⟩
    · obtain rfl : i = n := by omega
      go_wp2_with (fail)
      go_ret2
      exact ⟨_, _, _, rfl, hown, hx⟩
end Go.Proofs.Ytfmhdnhaaohdjaa
