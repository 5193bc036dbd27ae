/- Frames in order: insertion from the right, the numbers of both sides. No condition.
In this text: Insertion from the right by swaps: a frame that wanders down a list. No condition. A row of frames of a call's own in which two neighbours are swapped. No condition. Steps of the walk through a head that makes memory: operations that are guarded by what is known to be so. No condition. Contract: frames are put in order by insertion, the program. Condition: the row is a call's own, of at most 12 frames. Frames as a row is made of them: each with the block that holds its list. No condition. -/
import Derived.Test.YtfmhdnhaaohdjaaQj
import Derived.Test.YtfmhdnhaaohdjaaMo2
import Derived.Test.YtfmhdnhaaohdjaaQf
import Derived.Test.YtfmhdnhaaohdjaaYc
import Derived.Test.YtfmhdnhaaohdjaaQt
namespace Go.Proofs.Ytfmhdnhaaohdjaa
open Go.RowKit Ieee
set_option linter.unusedVariables false
set_option linter.unusedSimpArgs false

/-- A frame stands behind another one. -/
def gtF (a b : Sct) : Bool := decide (b.x < a.x) || (decide (a.x = b.x) && decide (b.z < a.z))
/-- Where a frame is put, from place k down. -/
def posM (L : List Sct) (f : Sct) : Nat → Nat
  | 0 => 0
  | k + 1 => if gtF (L.getD k noT) f = true then posM L f k else k + 1
theorem posM_le (L : List Sct) (f : Sct) : ∀ k, posM L f k ≤ k
  | 0 => Nat.le_refl _
  | k + 1 => by
    have := posM_le L f k
    rw [posM]; split
    · omega
    · exact Nat.le_refl _
theorem posM_go {L : List Sct} {f : Sct} {k : Nat} (h : gtF (L.getD k noT) f = true) : posM L f (k + 1) = posM L f k := by rw [posM, if_pos h]
theorem posM_stay {L : List Sct} {f : Sct} {k : Nat} (h : gtF (L.getD k noT) f = false) : posM L f (k + 1) = k + 1 := by rw [posM, if_neg (by rw [h]; decide)]
def insM (L : List Sct) (f : Sct) : List Sct := L.take (posM L f L.length) ++ f :: L.drop (posM L f L.length)
/-- The first k frames in order. -/
def sortM (R : List Sct) : Nat → List Sct
  | 0 => []
  | k + 1 => insM (sortM R k) (R.getD k noT)
theorem totM_append (L M : List Sct) : totM (L ++ M) = totM L + totM M := by
  induction L with
  | nil => simp [totM]
  | cons a L ih => simp only [List.cons_append, totM, ih]; omega
theorem insM_len (L : List Sct) (f : Sct) : (insM L f).length = L.length + 1 := by
  have := posM_le L f L.length
  unfold insM
  simp only [List.length_append, List.length_cons, List.length_take, List.length_drop]
  omega
theorem insM_tot (L : List Sct) (f : Sct) : totM (insM L f) = totM L + f.v.length := by
  unfold insM
  rw [totM_append]
  show _ + (f.v.length + totM (L.drop _)) = _
  have h := totM_append (L.take (posM L f L.length)) (L.drop (posM L f L.length))
  rw [List.take_append_drop] at h
  omega
theorem insM_mem (L : List Sct) (f : Sct) (x : Sct) : x ∈ insM L f ↔ x ∈ L ∨ x = f := by
  unfold insM
  have h : x ∈ L ↔ x ∈ L.take (posM L f L.length) ∨ x ∈ L.drop (posM L f L.length) := by
    rw [← List.mem_append, List.take_append_drop]
  rw [List.mem_append, List.mem_cons, h]
  constructor
  · rintro (h1 | h1 | h1)
    · exact .inl (.inl h1)
    · exact .inr h1
    · exact .inl (.inr h1)
  · rintro ((h1 | h1) | h1)
    · exact .inl h1
    · exact .inr (.inr h1)
    · exact .inr (.inl h1)
theorem sortM_len (R : List Sct) : ∀ k, (sortM R k).length = k
  | 0 => rfl
  | k + 1 => by rw [sortM, insM_len, sortM_len R k]
theorem sortM_tot (R : List Sct) : ∀ k, k ≤ R.length → totM (sortM R k) = totM (R.take k)
  | 0, _ => by simp [sortM, totM]
  | k + 1, h => by rw [sortM, insM_tot, sortM_tot R k (by omega), totM_take_succ R k (by omega)]
theorem sortM_mem (R : List Sct) (x : Sct) : ∀ k, k ≤ R.length → (x ∈ sortM R k ↔ x ∈ R.take k)
  | 0, _ => by simp [sortM]
  | k + 1, h => by
    rw [sortM, insM_mem, sortM_mem R x k (by omega), take_succ_getD R noT k (by omega), List.mem_append, List.mem_singleton]
/-- How two numbers stand. -/
def cmpI (a b : Int) : Int := if a < b then -1 else if b < a then 1 else 0
def orI (a b : Int) : Int := if a ≠ 0 then a else b
/-- How two frames stand. -/
def cmpF (a b : Sct) : Int := orI (cmpI a.x b.x) (cmpI a.z b.z)
theorem cmpF_neg (a b : Sct) : decide (cmpF a b < 0) = gtF b a := by
  unfold cmpF orI cmpI gtF
  by_cases h1 : a.x < b.x
  · rw [if_pos h1, decide_eq_true h1]; simp
  · rw [if_neg h1, decide_eq_false h1, Bool.false_or]
    by_cases h2 : b.x < a.x
    · rw [if_pos h2, if_pos (by decide), decide_eq_false (by omega : ¬ b.x = a.x)]; simp
    · rw [if_neg h2, if_neg (by decide), decide_eq_true (by omega : b.x = a.x), Bool.true_and]
      by_cases h3 : a.z < b.z
      · rw [if_pos h3, decide_eq_true h3]; simp
      · rw [if_neg h3, decide_eq_false h3]
        by_cases h4 : b.z < a.z
        · rw [if_pos h4]; simp
        · rw [if_neg h4]; simp
set_option maxRecDepth 20000 in
set_option maxHeartbeats 400000 in
theorem c_isNaNI (a : Int) (w : World) : Calls Try.prog 99 #[.int .i64 a] w fun e w' => e = .returned (.bool false) ∧ w' = w := by
  go_enter Try.func99, Try.ntmps99
  go_wp2_with (fail)
  go_ret
  exact ⟨by simp, rfl⟩
set_option maxRecDepth 20000 in
set_option maxHeartbeats 1000000 in
theorem c_cmpI64 (a b : Int) (w : World) : Calls Try.prog 92 #[.int .i64 a, .int .i64 b] w fun e w' => e = .returned (.int .i64 (cmpI a b)) ∧ w' = w := by
  have cN := fun (x : Int) (W : World) => c_isNaNI x W
  rcases Int.lt_trichotomy a b with h | h | h
  · have e1 : cmpI a b = -1 := if_pos h
    rw [e1]
    go_enter Try.func92, Try.ntmps92
    go_wp2_with (go_at_call 99; refine Calls.mono (cN _ _) ?_; rintro e w1 ⟨rfl, rfl⟩)
    go_ret
    exact ⟨rfl, rfl⟩
  · subst h
    have e1 : cmpI a a = 0 := by unfold cmpI; rw [if_neg (Int.lt_irrefl _), if_neg (Int.lt_irrefl _)]
    rw [e1]
    go_enter Try.func92, Try.ntmps92
    go_wp2_with (go_at_call 99; refine Calls.mono (cN _ _) ?_; rintro e w1 ⟨rfl, rfl⟩)
    go_ret
    exact ⟨rfl, rfl⟩
  · have h2 : ¬ a < b := by omega
    have h3 : a > b := h
    have e1 : cmpI a b = 1 := by unfold cmpI; rw [if_neg h2, if_pos h]
    rw [e1]
    go_enter Try.func92, Try.ntmps92
    go_wp2_with (go_at_call 99; refine Calls.mono (cN _ _) ?_; rintro e w1 ⟨rfl, rfl⟩)
    go_ret
    exact ⟨rfl, rfl⟩
set_option maxRecDepth 20000 in
set_option maxHeartbeats 1000000 in
theorem c_cmpOr {w : World} {g : Nat} {a b : Int} (h0 : w.cell? ⟨g, 0, none⟩ = some (.int .i64 a)) (h1 : w.cell? ⟨g, 1, none⟩ = some (.int .i64 b)) :
    Calls Try.prog 91 #[.slice (some ⟨g, 0, none⟩) 2 2] w fun e w' => e = .returned (.int .i64 (orI a b)) ∧ w' = w := by
  go_enter Try.func91, Try.ntmps91
  go_wp2_with (fail)
  go_loopw [8] (fun i wr => ∃ k : Nat, k ≤ 2 ∧ i = .int .i64 k ∧ (1 ≤ k → a = 0) ∧ (2 ≤ k → b = 0) ∧ wr = w) (fun i _ => 2 - (intOf i).toNat)
  case atStart => exact ⟨0, by omega, rfl, by omega, by omega, rfl⟩
  case round =>
    obtain ⟨k, hk, rfl, ha, hb, rfl⟩ := hrel
    rcases (by omega : k = 0 ∨ k = 1 ∨ k = 2) with rfl | rfl | rfl
    · by_cases hz : a = 0
      · subst hz
        go_wp2_with (fail)
        exact ⟨⟨1, by omega, rfl, by simp, by omega, trivial⟩, by simp [intOf]⟩
      · have e1 : orI a b = a := if_pos hz
        go_wp2_with (fail)
        go_ret
        exact ⟨by rw [e1]; rfl, rfl⟩
    · have hz := ha (by omega)
      subst hz
      by_cases hy : b = 0
      · subst hy
        go_wp2_with (fail)
        exact ⟨⟨2, by omega, rfl, by simp, by simp, trivial⟩, by simp [intOf]⟩
      · have e1 : orI 0 b = b := if_neg (by simp)
        go_wp2_with (fail)
        go_ret
        exact ⟨by first | rfl | (rw [e1]; rfl), rfl⟩
    · have hz := ha (by omega)
      have hy := hb (by omega)
      subst hz
      subst hy
      go_wp2_with (fail)
      go_ret
      exact ⟨rfl, rfl⟩
set_option maxRecDepth 20000 in
set_option maxHeartbeats 4000000 in
theorem c_compareFrames {w : World} {B : Nat} {u u' : Value} {S U : Sct} (h : RdT w B u S) (h' : RdT w B u' U) :
    Calls Try.prog 75 #[u, u'] w fun e w' => e = .returned (.int .i64 (cmpF S U)) ∧ Ext w w' := by
  obtain ⟨A, c, rfl, _, _⟩ := h.ex
  obtain ⟨A', c', rfl, _, _⟩ := h'.ex
  clear h h'
  obtain ⟨x, z, L⟩ := S
  obtain ⟨x', z', L'⟩ := U
  unfold cmpF
  dsimp only
  obtain ⟨W1, hW1⟩ : ∃ W1, W1 = (w.alloc (.cells #[.int .i64 x, .int .i64 z, .slice A L.length c] 27)).alloc (.cells #[.int .i64 x', .int .i64 z', .slice A' L'.length c'] 27) := ⟨_, rfl⟩
  have hx1 : Ext w W1 := by rw [hW1]; exact (by repeat (first | assumption | exact Ext.refl _ | apply Ext.drewN | apply Ext.drew | apply Ext.alloc | (refine Ext.trans ?_ (by assumption)) | (refine Ext.set ?_ (by dsimp only; omega) _)))
  have hb1 : SbAt W1 w.heap.size x z A L.length c := by rw [hW1]; exact (SbAt.blk (T := 27) (heap_alloc_new w _)).ext (Ext.alloc (Ext.refl _) _)
  have hb2 : SbAt W1 (w.heap.size + 1) x' z' A' L'.length c' := by rw [hW1]; exact SbAt.blk (T := 27) (al_at (al_size _ _).symm rfl)
  obtain ⟨p0, p1, _, hl1⟩ := hb1
  obtain ⟨r0, r1, _, hl2⟩ := hb2
  go_enter Try.func75, Try.ntmps75
  go_wp2_with (fail)
  rw [← hW1]
  clear hW1
  refine wp_region_any (by kernel_rfl) ?_
  refine wpAny_mo_go (md := .any) (R := Ext) (w := W1) [(0, 5), (1, 6), (2, 7), (3, 8), (4, 9), (5, 10), (6, 11), (7, 12), (8, 13), (9, 14), (10, 15), (11, 16), (12, 4)] [] (tl := []) (S := ?S1_) (by kernel_rfl) (by rfl) (by rfl) Ext.refl ext_tr (ext_drew1 _) ?hS1_ ?go1_
  case hS1_ => intro vs; simp only [putAll, Act.put, List.setIfInBounds_toArray, List.set_cons_zero, List.set_cons_succ]; rfl
  case go1_ =>
  refine mo_fix _ (by rfl) (by rfl) (by intro vs w1 hx_ hd; have q0 := (hx_.cell hl1).trans p0; have q1 := (hx_.cell hl1).trans p1; have q2 := (hx_.cell hl2).trans r0; have q3 := (hx_.cell hl2).trans r1; go_simp; first | done | rfl) ?_
  refine mo_fix _ (by rfl) (by rfl) (by intro vs w1 hx_ hd; have q0 := (hx_.cell hl1).trans p0; have q1 := (hx_.cell hl1).trans p1; have q2 := (hx_.cell hl2).trans r0; have q3 := (hx_.cell hl2).trans r1; have e0 := hd 0 (by kernel_rfl); simp (decide := true) only [factAt, if_true, if_false] at e0; simp only [e0]; go_simp; first | done | rfl) ?_
  refine mo_fix _ (by rfl) (by rfl) (by intro vs w1 hx_ hd; have q0 := (hx_.cell hl1).trans p0; have q1 := (hx_.cell hl1).trans p1; have q2 := (hx_.cell hl2).trans r0; have q3 := (hx_.cell hl2).trans r1; go_simp; first | done | rfl) ?_
  refine mo_fix _ (by rfl) (by rfl) (by intro vs w1 hx_ hd; have q0 := (hx_.cell hl1).trans p0; have q1 := (hx_.cell hl1).trans p1; have q2 := (hx_.cell hl2).trans r0; have q3 := (hx_.cell hl2).trans r1; have e2 := hd 2 (by kernel_rfl); simp (decide := true) only [factAt, if_true, if_false] at e2; simp only [e2]; go_simp; first | done | rfl) ?_
  refine mo_call (fun v w => v = .int .i64 (cmpI x x')) (by rfl) (by rfl) (by intro v wa wb h1 h2; exact h1) (by intro vs w9 hx_ hd; have e1 := hd 1 (by kernel_rfl); have e3 := hd 3 (by kernel_rfl); simp (decide := true) only [factAt, if_true, if_false] at e1 e3; simp only [e1, e3]; refine ⟨_, _, by go_simp; first | done | rfl | exact ⟨rfl, rfl⟩, ?_⟩; refine Calls.mono (c_cmpI64 _ _ _) ?_; rintro e w4 ⟨rfl, rfl⟩; exact ⟨_, rfl, rfl, Ext.refl _⟩) ?_
  refine mo_fix _ (by rfl) (by rfl) (by intro vs w1 hx_ hd; have q0 := (hx_.cell hl1).trans p0; have q1 := (hx_.cell hl1).trans p1; have q2 := (hx_.cell hl2).trans r0; have q3 := (hx_.cell hl2).trans r1; go_simp; first | done | rfl) ?_
  refine mo_fix _ (by rfl) (by rfl) (by intro vs w1 hx_ hd; have q0 := (hx_.cell hl1).trans p0; have q1 := (hx_.cell hl1).trans p1; have q2 := (hx_.cell hl2).trans r0; have q3 := (hx_.cell hl2).trans r1; have e5 := hd 5 (by kernel_rfl); simp (decide := true) only [factAt, if_true, if_false] at e5; simp only [e5]; go_simp; first | done | rfl) ?_
  refine mo_fix _ (by rfl) (by rfl) (by intro vs w1 hx_ hd; have q0 := (hx_.cell hl1).trans p0; have q1 := (hx_.cell hl1).trans p1; have q2 := (hx_.cell hl2).trans r0; have q3 := (hx_.cell hl2).trans r1; go_simp; first | done | rfl) ?_
  refine mo_fix _ (by rfl) (by rfl) (by intro vs w1 hx_ hd; have q0 := (hx_.cell hl1).trans p0; have q1 := (hx_.cell hl1).trans p1; have q2 := (hx_.cell hl2).trans r0; have q3 := (hx_.cell hl2).trans r1; have e7 := hd 7 (by kernel_rfl); simp (decide := true) only [factAt, if_true, if_false] at e7; simp only [e7]; go_simp; first | done | rfl) ?_
  refine mo_call (fun v w => v = .int .i64 (cmpI z z')) (by rfl) (by rfl) (by intro v wa wb h1 h2; exact h1) (by intro vs w9 hx_ hd; have e6 := hd 6 (by kernel_rfl); have e8 := hd 8 (by kernel_rfl); simp (decide := true) only [factAt, if_true, if_false] at e6 e8; simp only [e6, e8]; refine ⟨_, _, by go_simp; first | done | rfl | exact ⟨rfl, rfl⟩, ?_⟩; refine Calls.mono (c_cmpI64 _ _ _) ?_; rintro e w4 ⟨rfl, rfl⟩; exact ⟨_, rfl, rfl, Ext.refl _⟩) ?_
  refine mo_make (fun a => .slice (some a) 2 2) (.cells #[.int .i64 (cmpI x x'), .int .i64 (cmpI z z')] 3) (by rfl) (by rfl) (by intro vs w1 hx_ hd; have q0 := (hx_.cell hl1).trans p0; have q1 := (hx_.cell hl1).trans p1; have q2 := (hx_.cell hl2).trans r0; have q3 := (hx_.cell hl2).trans r1; have e4 := hd 4 (by kernel_rfl); have e9 := hd 9 (by kernel_rfl); simp (decide := true) only [factAt, if_true, if_false] at e4 e9; simp only [e4, e9]; go_simp; first | done | rfl) ?_
  refine mo_call (fun v w => v = .int .i64 (orI (cmpI x x') (cmpI z z'))) (by rfl) (by rfl) (by intro v wa wb h1 h2; exact h1) (by intro vs w9 hx_ hd; have e10 := hd 10 (by kernel_rfl); simp (decide := true) only [factAt, if_true, if_false] at e10; obtain ⟨g, e10, hg, hbg⟩ := e10; simp only [e10]; refine ⟨_, _, by go_simp; first | done | rfl | exact ⟨rfl, rfl⟩, ?_⟩; refine Calls.mono (c_cmpOr (g := g) (a := cmpI x x') (b := cmpI z z') (by rw [cell_of_row w9 g _ _ _ (0, 0) hbg]; rfl) (by rw [cell_of_row w9 g _ _ _ (0, 0) hbg]; rfl)) ?_; rintro e w4 ⟨rfl, rfl⟩; exact ⟨_, rfl, rfl, Ext.refl _⟩) ?_
  refine mo_of (fun us => us 11) (by rfl) (by rfl) (by intro us vs w1 hu hx_ hd; have q0 := (hx_.cell hl1).trans p0; have q1 := (hx_.cell hl1).trans p1; have q2 := (hx_.cell hl2).trans r0; have q3 := (hx_.cell hl2).trans r1; have e11 := hd 11 (by kernel_rfl); simp (decide := true) only [factAt, if_true, if_false] at e11; rw [hu 11 (by kernel_rfl)]; rw [e11]; go_simp; first | done | rfl) ?_
  refine mo_end ?_
  intro vs w2 hx2 hd
  have e11 := hd 11 (by kernel_rfl)
  obtain ⟨us, hu, e12⟩ := seen_got (hd 12 (by kernel_rfl))
  simp (decide := true) only [factAt, if_true, if_false] at e11 e12
  rw [hu 11 (by kernel_rfl), e11] at e12
  generalize vs 12 = v12 at e12 ⊢
  subst e12
  go_wp2_with (fail)
  go_ret
  exact ⟨rfl, hx1.trans hx2⟩
end Go.Proofs.Ytfmhdnhaaohdjaa
namespace Go.Proofs.Ytfmhdnhaaohdjaa
open Go.RowKit Ieee
set_option linter.unusedVariables false
set_option linter.unusedSimpArgs false

/-- The frame f stands at place j among those of L; others stand behind them all. -/
def atM (L : List Sct) (f : Sct) (j : Nat) (T : List Sct) : List Sct := L.take j ++ f :: (L.drop j ++ T)
theorem atM_len (L : List Sct) (f : Sct) {j : Nat} (T : List Sct) (h : j ≤ L.length) : (atM L f j T).length = L.length + 1 + T.length := by
  unfold atM
  simp only [List.length_append, List.length_cons, List.length_take, List.length_drop]
  omega
theorem atM_at {L : List Sct} {f : Sct} {j : Nat} {T : List Sct} (h : j ≤ L.length) : (atM L f j T).getD j noT = f := by
  unfold atM
  rw [List.getD_eq_getElem?_getD, List.getElem?_append_right (by simp; omega)]
  have e : j - (L.take j).length = 0 := by simp; omega
  rw [e]; rfl
/-- Both sides of a place. -/
theorem atM_two {L : List Sct} {f : Sct} {j : Nat} {T : List Sct} (h : j < L.length) :
    atM L f (j + 1) T = L.take j ++ L.getD j noT :: f :: (L.drop (j + 1) ++ T) ∧ atM L f j T = L.take j ++ f :: L.getD j noT :: (L.drop (j + 1) ++ T) := by
  have e1 := take_succ_getD L noT j h
  have e2 : L.drop j = L.getD j noT :: L.drop (j + 1) := by
    rw [List.drop_eq_getElem_cons h, List.getD_eq_getElem?_getD, List.getElem?_eq_getElem h]; rfl
  unfold atM
  rw [e1, e2]
  simp
theorem atM_low {L : List Sct} {f : Sct} {j : Nat} {T : List Sct} (h : j < L.length) : (atM L f (j + 1) T).getD j noT = L.getD j noT := by
  rw [(atM_two h).1, List.getD_eq_getElem?_getD, List.getElem?_append_right (by simp; omega)]
  have e : j - (L.take j).length = 0 := by simp; omega
  rw [e]; rfl
/-- A swap of two neighbours. -/
theorem atM_swap {L : List Sct} {f : Sct} {j : Nat} {T : List Sct} (h : j < L.length) : ((atM L f (j + 1) T).set (j + 1) (L.getD j noT)).set j f = atM L f j T := by
  rw [(atM_two h).1, (atM_two h).2]
  have hl : (L.take j).length = j := by simp; omega
  generalize L.take j = P at *
  subst hl
  simp [List.set_append]
/-- The list before the frame k is put, and after it. -/
theorem atM_start {R : List Sct} {k : Nat} (h : k < R.length) : sortM R k ++ R.drop k = atM (sortM R k) (R.getD k noT) k (R.drop (k + 1)) := by
  have hl := sortM_len R k
  unfold atM
  have e1 : (sortM R k).take k = sortM R k := List.take_of_length_le (by omega)
  have e2 : (sortM R k).drop k = [] := List.drop_of_length_le (by omega)
  rw [e1, e2, List.nil_append]
  rw [List.drop_eq_getElem_cons h, List.getD_eq_getElem?_getD, List.getElem?_eq_getElem h]; rfl
theorem atM_end {R : List Sct} {k : Nat} (h : k < R.length) : atM (sortM R k) (R.getD k noT) (posM (sortM R k) (R.getD k noT) k) (R.drop (k + 1)) = sortM R (k + 1) ++ R.drop (k + 1) := by
  have hl := sortM_len R k
  show _ = insM (sortM R k) (R.getD k noT) ++ _
  unfold insM atM
  rw [hl]
  simp
end Go.Proofs.Ytfmhdnhaaohdjaa
namespace Go.Proofs.Ytfmhdnhaaohdjaa
open Go.RowKit Go.ChangeShapes Go.WideShapes Go.Deep Ieee
set_option linter.unusedVariables false
set_option linter.unusedSimpArgs false

/-- The block g holds the frames R, each list in a block of its own. -/
def RowS (w : World) (lo hi g : Nat) (R : List Sct) : Prop :=
  ∃ (f : Nat → Nat) (cs : Array Value) (t : TypeId), w.heap[g]? = some (.cells cs t (0, 0)) ∧ R.length * 3 ≤ cs.size ∧
    (∀ j, j < R.length → ∃ A' c', F3 cs (j * 3) (R.getD j noT).x (R.getD j noT).z A' (R.getD j noT).v.length c' ∧ OwL w (f j) (f j + 1) A' (R.getD j noT).v.length (R.getD j noT).v ∧ (R.getD j noT).v.length ≤ c' ∧ f j ≠ g ∧ lo ≤ f j ∧ f j < hi) ∧
    ∀ i j, i < j → j < R.length → f i ≠ f j
theorem RowS.own {w : World} {lo hi g : Nat} {R : List Sct} (h : RowS w lo hi g R) (h1 : lo ≤ g) (h2 : g < hi) : OwM w lo hi (some ⟨g, 0, none⟩) R.length R := by
  obtain ⟨f, cs, t, hg, hs, hc, hi⟩ := h
  exact ⟨rfl, .inr ⟨g, f, cs, t, rfl, hg, hs, h1, h2, hc, hi⟩⟩
theorem RowS.same {w w' : World} {lo hi g : Nat} {R : List Sct} (h : RowS w lo hi g R) (hs : Same lo hi w w') (hg : w'.heap[g]? = w.heap[g]?) : RowS w' lo hi g R := by
  obtain ⟨f, cs, t, hgg, hz, hc, hi⟩ := h
  refine ⟨f, cs, t, hg.trans hgg, hz, fun j hj => ?_, hi⟩
  obtain ⟨A', c', e1, e2, e3, e4, e5, e6⟩ := hc j hj
  exact ⟨A', c', e1, e2.same (fun k h7 h8 => by have : k = f j := by omega
                                                rw [this]; exact hs _ e5 e6), e3, e4, e5, e6⟩
theorem getD_set2 {L : List Sct} {j : Nat} {a b : Sct} (h : j + 1 < L.length) (i : Nat) : ((L.set (j + 1) a).set j b).getD i noT = if i = j then b else if i = j + 1 then a else L.getD i noT := by
  rw [List.getD_eq_getElem?_getD, List.getElem?_set]
  by_cases h1 : j = i
  · subst h1
    rw [if_pos rfl, if_pos (by simp; omega), if_pos rfl]; rfl
  · rw [if_neg h1, if_neg (fun e => h1 e.symm), List.getElem?_set]
    by_cases h2 : j + 1 = i
    · subst h2
      rw [if_pos rfl, if_pos h, if_pos rfl]; rfl
    · rw [if_neg h2, if_neg (fun e => h2 e.symm), List.getD_eq_getElem?_getD]
/-- Two neighbours: what stands there, and the row when they are swapped. -/
theorem RowS.two {w : World} {lo hi g j : Nat} {R : List Sct} (h : RowS w lo hi g R) (hj : j + 1 < R.length) :
    ∃ (A1 A2 : Option Addr) (c1 c2 : Nat), FAt w g (j * 3) (R.getD j noT).x (R.getD j noT).z A1 (R.getD j noT).v.length c1 ∧ FAt w g ((j + 1) * 3) (R.getD (j + 1) noT).x (R.getD (j + 1) noT).z A2 (R.getD (j + 1) noT).v.length c2 ∧
      RdT w hi (.agg #[.int .i64 (R.getD j noT).x, .int .i64 (R.getD j noT).z, .slice A1 (R.getD j noT).v.length c1]) (R.getD j noT) ∧ RdT w hi (.agg #[.int .i64 (R.getD (j + 1) noT).x, .int .i64 (R.getD (j + 1) noT).z, .slice A2 (R.getD (j + 1) noT).v.length c2]) (R.getD (j + 1) noT) ∧
      RowS ((((((w.setCell ⟨g, (j + 1) * 3, none⟩ (.int .i64 (R.getD j noT).x)).setCell ⟨g, (j + 1) * 3 + 1, none⟩ (.int .i64 (R.getD j noT).z)).setCell ⟨g, (j + 1) * 3 + 2, none⟩ (.slice A1 (R.getD j noT).v.length c1)).setCell ⟨g, j * 3, none⟩ (.int .i64 (R.getD (j + 1) noT).x)).setCell ⟨g, j * 3 + 1, none⟩ (.int .i64 (R.getD (j + 1) noT).z)).setCell ⟨g, j * 3 + 2, none⟩ (.slice A2 (R.getD (j + 1) noT).v.length c2)) lo hi g ((R.set (j + 1) (R.getD j noT)).set j (R.getD (j + 1) noT)) := by
  obtain ⟨f, cs, t, hg, hs, hc, hin⟩ := h
  obtain ⟨A1, c1, e1, e2, e3, e4, e5, e6⟩ := hc j (by omega)
  obtain ⟨A2, c2, d1, d2, d3, d4, d5, d6⟩ := hc (j + 1) hj
  refine ⟨A1, A2, c1, c2, e1.cells hg, d1.cells hg, ⟨A1, c1, rfl, e2.rd.more (by omega), e3⟩, ⟨A2, c2, rfl, d2.rd.more (by omega), d3⟩, ?_⟩
  have hput := blk_set1 (blk_set1 (blk_set1 (blk_set1 (blk_set1 (blk_set1 hg ((j + 1) * 3) (.int .i64 (R.getD j noT).x)) ((j + 1) * 3 + 1) (.int .i64 (R.getD j noT).z)) ((j + 1) * 3 + 2) (.slice A1 (R.getD j noT).v.length c1)) (j * 3) (.int .i64 (R.getD (j + 1) noT).x)) (j * 3 + 1) (.int .i64 (R.getD (j + 1) noT).z)) (j * 3 + 2) (.slice A2 (R.getD (j + 1) noT).v.length c2)
  have hkeep : ∀ {b n : Nat} {A : Option Addr} {L : List (Option Nat)}, b ≠ g → OwL w b (b + 1) A n L → OwL ((((((w.setCell ⟨g, (j + 1) * 3, none⟩ (.int .i64 (R.getD j noT).x)).setCell ⟨g, (j + 1) * 3 + 1, none⟩ (.int .i64 (R.getD j noT).z)).setCell ⟨g, (j + 1) * 3 + 2, none⟩ (.slice A1 (R.getD j noT).v.length c1)).setCell ⟨g, j * 3, none⟩ (.int .i64 (R.getD (j + 1) noT).x)).setCell ⟨g, j * 3 + 1, none⟩ (.int .i64 (R.getD (j + 1) noT).z)).setCell ⟨g, j * 3 + 2, none⟩ (.slice A2 (R.getD (j + 1) noT).v.length c2)) b (b + 1) A n L := fun hb ho => ho.same (fun k h1 h2 => by
    have hk : k ≠ g := by omega
    rw [Below.heap_setCell _ _ _ _ hk, Below.heap_setCell _ _ _ _ hk, Below.heap_setCell _ _ _ _ hk, Below.heap_setCell _ _ _ _ hk, Below.heap_setCell _ _ _ _ hk, Below.heap_setCell _ _ _ _ hk])
  refine ⟨fun i => if i = j then f (j + 1) else if i = j + 1 then f j else f i, put3 (put3 cs (j + 1) (.int .i64 (R.getD j noT).x) (.int .i64 (R.getD j noT).z) (.slice A1 (R.getD j noT).v.length c1)) j (.int .i64 (R.getD (j + 1) noT).x) (.int .i64 (R.getD (j + 1) noT).z) (.slice A2 (R.getD (j + 1) noT).v.length c2), t, hput, by rw [put3_size, put3_size]; simpa using hs, fun i hi => ?_, fun i k hik hk => ?_⟩
  · have hir : i < R.length := by simpa using hi
    rw [getD_set2 hj]
    by_cases h1 : i = j
    · subst h1
      simp only [if_true]
      exact ⟨A2, c2, put3_at _ i (by rw [put3_size]; omega), hkeep d4 d2, d3, d4, d5, d6⟩
    · by_cases h2 : i = j + 1
      · subst h2
        simp only [h1, if_false, if_true]
        exact ⟨A1, c1, (put3_at cs (j + 1) (by omega)).other h1 _ _ _, hkeep e4 e2, e3, e4, e5, e6⟩
      · simp only [h1, h2, if_false]
        obtain ⟨A3, c3, g1, g2, g3, g4, g5, g6⟩ := hc i hir
        exact ⟨A3, c3, (g1.other h2 _ _ _).other h1 _ _ _, hkeep g4 g2, g3, g4, g5, g6⟩
  · have hkr : k < R.length := by simpa using hk
    have hne : ∀ a b, a < R.length → b < R.length → a ≠ b → f a ≠ f b := fun a b ha hb hab => by
      rcases Nat.lt_or_gt_of_ne hab with h | h
      · exact hin a b h hb
      · exact (hin b a h ha).symm
    have key : ∀ i, ∃ i', (if i = j then f (j + 1) else if i = j + 1 then f j else f i) = f i' ∧ i' = if i = j then j + 1 else if i = j + 1 then j else i := fun i => by
      refine ⟨_, ?_, rfl⟩
      split
      · rfl
      · split <;> rfl
    obtain ⟨a, ha1, ha2⟩ := key i
    obtain ⟨b, hb1, hb2⟩ := key k
    show (if i = j then f (j + 1) else if i = j + 1 then f j else f i) ≠ (if k = j then f (j + 1) else if k = j + 1 then f j else f k)
    rw [ha1, hb1]
    refine hne a b ?_ ?_ ?_
    · rw [ha2]; split
      · omega
      · split <;> omega
    · rw [hb2]; split
      · omega
      · split <;> omega
    · rw [ha2, hb2]
      split <;> split <;> (try split) <;> (try split) <;> omega
end Go.Proofs.Ytfmhdnhaaohdjaa
namespace Go.Proofs.Ytfmhdnhaaohdjaa
open Go.RowKit Ieee

section
variable {P : Program} {ops : Array Oper} {w0 : World} {S : (Nat → Value) → Act} {fin : List (Nat × Fact) → Prop} {j : Nat} {d : Tmp} {rest : List (Nat × Tmp)} {Fs : List (Nat × Fact)}

theorem mo_anyK {o : Oper} (F : Fact) (k : Nat) (b : Bool) (ho : ops[j]? = some o) (hg : o.guard = some (k, b)) (ha : anc .any ops 3 j k = true) (hk : ∀ us v w, factAt Fs k us v w → v = .bool b) (hy : ∀ vs, ((ops[k]?).bind (·.dst)).bind ((S vs).tmps[·]?) = some (vs k)) (hF : ∀ us v w w', F us v w → Ext w w' → F us v w') (h : ∀ vs w', Ext w0 w' → Deps ops Fs j vs w' → moAt P Ext o (S vs) (F (seen .any ops j vs)) w')
    (hrest : MoGo P .any ops Ext w0 S fin rest ((j, F) :: Fs)) : MoGo P .any ops Ext w0 S fin ((j, d) :: rest) Fs :=
  ⟨F, hF, fun o2 ho2 vs w' hw hd => by
    obtain rfl : o = o2 := Option.some.inj (ho.symm.trans ho2)
    have e1 := hk _ _ _ (hd k ha)
    have e2 : yielded ops (S vs).tmps k = some b := by unfold yielded; rw [hy vs, e1]
    exact .inl ⟨by simp [Region.wanted, hg, e2], h vs w' hw hd⟩, hrest⟩
/-- A value that is known ahead. -/
theorem mo_fixK {o : Oper} (v : Value) (k : Nat) (b : Bool) (ho : ops[j]? = some o) (hg : o.guard = some (k, b)) (ha : anc .any ops 3 j k = true) (hk : ∀ us v w, factAt Fs k us v w → v = .bool b) (hy : ∀ vs, ((ops[k]?).bind (·.dst)).bind ((S vs).tmps[·]?) = some (vs k)) (h : ∀ vs w', Ext w0 w' → Deps ops Fs j vs w' → (execOp (S vs).eval o).run P w' = .ok (.value v) w')
    (hrest : MoGo P .any ops Ext w0 S fin rest ((j, fun _ u _ => u = v) :: Fs)) : MoGo P .any ops Ext w0 S fin ((j, d) :: rest) Fs :=
  mo_anyK _ k b ho hg ha hk hy (fun _ _ _ _ h _ => h) (fun vs w' hw hd => by unfold moAt; rw [h vs w' hw hd]; exact ⟨rfl, Ext.refl _⟩) hrest
/-- A call, by its contract. -/
theorem mo_callK {o : Oper} (F : Value → World → Prop) (k : Nat) (b : Bool) (ho : ops[j]? = some o) (hg : o.guard = some (k, b)) (ha : anc .any ops 3 j k = true) (hk : ∀ us v w, factAt Fs k us v w → v = .bool b) (hy : ∀ vs, ((ops[k]?).bind (·.dst)).bind ((S vs).tmps[·]?) = some (vs k)) (hF : ∀ v w w', F v w → Ext w w' → F v w')
    (h : ∀ vs w', Ext w0 w' → Deps ops Fs j vs w' → ∃ f args, (execOp (S vs).eval o).run P w' = .ok (.enter f args) w' ∧ Calls P f args w' fun e w'' => ∃ u, e = .returned u ∧ F u w'' ∧ Ext w' w'')
    (hrest : MoGo P .any ops Ext w0 S fin rest ((j, fun _ u w => F u w) :: Fs)) : MoGo P .any ops Ext w0 S fin ((j, d) :: rest) Fs :=
  mo_anyK _ k b ho hg ha hk hy (fun _ v w w' h hx => hF v w w' h hx) (fun vs w' hw hd => by
    obtain ⟨f, args, h1, h2⟩ := h vs w' hw hd
    unfold moAt
    rw [h1]
    exact h2) hrest
end
end Go.Proofs.Ytfmhdnhaaohdjaa
namespace Go.Proofs.Ytfmhdnhaaohdjaa
open Go.RowKit Go.ChangeShapes Go.WideShapes Go.Deep Ieee
set_option linter.unusedVariables false
set_option linter.unusedSimpArgs false
attribute [local irreducible] wpQuiet

theorem FAt.ext {w w' : World} {b o n c : Nat} {x z : Int} {A : Option Addr} (h : FAt w b o x z A n c) (hb : b < w.heap.size) (hx : Ext w w') : FAt w' b o x z A n c := h.keep (fun p hp => hx.cell (by rw [hp]; exact hb))
theorem Kb.drewQ {lo hi : Nat} {a b : World} (h : Kb lo hi a b) : Kb lo hi a b.drew := ⟨⟨h.below.os, h.below.tape, h.below.output, h.below.size, h.below.block⟩, h.above⟩
theorem RowS.drew {w : World} {lo hi g : Nat} {R : List Sct} (h : RowS w lo hi g R) : RowS w.drew lo hi g R := h.same (fun _ _ _ => rfl) rfl
set_option maxRecDepth 20000 in
set_option maxHeartbeats 4000000 in
theorem c_insSort {w : World} {lo hi g n c : Nat} {R : List Sct} (h : RowS w lo hi g R) (hl : R.length = n) (hg1 : lo ≤ g) (hg2 : g < hi) (hhi : hi ≤ w.heap.size) (hn : n ≤ 12) (hpos : 0 < n) :
    Calls Try.prog 97 #[.slice (some ⟨g, 0, none⟩) n c, .int .i64 0, .int .i64 (n : Int), .func (.func 75) #[] #[]] w fun e w' => e = .returned (.tuple #[]) ∧ RowS w' lo hi g (sortM R n) ∧ Kb lo hi w w' := by
  have h1 : R = sortM R 1 ++ R.drop 1 := by
    have e := atM_start (R := R) (k := 0) (by omega)
    have e2 := atM_end (R := R) (k := 0) (by omega)
    rw [show sortM R 0 = [] from rfl, List.nil_append, List.drop_zero] at e
    rw [← e2]
    exact e
  rw [h1] at h
  go_enter Try.func97, Try.ntmps97
  go_wp2_with (fail)
  go_loopw [8] (fun y wr => ∃ k : Nat, 1 ≤ k ∧ k ≤ n ∧ y = .int .i64 k ∧ RowS wr lo hi g (sortM R k ++ R.drop k) ∧ Kb lo hi w wr) (fun y _ => n - (intOf y).toNat)
  case atStart => exact ⟨1, Nat.le_refl _, hpos, rfl, h, Kb.refl _ _ _⟩
  case round =>
    obtain ⟨k, hk1, hk2, rfl, hrow, hkb⟩ := hrel
    by_cases hlt : k < n
    · have hlt' : (k : Int) < (n : Int) := by omega
      have hkl : k < R.length := by omega
      rw [atM_start hkl] at hrow
      have hfin := atM_end hkl
      have hsl := sortM_len R k
      obtain ⟨F, hF⟩ : ∃ F, R.getD k noT = F := ⟨_, rfl⟩
      obtain ⟨L, hL⟩ : ∃ L, sortM R k = L := ⟨_, rfl⟩
      obtain ⟨T, hT⟩ : ∃ T, R.drop (k + 1) = T := ⟨_, rfl⟩
      have hTl : T.length = n - (k + 1) := by rw [← hT, List.length_drop, hl]
      rw [hF, hL, hT] at hrow hfin
      rw [hL] at hsl
      have HFIN := Lib.hid hfin
      have HT := Lib.hid hT
      clear hF hL hT hfin
      obtain ⟨wo, hwo⟩ : ∃ wo, wo = wr := ⟨_, rfl⟩
      subst hwo
      go_wp2_with (fail)
      go_loopw [9] (fun y wq => ∃ j : Nat, j ≤ k ∧ y = .int .i64 j ∧ posM L F k = posM L F j ∧ RowS wq lo hi g (atM L F j T) ∧ Kb lo hi w wq) (fun y _ => (intOf y).toNat)
      case atStart => exact ⟨k, Nat.le_refl _, rfl, rfl, hrow, hkb⟩
      case round =>
        obtain ⟨j, hj, rfl, hps, hrw, hkq⟩ := hrel
        have hall := atM_len L F (j := j) T (by omega)
        have hwsz := hkq.below.size
        have hgw : g < wr.heap.size := by omega
        cases j with
        | zero =>
          have hend := HFIN.out
          rw [hps, show posM L F 0 = 0 from rfl] at hend
          rw [hend] at hrw
          have HRW := Lib.hid hrw
          clear hend hps hall
          go_wp2_with (fail)
          go_quiet (fail)
          all_goals
            go_wp2_with (fail)
            exact ⟨⟨k + 1, by omega, by omega, by go_num, by rw [HT.out]; exact HRW.out.same (fun _ _ _ => rfl) rfl, hkq.trans (Ext.kb (Ext.drewN (Ext.refl _) _) (by omega))⟩, by simp [intOf]; omega⟩
        | succ j =>
          have hjl : j < L.length := by omega
          have hj2 : j + 1 < (atM L F (j + 1) T).length := by omega
          obtain ⟨A1, A2, c1, c2, f1, f2, r1, r2, _⟩ := hrw.two hj2
          rw [atM_low hjl] at f1 r1
          rw [atM_at (by omega)] at f2 r2
          have cC := fun (W : World) (hW : Ext wr W) => c_compareFrames (w := W) (r2.below (hW.mono (by omega : hi ≤ wr.heap.size))) (r1.below (hW.mono (by omega : hi ≤ wr.heap.size)))
          have hneg := cmpF_neg F (L.getD j noT)
          obtain ⟨S1, hS1⟩ : ∃ S1, L.getD j noT = S1 := ⟨_, rfl⟩
          have hgo := @posM_go L F j
          have hstay := @posM_stay L F j
          rw [hS1] at f1 r1 cC hneg hgo hstay
          obtain ⟨q, hq⟩ : ∃ q, cmpF F S1 = q := ⟨_, rfl⟩
          rw [hq] at hneg cC
          have CC := Lib.hid cC
          have HRW := Lib.hid hrw
          have HPS := Lib.hid hps
          have HS1 := Lib.hid hS1
          obtain ⟨f10, f11, f12⟩ := f1
          obtain ⟨f20, f21, f22⟩ := f2
          have hk1' : (0 : Int) < ((j + 1 : Nat) : Int) := by omega
          have hjn : j < n := by omega
          have hj1n : j + 1 < n := by omega
          have hw1 : IntKind.i64.wrap (j : Int) = (j : Int) := IntWalk.i64_in _ (by omega)
          have hw2 : IntKind.i64.wrap ((j : Int) + 1) = (j : Int) + 1 := IntWalk.i64_in _ (by omega)
          have i1 : (0 : Int) ≤ (j : Int) + 1 := by omega
          have i2 : (j : Int) + 1 < (n : Int) := by omega
          have i3 : (0 : Int) ≤ (j : Int) := by omega
          have i4 : (j : Int) < (n : Int) := by omega
          clear cC hrw hps hS1 hq r1 r2 hall
          cases hgt : gtF S1 F
          · rw [hgt] at hneg
            have hnl := of_decide_eq_false hneg
            have hp := hstay hgt
            clear hgo hstay hneg hgt
            go_wp2_with (fail)
            refine wp_region_any (by kernel_rfl) ?_
            refine wpAny_mo_go (md := .any) (R := Ext) (w := wr) [(0, 18), (1, 19), (2, 20), (3, 21), (4, 22), (5, 23), (6, 24), (7, 25), (8, 26), (9, 27), (10, 28), (11, 29), (12, 30), (13, 31), (14, 32), (15, 33)] [16] (tl := [_]) (S := ?S2_) (by kernel_rfl) (by rfl) (by rfl) Ext.refl ext_tr (ext_drew1 _) ?hS2_ ?go2_
            case hS2_ => intro vs; simp only [putAll, Act.put, List.setIfInBounds_toArray, List.set_cons_zero, List.set_cons_succ]; rfl
            case go2_ =>
            refine mo_fix _ (by rfl) (by rfl) (by intro vs w1 hx_ hd; have q0 := (hx_.cell hgw).trans f10; have q1 := (hx_.cell hgw).trans f11; have q2 := (hx_.cell hgw).trans f12; have q3 := (hx_.cell hgw).trans f20; have q4 := (hx_.cell hgw).trans f21; have q5 := (hx_.cell hgw).trans f22; go_simp; first | done | rfl) ?_
            refine mo_fix _ (by rfl) (by rfl) (by intro vs w1 hx_ hd; have q0 := (hx_.cell hgw).trans f10; have q1 := (hx_.cell hgw).trans f11; have q2 := (hx_.cell hgw).trans f12; have q3 := (hx_.cell hgw).trans f20; have q4 := (hx_.cell hgw).trans f21; have q5 := (hx_.cell hgw).trans f22; go_simp; first | done | rfl) ?_
            refine mo_fix _ (by rfl) (by rfl) (by intro vs w1 hx_ hd; have q0 := (hx_.cell hgw).trans f10; have q1 := (hx_.cell hgw).trans f11; have q2 := (hx_.cell hgw).trans f12; have q3 := (hx_.cell hgw).trans f20; have q4 := (hx_.cell hgw).trans f21; have q5 := (hx_.cell hgw).trans f22; have e0 := hd 0 (by kernel_rfl); have e1 := hd 1 (by kernel_rfl); simp (decide := true) only [factAt, if_true, if_false] at e0 e1; simp only [e0, e1]; go_simp; first | done | rfl) ?_
            refine mo_fix _ (by rfl) (by rfl) (by intro vs w1 hx_ hd; have q0 := (hx_.cell hgw).trans f10; have q1 := (hx_.cell hgw).trans f11; have q2 := (hx_.cell hgw).trans f12; have q3 := (hx_.cell hgw).trans f20; have q4 := (hx_.cell hgw).trans f21; have q5 := (hx_.cell hgw).trans f22; have e2 := hd 2 (by kernel_rfl); simp (decide := true) only [factAt, if_true, if_false] at e2; simp only [e2]; go_simp; first | done | rfl) ?_
            refine mo_fixK _ 3 true (by rfl) (by rfl) (by kernel_rfl) (fun _ _ _ h => h) (fun _ => rfl) (by intro vs w1 hx_ hd; have q0 := (hx_.cell hgw).trans f10; have q1 := (hx_.cell hgw).trans f11; have q2 := (hx_.cell hgw).trans f12; have q3 := (hx_.cell hgw).trans f20; have q4 := (hx_.cell hgw).trans f21; have q5 := (hx_.cell hgw).trans f22; go_simp; first | done | rfl) ?_
            refine mo_fixK _ 3 true (by rfl) (by rfl) (by kernel_rfl) (fun _ _ _ h => h) (fun _ => rfl) (by intro vs w1 hx_ hd; have q0 := (hx_.cell hgw).trans f10; have q1 := (hx_.cell hgw).trans f11; have q2 := (hx_.cell hgw).trans f12; have q3 := (hx_.cell hgw).trans f20; have q4 := (hx_.cell hgw).trans f21; have q5 := (hx_.cell hgw).trans f22; go_simp; first | done | rfl) ?_
            refine mo_fixK _ 3 true (by rfl) (by rfl) (by kernel_rfl) (fun _ _ _ h => h) (fun _ => rfl) (by intro vs w1 hx_ hd; have q0 := (hx_.cell hgw).trans f10; have q1 := (hx_.cell hgw).trans f11; have q2 := (hx_.cell hgw).trans f12; have q3 := (hx_.cell hgw).trans f20; have q4 := (hx_.cell hgw).trans f21; have q5 := (hx_.cell hgw).trans f22; go_simp; first | done | rfl) ?_
            refine mo_fixK _ 3 true (by rfl) (by rfl) (by kernel_rfl) (fun _ _ _ h => h) (fun _ => rfl) (by intro vs w1 hx_ hd; have q0 := (hx_.cell hgw).trans f10; have q1 := (hx_.cell hgw).trans f11; have q2 := (hx_.cell hgw).trans f12; have q3 := (hx_.cell hgw).trans f20; have q4 := (hx_.cell hgw).trans f21; have q5 := (hx_.cell hgw).trans f22; have e5 := hd 5 (by kernel_rfl); have e6 := hd 6 (by kernel_rfl); simp (decide := true) only [factAt, if_true, if_false] at e5 e6; simp only [e5, e6]; go_simp; first | done | rfl) ?_
            refine mo_fixK _ 3 true (by rfl) (by rfl) (by kernel_rfl) (fun _ _ _ h => h) (fun _ => rfl) (by intro vs w1 hx_ hd; have q0 := (hx_.cell hgw).trans f10; have q1 := (hx_.cell hgw).trans f11; have q2 := (hx_.cell hgw).trans f12; have q3 := (hx_.cell hgw).trans f20; have q4 := (hx_.cell hgw).trans f21; have q5 := (hx_.cell hgw).trans f22; have e7 := hd 7 (by kernel_rfl); simp (decide := true) only [factAt, if_true, if_false] at e7; simp only [e7]; go_simp; first | done | rfl) ?_
            refine mo_fixK _ 3 true (by rfl) (by rfl) (by kernel_rfl) (fun _ _ _ h => h) (fun _ => rfl) (by intro vs w1 hx_ hd; have q0 := (hx_.cell hgw).trans f10; have q1 := (hx_.cell hgw).trans f11; have q2 := (hx_.cell hgw).trans f12; have q3 := (hx_.cell hgw).trans f20; have q4 := (hx_.cell hgw).trans f21; have q5 := (hx_.cell hgw).trans f22; go_simp; first | done | rfl) ?_
            refine mo_fixK _ 3 true (by rfl) (by rfl) (by kernel_rfl) (fun _ _ _ h => h) (fun _ => rfl) (by intro vs w1 hx_ hd; have q0 := (hx_.cell hgw).trans f10; have q1 := (hx_.cell hgw).trans f11; have q2 := (hx_.cell hgw).trans f12; have q3 := (hx_.cell hgw).trans f20; have q4 := (hx_.cell hgw).trans f21; have q5 := (hx_.cell hgw).trans f22; go_simp; first | done | rfl) ?_
            refine mo_fixK _ 3 true (by rfl) (by rfl) (by kernel_rfl) (fun _ _ _ h => h) (fun _ => rfl) (by intro vs w1 hx_ hd; have q0 := (hx_.cell hgw).trans f10; have q1 := (hx_.cell hgw).trans f11; have q2 := (hx_.cell hgw).trans f12; have q3 := (hx_.cell hgw).trans f20; have q4 := (hx_.cell hgw).trans f21; have q5 := (hx_.cell hgw).trans f22; have e10 := hd 10 (by kernel_rfl); simp (decide := true) only [factAt, if_true, if_false] at e10; simp only [e10]; go_simp; first | done | rfl) ?_
            refine mo_fixK _ 3 true (by rfl) (by rfl) (by kernel_rfl) (fun _ _ _ h => h) (fun _ => rfl) (by intro vs w1 hx_ hd; have q0 := (hx_.cell hgw).trans f10; have q1 := (hx_.cell hgw).trans f11; have q2 := (hx_.cell hgw).trans f12; have q3 := (hx_.cell hgw).trans f20; have q4 := (hx_.cell hgw).trans f21; have q5 := (hx_.cell hgw).trans f22; have e9 := hd 9 (by kernel_rfl); have e11 := hd 11 (by kernel_rfl); simp (decide := true) only [factAt, if_true, if_false] at e9 e11; simp only [e9, e11]; go_simp; first | done | rfl) ?_
            refine mo_fixK _ 3 true (by rfl) (by rfl) (by kernel_rfl) (fun _ _ _ h => h) (fun _ => rfl) (by intro vs w1 hx_ hd; have q0 := (hx_.cell hgw).trans f10; have q1 := (hx_.cell hgw).trans f11; have q2 := (hx_.cell hgw).trans f12; have q3 := (hx_.cell hgw).trans f20; have q4 := (hx_.cell hgw).trans f21; have q5 := (hx_.cell hgw).trans f22; have e12 := hd 12 (by kernel_rfl); simp (decide := true) only [factAt, if_true, if_false] at e12; simp only [e12]; go_simp; first | done | rfl) ?_
            refine mo_callK (fun v w => v = .int .i64 q) 3 true (by rfl) (by rfl) (by kernel_rfl) (fun _ _ _ h => h) (fun _ => rfl) (by intro v wa wb h1 h2; exact h1) (by intro vs w9 hx_ hd; have e4 := hd 4 (by kernel_rfl); have e8 := hd 8 (by kernel_rfl); have e13 := hd 13 (by kernel_rfl); simp (decide := true) only [factAt, if_true, if_false] at e4 e8 e13; simp only [e4, e8, e13]; refine ⟨_, _, by go_simp; first | done | rfl | exact ⟨rfl, rfl⟩, ?_⟩; refine Calls.mono (CC.out _ hx_) ?_; rintro e w4 ⟨rfl, hx4⟩; exact ⟨_, rfl, rfl, hx4⟩) ?_
            refine mo_fixK _ 3 true (by rfl) (by rfl) (by kernel_rfl) (fun _ _ _ h => h) (fun _ => rfl) (by intro vs w1 hx_ hd; have q0 := (hx_.cell hgw).trans f10; have q1 := (hx_.cell hgw).trans f11; have q2 := (hx_.cell hgw).trans f12; have q3 := (hx_.cell hgw).trans f20; have q4 := (hx_.cell hgw).trans f21; have q5 := (hx_.cell hgw).trans f22; have e14 := hd 14 (by kernel_rfl); simp (decide := true) only [factAt, if_true, if_false] at e14; simp only [e14]; go_simp; first | done | rfl) ?_
            refine mo_end ?_
            intro vs w2 hx2 hd
            have e3 := hd 3 (by kernel_rfl)
            have e15 := hd 15 (by kernel_rfl)
            simp (decide := true) only [factAt, if_true, if_false] at e3 e15
            generalize vs 3 = v3 at e3 ⊢
            subst e3
            generalize vs 15 = v15 at e15 ⊢
            subst e15
            go_wp2_with (fail)
            have hnew := HRW.out.same (hx2.same (by omega)) (hx2.block g hgw)
            have hend := HFIN.out
            rw [HPS.out, hp] at hend
            exact ⟨⟨k + 1, by omega, by omega, by go_num, by rw [HT.out, ← hend]; exact hnew, hkq.trans (Ext.kb hx2 (by omega))⟩, by simp [intOf]; omega⟩
          · rw [hgt] at hneg
            have hnl := of_decide_eq_true hneg
            have hp := hgo hgt
            clear hgo hstay hneg hgt
            go_wp2_with (fail)
            refine wp_region_any (by kernel_rfl) ?_
            refine wpAny_mo_go (md := .any) (R := Ext) (w := wr) [(0, 18), (1, 19), (2, 20), (3, 21), (4, 22), (5, 23), (6, 24), (7, 25), (8, 26), (9, 27), (10, 28), (11, 29), (12, 30), (13, 31), (14, 32), (15, 33)] [16] (tl := [_]) (S := ?S3_) (by kernel_rfl) (by rfl) (by rfl) Ext.refl ext_tr (ext_drew1 _) ?hS3_ ?go3_
            case hS3_ => intro vs; simp only [putAll, Act.put, List.setIfInBounds_toArray, List.set_cons_zero, List.set_cons_succ]; rfl
            case go3_ =>
            refine mo_fix _ (by rfl) (by rfl) (by intro vs w1 hx_ hd; have q0 := (hx_.cell hgw).trans f10; have q1 := (hx_.cell hgw).trans f11; have q2 := (hx_.cell hgw).trans f12; have q3 := (hx_.cell hgw).trans f20; have q4 := (hx_.cell hgw).trans f21; have q5 := (hx_.cell hgw).trans f22; go_simp; first | done | rfl) ?_
            refine mo_fix _ (by rfl) (by rfl) (by intro vs w1 hx_ hd; have q0 := (hx_.cell hgw).trans f10; have q1 := (hx_.cell hgw).trans f11; have q2 := (hx_.cell hgw).trans f12; have q3 := (hx_.cell hgw).trans f20; have q4 := (hx_.cell hgw).trans f21; have q5 := (hx_.cell hgw).trans f22; go_simp; first | done | rfl) ?_
            refine mo_fix _ (by rfl) (by rfl) (by intro vs w1 hx_ hd; have q0 := (hx_.cell hgw).trans f10; have q1 := (hx_.cell hgw).trans f11; have q2 := (hx_.cell hgw).trans f12; have q3 := (hx_.cell hgw).trans f20; have q4 := (hx_.cell hgw).trans f21; have q5 := (hx_.cell hgw).trans f22; have e0 := hd 0 (by kernel_rfl); have e1 := hd 1 (by kernel_rfl); simp (decide := true) only [factAt, if_true, if_false] at e0 e1; simp only [e0, e1]; go_simp; first | done | rfl) ?_
            refine mo_fix _ (by rfl) (by rfl) (by intro vs w1 hx_ hd; have q0 := (hx_.cell hgw).trans f10; have q1 := (hx_.cell hgw).trans f11; have q2 := (hx_.cell hgw).trans f12; have q3 := (hx_.cell hgw).trans f20; have q4 := (hx_.cell hgw).trans f21; have q5 := (hx_.cell hgw).trans f22; have e2 := hd 2 (by kernel_rfl); simp (decide := true) only [factAt, if_true, if_false] at e2; simp only [e2]; go_simp; first | done | rfl) ?_
            refine mo_fixK _ 3 true (by rfl) (by rfl) (by kernel_rfl) (fun _ _ _ h => h) (fun _ => rfl) (by intro vs w1 hx_ hd; have q0 := (hx_.cell hgw).trans f10; have q1 := (hx_.cell hgw).trans f11; have q2 := (hx_.cell hgw).trans f12; have q3 := (hx_.cell hgw).trans f20; have q4 := (hx_.cell hgw).trans f21; have q5 := (hx_.cell hgw).trans f22; go_simp; first | done | rfl) ?_
            refine mo_fixK _ 3 true (by rfl) (by rfl) (by kernel_rfl) (fun _ _ _ h => h) (fun _ => rfl) (by intro vs w1 hx_ hd; have q0 := (hx_.cell hgw).trans f10; have q1 := (hx_.cell hgw).trans f11; have q2 := (hx_.cell hgw).trans f12; have q3 := (hx_.cell hgw).trans f20; have q4 := (hx_.cell hgw).trans f21; have q5 := (hx_.cell hgw).trans f22; go_simp; first | done | rfl) ?_
            refine mo_fixK _ 3 true (by rfl) (by rfl) (by kernel_rfl) (fun _ _ _ h => h) (fun _ => rfl) (by intro vs w1 hx_ hd; have q0 := (hx_.cell hgw).trans f10; have q1 := (hx_.cell hgw).trans f11; have q2 := (hx_.cell hgw).trans f12; have q3 := (hx_.cell hgw).trans f20; have q4 := (hx_.cell hgw).trans f21; have q5 := (hx_.cell hgw).trans f22; go_simp; first | done | rfl) ?_
            refine mo_fixK _ 3 true (by rfl) (by rfl) (by kernel_rfl) (fun _ _ _ h => h) (fun _ => rfl) (by intro vs w1 hx_ hd; have q0 := (hx_.cell hgw).trans f10; have q1 := (hx_.cell hgw).trans f11; have q2 := (hx_.cell hgw).trans f12; have q3 := (hx_.cell hgw).trans f20; have q4 := (hx_.cell hgw).trans f21; have q5 := (hx_.cell hgw).trans f22; have e5 := hd 5 (by kernel_rfl); have e6 := hd 6 (by kernel_rfl); simp (decide := true) only [factAt, if_true, if_false] at e5 e6; simp only [e5, e6]; go_simp; first | done | rfl) ?_
            refine mo_fixK _ 3 true (by rfl) (by rfl) (by kernel_rfl) (fun _ _ _ h => h) (fun _ => rfl) (by intro vs w1 hx_ hd; have q0 := (hx_.cell hgw).trans f10; have q1 := (hx_.cell hgw).trans f11; have q2 := (hx_.cell hgw).trans f12; have q3 := (hx_.cell hgw).trans f20; have q4 := (hx_.cell hgw).trans f21; have q5 := (hx_.cell hgw).trans f22; have e7 := hd 7 (by kernel_rfl); simp (decide := true) only [factAt, if_true, if_false] at e7; simp only [e7]; go_simp; first | done | rfl) ?_
            refine mo_fixK _ 3 true (by rfl) (by rfl) (by kernel_rfl) (fun _ _ _ h => h) (fun _ => rfl) (by intro vs w1 hx_ hd; have q0 := (hx_.cell hgw).trans f10; have q1 := (hx_.cell hgw).trans f11; have q2 := (hx_.cell hgw).trans f12; have q3 := (hx_.cell hgw).trans f20; have q4 := (hx_.cell hgw).trans f21; have q5 := (hx_.cell hgw).trans f22; go_simp; first | done | rfl) ?_
            refine mo_fixK _ 3 true (by rfl) (by rfl) (by kernel_rfl) (fun _ _ _ h => h) (fun _ => rfl) (by intro vs w1 hx_ hd; have q0 := (hx_.cell hgw).trans f10; have q1 := (hx_.cell hgw).trans f11; have q2 := (hx_.cell hgw).trans f12; have q3 := (hx_.cell hgw).trans f20; have q4 := (hx_.cell hgw).trans f21; have q5 := (hx_.cell hgw).trans f22; go_simp; first | done | rfl) ?_
            refine mo_fixK _ 3 true (by rfl) (by rfl) (by kernel_rfl) (fun _ _ _ h => h) (fun _ => rfl) (by intro vs w1 hx_ hd; have q0 := (hx_.cell hgw).trans f10; have q1 := (hx_.cell hgw).trans f11; have q2 := (hx_.cell hgw).trans f12; have q3 := (hx_.cell hgw).trans f20; have q4 := (hx_.cell hgw).trans f21; have q5 := (hx_.cell hgw).trans f22; have e10 := hd 10 (by kernel_rfl); simp (decide := true) only [factAt, if_true, if_false] at e10; simp only [e10]; go_simp; first | done | rfl) ?_
            refine mo_fixK _ 3 true (by rfl) (by rfl) (by kernel_rfl) (fun _ _ _ h => h) (fun _ => rfl) (by intro vs w1 hx_ hd; have q0 := (hx_.cell hgw).trans f10; have q1 := (hx_.cell hgw).trans f11; have q2 := (hx_.cell hgw).trans f12; have q3 := (hx_.cell hgw).trans f20; have q4 := (hx_.cell hgw).trans f21; have q5 := (hx_.cell hgw).trans f22; have e9 := hd 9 (by kernel_rfl); have e11 := hd 11 (by kernel_rfl); simp (decide := true) only [factAt, if_true, if_false] at e9 e11; simp only [e9, e11]; go_simp; first | done | rfl) ?_
            refine mo_fixK _ 3 true (by rfl) (by rfl) (by kernel_rfl) (fun _ _ _ h => h) (fun _ => rfl) (by intro vs w1 hx_ hd; have q0 := (hx_.cell hgw).trans f10; have q1 := (hx_.cell hgw).trans f11; have q2 := (hx_.cell hgw).trans f12; have q3 := (hx_.cell hgw).trans f20; have q4 := (hx_.cell hgw).trans f21; have q5 := (hx_.cell hgw).trans f22; have e12 := hd 12 (by kernel_rfl); simp (decide := true) only [factAt, if_true, if_false] at e12; simp only [e12]; go_simp; first | done | rfl) ?_
            refine mo_callK (fun v w => v = .int .i64 q) 3 true (by rfl) (by rfl) (by kernel_rfl) (fun _ _ _ h => h) (fun _ => rfl) (by intro v wa wb h1 h2; exact h1) (by intro vs w9 hx_ hd; have e4 := hd 4 (by kernel_rfl); have e8 := hd 8 (by kernel_rfl); have e13 := hd 13 (by kernel_rfl); simp (decide := true) only [factAt, if_true, if_false] at e4 e8 e13; simp only [e4, e8, e13]; refine ⟨_, _, by go_simp; first | done | rfl | exact ⟨rfl, rfl⟩, ?_⟩; refine Calls.mono (CC.out _ hx_) ?_; rintro e w4 ⟨rfl, hx4⟩; exact ⟨_, rfl, rfl, hx4⟩) ?_
            refine mo_fixK _ 3 true (by rfl) (by rfl) (by kernel_rfl) (fun _ _ _ h => h) (fun _ => rfl) (by intro vs w1 hx_ hd; have q0 := (hx_.cell hgw).trans f10; have q1 := (hx_.cell hgw).trans f11; have q2 := (hx_.cell hgw).trans f12; have q3 := (hx_.cell hgw).trans f20; have q4 := (hx_.cell hgw).trans f21; have q5 := (hx_.cell hgw).trans f22; have e14 := hd 14 (by kernel_rfl); simp (decide := true) only [factAt, if_true, if_false] at e14; simp only [e14]; go_simp; first | done | rfl) ?_
            refine mo_end ?_
            intro vs w2 hx2 hd
            have e3 := hd 3 (by kernel_rfl)
            have e15 := hd 15 (by kernel_rfl)
            simp (decide := true) only [factAt, if_true, if_false] at e3 e15
            generalize vs 3 = v3 at e3 ⊢
            subst e3
            generalize vs 15 = v15 at e15 ⊢
            subst e15
            have g10 := (hx2.cell hgw).trans f10
            have g11 := (hx2.cell hgw).trans f11
            have g12 := (hx2.cell hgw).trans f12
            have g20 := (hx2.cell hgw).trans f20
            have g21 := (hx2.cell hgw).trans f21
            have g22 := (hx2.cell hgw).trans f22
            have hnew := HRW.out.same (hx2.same (by omega)) (hx2.block g hgw)
            have hkw := hkq.trans (Ext.kb hx2 (by omega))
            have hfz : ∀ i, w2.frozen? ⟨g, i, none⟩ = false := fun i => by
              obtain ⟨_, cs, t, hgg, _⟩ := hnew
              simp [World.frozen?, hgg]
            have z0 := hfz (j * 3)
            have z1 := hfz (j * 3 + 1)
            have z2 := hfz (j * 3 + 2)
            have z3 := hfz ((j + 1) * 3)
            have z4 := hfz ((j + 1) * 3 + 1)
            have z5 := hfz ((j + 1) * 3 + 2)
            obtain ⟨B1, B2, d1, d2, k1, k2, _, _, hsw⟩ := hnew.two hj2
            rw [atM_low hjl, HS1.out] at k1 hsw
            rw [atM_at (by omega)] at k2 hsw
            have hswp := atM_swap (f := F) (T := T) hjl
            rw [HS1.out] at hswp
            rw [hswp] at hsw
            obtain ⟨-, -, k12⟩ := k1
            obtain ⟨-, -, k22⟩ := k2
            rw [g12] at k12
            rw [g22] at k22
            simp only [Option.some.injEq, Value.slice.injEq, true_and] at k12 k22
            obtain ⟨rfl, rfl⟩ := k12
            obtain ⟨rfl, rfl⟩ := k22
            have HNEW := Lib.hid hsw
            have HKW := Lib.hid (((((((hkw.set (p := ⟨g, (j + 1) * 3, none⟩) hg1 hg2 (.int .i64 S1.x)).set (p := ⟨g, (j + 1) * 3 + 1, none⟩) hg1 hg2 (.int .i64 S1.z)).set (p := ⟨g, (j + 1) * 3 + 2, none⟩) hg1 hg2 (.slice A1 S1.v.length c1)).set (p := ⟨g, j * 3, none⟩) hg1 hg2 (.int .i64 F.x)).set (p := ⟨g, j * 3 + 1, none⟩) hg1 hg2 (.int .i64 F.z)).set (p := ⟨g, j * 3 + 2, none⟩) hg1 hg2 (.slice A2 F.v.length c2)))
            clear hnew hkw hx2 hsw hswp f10 f11 f12 f20 f21 f22 hkq hd hfz
            go_wp2_with (fail)
            go_region_with (fail)
            all_goals
              go_wp2_with (fail)
              exact ⟨⟨j, by omega, by go_num, HPS.out.trans hp, HNEW.out.drew, HKW.out.drewQ⟩, by simp [intOf]⟩
    · obtain rfl : k = n := by omega
      rw [List.drop_of_length_le (by omega), List.append_nil] at hrow
      go_wp2_with (fail)
      refine bodyPost_end (results_none rfl _ _ _) rfl ?_
      exact ⟨rfl, hrow, hkb⟩
end Go.Proofs.Ytfmhdnhaaohdjaa
namespace Go.Proofs.Ytfmhdnhaaohdjaa
open Go.RowKit Go.ChangeShapes Go.WideShapes Go.Deep Ieee
set_option linter.unusedVariables false
set_option linter.unusedSimpArgs false

/-- A frame, and where its list lies. -/
structure Ent where
  s : Sct
  b : Nat
  A : Option Addr
  c : Nat
def noE : Ent := ⟨noT, 0, none, 0⟩
instance : Inhabited Ent := ⟨noE⟩
def entV (e : Ent) : List Value := [.int .i64 e.s.x, .int .i64 e.s.z, .slice e.A e.s.v.length e.c]
def entsV (V : List Ent) : List Value := V.flatMap entV
theorem entsV_nil : entsV [] = [] := rfl
theorem entsV_cons (e : Ent) (V : List Ent) : entsV (e :: V) = entV e ++ entsV V := rfl
theorem entsV_append (V U : List Ent) : entsV (V ++ U) = entsV V ++ entsV U := List.flatMap_append
theorem entsV_one (e : Ent) : entsV [e] = entV e := by simp [entsV]
theorem entsV_len (V : List Ent) : (entsV V).length = V.length * 3 := by
  induction V with
  | nil => rfl
  | cons e V ih => rw [entsV_cons, List.length_append, ih, List.length_cons]; simp only [entV, List.length_cons, List.length_nil]; omega
theorem entsV_take (V : List Ent) (p : Nat) (h : p ≤ V.length) : (entsV V).take (p * 3) = entsV (V.take p) := by
  have e : entsV V = entsV (V.take p) ++ entsV (V.drop p) := by rw [← entsV_append, List.take_append_drop]
  rw [e]
  have hl : (entsV (V.take p)).length = p * 3 := by rw [entsV_len, List.length_take]; congr 1; omega
  rw [← hl]; exact List.take_left
theorem entsV_drop (V : List Ent) (p : Nat) (h : p ≤ V.length) : (entsV V).drop (p * 3) = entsV (V.drop p) := by
  have e : entsV V = entsV (V.take p) ++ entsV (V.drop p) := by rw [← entsV_append, List.take_append_drop]
  rw [e]
  have hl : (entsV (V.take p)).length = p * 3 := by rw [entsV_len, List.length_take]; congr 1; omega
  rw [← hl]; exact List.drop_left
theorem entsV_three (V : List Ent) (j : Nat) (h : j < V.length) : (entsV V)[j * 3]? = some (.int .i64 (V.getD j noE).s.x) ∧ (entsV V)[j * 3 + 1]? = some (.int .i64 (V.getD j noE).s.z) ∧ (entsV V)[j * 3 + 2]? = some (.slice (V.getD j noE).A (V.getD j noE).s.v.length (V.getD j noE).c) := by
  have e : entsV V = entsV (V.take j) ++ (entV (V.getD j noE) ++ entsV (V.drop (j + 1))) := by
    rw [← entsV_cons, ← entsV_append]
    congr 1
    have e2 : V.drop j = V.getD j noE :: V.drop (j + 1) := by
      rw [List.drop_eq_getElem_cons h, List.getD_eq_getElem?_getD, List.getElem?_eq_getElem h]; rfl
    rw [← e2, List.take_append_drop]
  have hl : (entsV (V.take j)).length = j * 3 := by rw [entsV_len, List.length_take]; congr 1; omega
  rw [e]
  refine ⟨?_, ?_, ?_⟩ <;> rw [List.getElem?_append_right (by omega), hl] <;> simp [entV]
theorem entsV_one' (V : List Ent) : ∀ u ∈ entsV V, u.oneCell' = true := by
  intro u hu
  unfold entsV at hu
  rw [List.mem_flatMap] at hu
  obtain ⟨e, _, he⟩ := hu
  simp only [entV, List.mem_cons, List.not_mem_nil, or_false] at he
  rcases he with rfl | rfl | rfl <;> rfl
/-- The frames of entries. -/
def entS (V : List Ent) : List Sct := V.map (·.s)
theorem entS_at (V : List Ent) (j : Nat) : (entS V).getD j noT = (V.getD j noE).s := by
  unfold entS
  rw [List.getD_eq_getElem?_getD, List.getD_eq_getElem?_getD, List.getElem?_map]
  cases V[j]? <;> rfl
/-- Each list lies in a block of its own. -/
def EntsOk (w : World) (lo hi : Nat) (V : List Ent) : Prop :=
  (∀ e ∈ V, OwL w e.b (e.b + 1) e.A e.s.v.length e.s.v ∧ e.s.v.length ≤ e.c ∧ lo ≤ e.b ∧ e.b < hi) ∧ (V.map (·.b)).Nodup
theorem EntsOk.nil (w : World) (lo hi : Nat) : EntsOk w lo hi [] := ⟨fun _ h => (by cases h), (by simp)⟩
theorem EntsOk.ext {w w' : World} {lo hi : Nat} {V : List Ent} (h : EntsOk w lo hi V) (hh : hi ≤ w.heap.size) (hx : Ext w w') : EntsOk w' lo hi V :=
  ⟨fun e he => ⟨(h.1 e he).1.ext (by have := (h.1 e he).2.2.2; omega) hx, (h.1 e he).2⟩, h.2⟩
theorem EntsOk.more {w : World} {lo hi lo' hi' : Nat} {V : List Ent} (h : EntsOk w lo hi V) (h1 : lo' ≤ lo) (h2 : hi ≤ hi') : EntsOk w lo' hi' V :=
  ⟨fun e he => ⟨(h.1 e he).1, (h.1 e he).2.1, by have := (h.1 e he).2.2.1; omega, by have := (h.1 e he).2.2.2; omega⟩, h.2⟩
/-- One more among them, whose block is behind theirs. -/
theorem EntsOk.ins {w : World} {lo hi hi' : Nat} {V : List Ent} {e : Ent} (h : EntsOk w lo hi V) (p : Nat) (ho : OwL w e.b (e.b + 1) e.A e.s.v.length e.s.v) (hc : e.s.v.length ≤ e.c) (hl : lo ≤ e.b) (h1 : hi ≤ e.b) (h2 : e.b < hi') : EntsOk w lo hi' (V.take p ++ e :: V.drop p) := by
  have hp : (V.take p ++ e :: V.drop p).Perm (e :: V) := by
    have := List.perm_middle (a := e) (l₁ := V.take p) (l₂ := V.drop p)
    rwa [List.take_append_drop] at this
  refine ⟨fun f hf => ?_, ?_⟩
  · rcases List.mem_cons.1 (hp.mem_iff.1 hf) with rfl | hm
    · exact ⟨ho, hc, hl, h2⟩
    · obtain ⟨g1, g2, g3, g4⟩ := h.1 f hm
      exact ⟨g1, g2, g3, by omega⟩
  · rw [(hp.map (·.b)).nodup_iff, List.map_cons, List.nodup_cons]
    refine ⟨fun hm => ?_, h.2⟩
    obtain ⟨f, hf, he⟩ := List.mem_map.1 hm
    have := (h.1 f hf).2.2.2
    have he' : f.b = e.b := he
    omega
/-- A row of entries is a list of frames of a call's own. -/
theorem EntsOk.own {w : World} {lo hi g : Nat} {cs : Array Value} {t : TypeId} {V : List Ent} (h : EntsOk w lo hi V) (hg : w.heap[g]? = some (.cells cs t (0, 0))) (ht : cs.toList.take (V.length * 3) = entsV V) (hl : lo ≤ g) (hh : hi ≤ g) {hi' : Nat} (hgh : g < hi') :
    OwM w lo hi' (some ⟨g, 0, none⟩) V.length (entS V) := by
  have hsz : V.length * 3 ≤ cs.size := by
    have h9 := congrArg List.length ht
    rw [entsV_len, List.length_take] at h9
    have h8 : cs.toList.length = cs.size := Array.length_toList
    omega
  refine ⟨by simp [entS], .inr ⟨g, fun j => (V.getD j noE).b, cs, t, rfl, hg, hsz, hl, by omega, fun j hj => ?_, fun i j hij hj => ?_⟩⟩
  · have hm : V.getD j noE ∈ V := by
      rw [List.getD_eq_getElem?_getD, List.getElem?_eq_getElem hj]
      exact List.getElem_mem hj
    obtain ⟨e1, e2, e3, e4⟩ := h.1 _ hm
    obtain ⟨c1, c2, c3⟩ := entsV_three V j hj
    rw [entS_at]
    have hc : ∀ i, i < V.length * 3 → cs[i]? = (entsV V)[i]? := fun i hi => by
      rw [← ht, List.getElem?_take_of_lt hi]; simp
    refine ⟨_, _, ⟨(hc _ (by omega)).trans c1, (hc _ (by omega)).trans c2, (hc _ (by omega)).trans c3⟩, e1, e2, by show (V.getD j noE).b ≠ g; omega, e3, by show (V.getD j noE).b < hi'; omega⟩
  · have hn := h.2
    have := (List.pairwise_iff_getElem.1 hn) i j (by simp; omega) (by simpa using hj) hij
    intro he
    apply this
    have he' : (V.getD i noE).b = (V.getD j noE).b := he
    rw [List.getD_eq_getElem?_getD, List.getD_eq_getElem?_getD, List.getElem?_eq_getElem hj, List.getElem?_eq_getElem (by omega : i < V.length)] at he'
    simpa using he'
/-- The same, as a row. -/
theorem OwM.row {w : World} {lo hi g n : Nat} {R : List Sct} (h : OwM w lo hi (some ⟨g, 0, none⟩) n R) (hn : 0 < n) : RowS w lo hi g R := by
  rcases h.ex with h0 | ⟨g', f, cs, t, hA, hg, hs, h1, h2, h3, h4⟩
  · omega
  · have : g = g' := by simp only [Option.some.injEq, Addr.mk.injEq] at hA; exact hA.1
    subst this
    obtain rfl := h.len
    exact ⟨f, cs, t, hg, hs, h3, h4⟩
/-- The entries of a list that is read. -/
theorem RdM.ents {w : World} {B n : Nat} {A : Option Addr} {R : List Sct} (h : RdM w B A n R) : ∃ V : List Ent, V.length = n ∧ entS V = R ∧ (∀ e ∈ V, RdF w B e.A e.s.v.length e.s.v ∧ e.s.v.length ≤ e.c) ∧
    ∀ b off, A = some ⟨b, off, none⟩ → ∀ j u, (entsV V)[j]? = some u → w.cell? ⟨b, off + j, none⟩ = some u := by
  have each : ∀ j, j < n → ∃ q : Ent, q.s = R.getD j noT ∧ RdF w B q.A q.s.v.length q.s.v ∧ q.s.v.length ≤ q.c ∧ ∀ b off, A = some ⟨b, off, none⟩ → FAt w b (off + j * 3) q.s.x q.s.z q.A q.s.v.length q.c := by
    intro j hj
    obtain ⟨b, off, A', c', hA, hb, h1, h2, h3⟩ := h.cell hj
    refine ⟨⟨R.getD j noT, 0, A', c'⟩, rfl, h2, h3, fun b' off' hA' => ?_⟩
    rw [hA] at hA'
    simp only [Option.some.injEq, Addr.mk.injEq, and_true] at hA'
    obtain ⟨rfl, rfl⟩ := hA'
    exact h1
  obtain ⟨q, hq⟩ := Go.Deep.choose_lt each
  have hat : ∀ j, j < n → ((List.range n).map q).getD j noE = q j := fun j hj => by simp [List.getD, hj]
  have hlen : ((List.range n).map q).length = n := by simp
  refine ⟨(List.range n).map q, hlen, ?_, fun e he => ?_, fun b off hA j u hj => ?_⟩
  · apply List.ext_getElem?
    intro j
    unfold entS
    by_cases hj : j < n
    · have h1 : R[j]? = some (R.getD j noT) := by
        rw [List.getD_eq_getElem?_getD, List.getElem?_eq_getElem (by rw [h.len]; exact hj)]; rfl
      rw [h1, List.getElem?_map, List.getElem?_map, List.getElem?_range hj]
      simp [(hq j hj).1]
    · rw [List.getElem?_eq_none (by simp; omega), List.getElem?_eq_none (by rw [h.len]; omega)]
  · obtain ⟨j, hj, rfl⟩ := List.mem_map.1 he
    exact ⟨(hq j (List.mem_range.1 hj)).2.1, (hq j (List.mem_range.1 hj)).2.2.1⟩
  · have hjl : j < n * 3 := by
      rcases Nat.lt_or_ge j (n * 3) with h1 | h1
      · exact h1
      · rw [List.getElem?_eq_none (by rw [entsV_len, hlen]; exact h1)] at hj; cases hj
    obtain ⟨i, r, hi, hr⟩ : ∃ i r, j = i * 3 + r ∧ r < 3 := ⟨j / 3, j % 3, by omega, by omega⟩
    subst hi
    have hin : i < n := by omega
    obtain ⟨p0, p1, p2⟩ := (hq i hin).2.2.2 b off hA
    obtain ⟨c0, c1, c2⟩ := entsV_three ((List.range n).map q) i (by omega)
    rw [hat i hin] at c0 c1 c2
    rcases (by omega : r = 0 ∨ r = 1 ∨ r = 2) with rfl | rfl | rfl
    · rw [Nat.add_zero, c0] at hj
      rw [Nat.add_zero, ← hj]; exact p0
    · rw [c1] at hj
      rw [← Nat.add_assoc, ← hj]; exact p1
    · rw [c2] at hj
      rw [← Nat.add_assoc, ← hj]; exact p2
def RetMQ (w : World) (e : Ending) (w' : World) (ok : Bool) (q : Nat) (Q : List Sct) : Prop :=
  ∃ A c, e = .returned (.tuple #[.slice A q c, .bool ok]) ∧ OwM w' w.heap.size w'.heap.size A q Q ∧ Ext w w'
end Go.Proofs.Ytfmhdnhaaohdjaa
