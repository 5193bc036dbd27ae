/- Contracts: a layer by its number, its speed and hardness, the cosine of a ray, on both sides. Condition: the ground is read. -/
import Derived.Test.YtkoiimjpalhgbabVg
namespace Go.Proofs.Ytkoiimjpalhgbab
open Go.RowKit Ieee

theorem cells4 {w : World} {g : Nat} {v0 v1 v2 v3 : Value} {t : TypeId} (hg : w.heap[g]? = some (.cells #[v0, v1, v2, v3] t (0, 0))) :
    w.cell? ⟨g, 0, none⟩ = some v0 ∧ w.cell? ⟨g, 1, none⟩ = some v1 ∧ w.cell? ⟨g, 2, none⟩ = some v2 ∧ w.cell? ⟨g, 3, none⟩ = some v3 ∧
      w.frozen? ⟨g, 0, none⟩ = false ∧ w.frozen? ⟨g, 1, none⟩ = false ∧ w.frozen? ⟨g, 2, none⟩ = false ∧ w.frozen? ⟨g, 3, none⟩ = false := by
  refine ⟨?_, ?_, ?_, ?_, ?_, ?_, ?_, ?_⟩
  all_goals first | (rw [cell_of_row w g _ _ _ (0, 0) hg]; rfl) | simp [World.frozen?, hg]

/-- What is told of a layer: i is one of them, or what is below. -/
def inLay (i : Int) (n : Nat) : Bool := decide (0 ≤ i) && decide (i ≤ n)
def inBou (i : Int) (n : Nat) : Bool := decide (0 ≤ i) && decide (i ≤ (n : Int) - 1)

set_option maxRecDepth 20000 in
set_option maxHeartbeats 400000 in
theorem c_l00In (i lo hi : Int) (w : World) :
    Calls Try.prog 99 #[.int .i64 i, .int .i64 lo, .int .i64 hi] w fun e w' => e = .returned (.bool (decide (lo ≤ i) && decide (i ≤ hi))) ∧ w = w' := by
  by_cases h1 : lo ≤ i
  · rw [decide_eq_true h1, Bool.true_and]
    go_enter Try.func99, Try.ntmps99
    go_wp2
    go_ret
    exact ⟨rfl, rfl⟩
  · rw [decide_eq_false h1, Bool.false_and]
    have h1' : i < lo := by omega
    go_enter Try.func99, Try.ntmps99
    go_wp2
    trace_state
    go_ret
    exact ⟨rfl, rfl⟩
set_option maxRecDepth 20000 in
set_option maxHeartbeats 1000000 in
theorem c_l02Boundary {w : World} {b n c s d : Nat} {A : Option Addr} {L : List Ly} {S D : Option Nat} (i : Int) (hp : GpAt w b A n c s d) (h : RdL w A n L) (hn : n ≤ 1048576) (fs : Fl .f32 s S) (fd : Fl .f32 d D) :
    Calls Try.prog 51 #[.pointer (some ⟨b, 0, none⟩), .int .i64 i] w fun e w' => e = .returned (.bool (fvalid L S D && inBou i n)) ∧ Dr w w' := by
  have p0 := hp.c0
  cases hV : fvalid L S D
  all_goals
    go_enter Try.func51, Try.ntmps51
    go_wp2_with (first | (go_at_call 76; refine Calls.mono (c_l02Is hp h fs fd) ?_; rw [hV]; rintro e w' ⟨rfl, n1, rfl⟩) | (go_at_call 99; refine Calls.mono (c_l00In _ _ _ _) ?_; rintro e w' ⟨rfl, rfl⟩))
    go_ret
    exact ⟨rfl, _, rfl⟩
theorem fspeed_at {L : List Ly} {S : Option Nat} {k : Nat} (h : k < L.length) : fspeed L S k = (L.getD k default).s := by unfold fspeed; rw [if_neg (by omega)]
theorem fspeed_end {L : List Ly} {S : Option Nat} {k : Nat} (h : k = L.length) : fspeed L S k = S := by unfold fspeed; rw [if_pos h]
theorem fdens_at {L : List Ly} {D : Option Nat} {k : Nat} (h : k < L.length) : fdens L D k = (L.getD k default).d := by unfold fdens; rw [if_neg (by omega)]
theorem fdens_end {L : List Ly} {D : Option Nat} {k : Nat} (h : k = L.length) : fdens L D k = D := by unfold fdens; rw [if_pos h]
set_option maxRecDepth 20000 in
set_option maxHeartbeats 1000000 in
theorem c_l02Speed {w : World} {b n c s d k : Nat} {A : Option Addr} {L : List Ly} {S : Option Nat} (hp : GpAt w b A n c s d) (h : RdL w A n L) (fs : Fl .f32 s S) (hk : k ≤ n) (hn : n ≤ 1048576) :
    Calls Try.prog 109 #[.pointer (some ⟨b, 0, none⟩), .int .i64 (k : Int)] w fun e w' => ∃ r, e = .returned (.float .f32 r) ∧ Fl .f32 r (fspeed L S k) ∧ w' = w := by
  have hl := h.len
  have p0 := hp.c0
  have p1 := hp.c1
  by_cases hkn : k = n
  · subst hkn
    rw [fspeed_end (S := S) hl.symm]
    clear hl
    go_enter Try.func109, Try.ntmps109
    go_wp2_with (fail)
    go_ret
    exact ⟨_, rfl, fs, rfl⟩
  · have hlt : k < n := by omega
    rw [fspeed_at (S := S) (by omega)]
    obtain ⟨b', off, r0, r1, r2, r3, rfl, hb, hy⟩ := h.cell hlt
    clear hl
    have hc1 := hy.c1
    have hne : ¬ ((k : Int) = (n : Int)) := by omega
    go_enter Try.func109, Try.ntmps109
    go_wp2_with (fail)
    go_ret
    exact ⟨_, rfl, hy.f1, rfl⟩
set_option maxRecDepth 20000 in
set_option maxHeartbeats 1000000 in
theorem c_l02Hard {w : World} {b n c s d k : Nat} {A : Option Addr} {L : List Ly} {S D : Option Nat} (hp : GpAt w b A n c s d) (h : RdL w A n L) (fs : Fl .f32 s S) (fd : Fl .f32 d D) (hk : k ≤ n) (hn : n ≤ 1048576) :
    Calls Try.prog 112 #[.pointer (some ⟨b, 0, none⟩), .int .i64 (k : Int)] w fun e w' => ∃ r, e = .returned (.float .f32 r) ∧ Fl .f32 r (fhard L S D k) ∧ Dr w w' := by
  have hl := h.len
  have p0 := hp.c0
  have p1 := hp.c1
  have p2 := hp.c2
  unfold fhard
  by_cases hkn : k = n
  · subst hkn
    rw [fspeed_end (S := S) hl.symm, fdens_end (D := D) hl.symm]
    clear hl
    go_enter Try.func112, Try.ntmps112
    go_wp2_with (fail)
    go_region_with ((apply upon_fop rfl; (first | assumption | exact Fl.const (of_decide_eq_true (by kernel_rfl))); (first | assumption | exact Fl.const (of_decide_eq_true (by kernel_rfl))); intro r n hr))
    all_goals
      go_wp2_with (fail)
      go_ret
      exact ⟨_, rfl, by assumption, _, rfl⟩
  · have hlt : k < n := by omega
    rw [fspeed_at (S := S) (by omega), fdens_at (D := D) (by omega)]
    obtain ⟨b', off, r0, r1, r2, r3, rfl, hb, hy⟩ := h.cell hlt
    clear hl
    have hc1 := hy.c1
    have hc2 := hy.c2
    have q1 := hy.f1
    have q2 := hy.f2
    have hne : ¬ ((k : Int) = (n : Int)) := by omega
    have hlt' : (k : Int) < (n : Int) := by omega
    go_enter Try.func112, Try.ntmps112
    go_wp2_with (fail)
    go_region_with ((apply upon_fop rfl; (first | assumption | exact Fl.const (of_decide_eq_true (by kernel_rfl))); (first | assumption | exact Fl.const (of_decide_eq_true (by kernel_rfl))); intro r n hr))
    all_goals
      go_wp2_with (fail)
      go_ret
      exact ⟨_, rfl, by assumption, _, rfl⟩
set_option linter.unusedSimpArgs false in
set_option maxRecDepth 20000 in
set_option maxHeartbeats 400000 in
theorem c_belowOf {n c s d : Nat} {A : Option Addr} (w : World) :
    Calls Try.prog 123 #[.agg #[.slice A n c, .float .f32 s, .float .f32 d]] w fun e w' => e = .returned (.agg #[.float .f32 0, .float .f32 s, .float .f32 d, .float .f32 0]) ∧ Ext w w' := by
  go_enter Try.func123, Try.ntmps123
  go_wp2_with (fail)
  exact bodyPost_ret (v := .agg #[.float .f32 0, .float .f32 s, .float .f32 d, .float .f32 0]) (by simp [results, Try.results123, go_sem]) rfl ⟨rfl, (by repeat (first | assumption | exact Ext.refl _ | apply Ext.drewN | apply Ext.drew | apply Ext.alloc | (refine Ext.trans ?_ (by assumption)) | (refine Ext.set ?_ (by dsimp only; omega) _)))⟩
set_option linter.unusedSimpArgs false in
set_option maxRecDepth 20000 in
set_option maxHeartbeats 2000000 in
theorem c_partOf_no {w : World} {n c s d : Nat} {A : Option Addr} {L : List Ly} {S D : Option Nat} (i : Int) (h : RdL w A n L) (fs : Fl .f32 s S) (fd : Fl .f32 d D) (hno : (fvalid L S D && inLay i n) = false) :
    Calls Try.prog 110 #[.agg #[.slice A n c, .float .f32 s, .float .f32 d], .int .i64 i] w fun e w' => e = .returned (.tuple #[.agg #[.float .f32 0, .float .f32 0, .float .f32 0, .float .f32 0], .bool false]) ∧ Ext w w' := by
  cases hV : fvalid L S D
  · clear hno
    go_enter Try.func110, Try.ntmps110
    go_wp2_with (go_at_call 77; refine Calls.mono (c_ValidGround (h.ext (by repeat (first | assumption | exact Ext.refl _ | apply Ext.drewN | apply Ext.drew | apply Ext.alloc | (refine Ext.trans ?_ (by assumption)) | (refine Ext.set ?_ (by dsimp only; omega) _)))) fs fd) ?_; rw [hV]; rintro e w1 ⟨rfl, hx1⟩; obtain ⟨e0, e1, e2, e3, z0, z1, z2, z3⟩ := cells4 (hx1.blk (g := w.heap.size + 1) (o := .cells #[.float .f32 0, .float .f32 0, .float .f32 0, .float .f32 0] 85 (0, 0)) (by repeat (first | (refine al_at ?_ ?_ <;> first | rfl | (simp only [al_size] <;> omega)) | apply al_old))))
    exact bodyPost_ret (v := .tuple #[.agg #[.float .f32 0, .float .f32 0, .float .f32 0, .float .f32 0], .bool false]) (by simp [results, Try.results110, go_sem, *]) rfl ⟨rfl, (by repeat (first | assumption | exact Ext.refl _ | apply Ext.drewN | apply Ext.drew | apply Ext.alloc | (refine Ext.trans ?_ (by assumption)) | (refine Ext.set ?_ (by dsimp only; omega) _)))⟩
  rw [hV, Bool.true_and] at hno
  unfold inLay at hno
  by_cases h1 : 0 ≤ i
  · rw [decide_eq_true h1, Bool.true_and] at hno
    have h2 : ¬ i ≤ (n : Int) := of_decide_eq_false hno
    have h1' : ¬ i < 0 := by omega
    have h2' : (n : Int) < i := by omega
    clear hno h2 h1
    go_enter Try.func110, Try.ntmps110
    go_wp2_with (go_at_call 77; refine Calls.mono (c_ValidGround (h.ext (by repeat (first | assumption | exact Ext.refl _ | apply Ext.drewN | apply Ext.drew | apply Ext.alloc | (refine Ext.trans ?_ (by assumption)) | (refine Ext.set ?_ (by dsimp only; omega) _)))) fs fd) ?_; rw [hV]; rintro e w1 ⟨rfl, hx1⟩; obtain ⟨e0, e1, e2, e3, z0, z1, z2, z3⟩ := cells4 (hx1.blk (g := w.heap.size + 1) (o := .cells #[.float .f32 0, .float .f32 0, .float .f32 0, .float .f32 0] 85 (0, 0)) (by repeat (first | (refine al_at ?_ ?_ <;> first | rfl | (simp only [al_size] <;> omega)) | apply al_old))))
    exact bodyPost_ret (v := .tuple #[.agg #[.float .f32 0, .float .f32 0, .float .f32 0, .float .f32 0], .bool false]) (by simp [results, Try.results110, go_sem, *]) rfl ⟨rfl, (by repeat (first | assumption | exact Ext.refl _ | apply Ext.drewN | apply Ext.drew | apply Ext.alloc | (refine Ext.trans ?_ (by assumption)) | (refine Ext.set ?_ (by dsimp only; omega) _)))⟩
  · have h1' : i < 0 := by omega
    clear hno h1
    go_enter Try.func110, Try.ntmps110
    go_wp2_with (go_at_call 77; refine Calls.mono (c_ValidGround (h.ext (by repeat (first | assumption | exact Ext.refl _ | apply Ext.drewN | apply Ext.drew | apply Ext.alloc | (refine Ext.trans ?_ (by assumption)) | (refine Ext.set ?_ (by dsimp only; omega) _)))) fs fd) ?_; rw [hV]; rintro e w1 ⟨rfl, hx1⟩; obtain ⟨e0, e1, e2, e3, z0, z1, z2, z3⟩ := cells4 (hx1.blk (g := w.heap.size + 1) (o := .cells #[.float .f32 0, .float .f32 0, .float .f32 0, .float .f32 0] 85 (0, 0)) (by repeat (first | (refine al_at ?_ ?_ <;> first | rfl | (simp only [al_size] <;> omega)) | apply al_old))))
    exact bodyPost_ret (v := .tuple #[.agg #[.float .f32 0, .float .f32 0, .float .f32 0, .float .f32 0], .bool false]) (by simp [results, Try.results110, go_sem, *]) rfl ⟨rfl, (by repeat (first | assumption | exact Ext.refl _ | apply Ext.drewN | apply Ext.drew | apply Ext.alloc | (refine Ext.trans ?_ (by assumption)) | (refine Ext.set ?_ (by dsimp only; omega) _)))⟩
end Go.Proofs.Ytkoiimjpalhgbab
