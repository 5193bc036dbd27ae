/- Contracts: the slowness of rays that no longer come, on both sides. Condition: the ground is read. -/
import Derived.Test.YtkoiimjpalhgbabRy2
namespace Go.Proofs.Ytkoiimjpalhgbab
open Go.RowKit Ieee

/-- The greatest speed of the first layers. -/
def fmost (L : List Ly) : Nat → Option Nat
  | 0 => (L.getD 0 default).s
  | j + 1 => if fgt32 (L.getD (j + 1) default).s (fmost L j) then (L.getD (j + 1) default).s else fmost L j
def fsteep (L : List Ly) (k : Nat) : Option Nat := fop .quo .f32 fu (fmost L k)

theorem fin_of {r : Nat} {X : Option Nat} (h : Fl .f32 r X) (hf : ffin .f32 X = true) : ∃ s m e, Fin_ .f32 r s m e := by
  rcases shape .f32 r with ⟨s, m, e, h1⟩ | ⟨s, hr, _, _⟩ | h1
  · exact ⟨s, m, e, h1⟩
  · have : ffin .f32 X = false := by rw [← h.eq, fl_inf hr]; unfold ffin FloatKind.decode; simp only; rw [hr]; rfl
    rw [this] at hf; cases hf
  · rw [← h.eq, h1] at hf; cases hf
theorem fin_zero : ∃ e, Fin_ .f32 0 false 0 e := by
  obtain ⟨s, m, e, h⟩ := fin_of fl_fz (by decide +kernel)
  have hr := h.read
  rw [show FloatKind.f32.format.read 0 = .number false 0 FloatKind.f32.format.leastPlace from by decide +kernel] at hr
  injection hr with h1 h2 h3
  subst h1; subst h2
  exact ⟨e, h⟩
theorem pos_of {r : Nat} {X : Option Nat} (h : Fl .f32 r X) (hf : fabove X = true) : ∃ m e, Fin_ .f32 r false m e := by
  unfold fabove at hf
  rw [Bool.and_eq_true] at hf
  obtain ⟨s, m, e, h1⟩ := fin_of h hf.1
  cases s
  · exact ⟨m, e, h1⟩
  · obtain ⟨e0, h0⟩ := fin_zero
    have hg := h.ogt0
    rw [hf.2, h1.order h0] at hg
    have hx : sv true m e ≤ 0 := by unfold sv; simp only [if_true]; exact Int.neg_nonpos_of_nonneg (Int.natCast_nonneg _)
    have hy : sv false 0 e0 = 0 := by unfold sv; simp
    rw [hy] at hg
    generalize sv true m e = x at hx hg
    have key : ∀ x y : Int, compare x y = if x < y then .lt else if x = y then .eq else .gt := fun x y => rfl
    rw [key] at hg
    by_cases c1 : x < 0
    · rw [if_pos c1] at hg; cases hg
    · rw [if_neg c1, if_pos (by omega : x = 0)] at hg; cases hg
/-- The greater of two numbers above 0, as Go's max takes it. -/
theorem max_above {r q : Nat} {X Y : Option Nat} (h : Fl .f32 r X) (h' : Fl .f32 q Y) (hx : fabove X = true) (hy : fabove Y = true) :
    ∃ z, Fl .f32 z (if fgt32 Y X then Y else X) ∧ ∀ (P : Program) (ts : Array TypeId) (t : TypeId) (w : World), (Builtin.max_ ts t #[.float .f32 r, .float .f32 q]).run P w = .ok (.float .f32 z) w := by
  obtain ⟨m, e, h1⟩ := pos_of h hx
  obtain ⟨n, j, h2⟩ := pos_of h' hy
  have ho := h1.order h2
  have hg := h'.ogt h
  rw [h2.order h1] at hg
  have hneg : (FloatKind.f32.decode r).neg = false := by unfold FloatKind.decode; rw [h1.read]; rfl
  have key : ∀ x y : Int, compare x y = if x < y then .lt else if x = y then .eq else .gt := fun x y => rfl
  rw [key] at ho hg
  generalize sv false m e = a at ho hg
  generalize sv false n j = b at ho hg
  rw [← hg]
  by_cases c1 : a < b
  · rw [if_pos c1] at ho
    refine ⟨q, ?_, ?_⟩
    · rw [if_neg (by omega : ¬ b < a), if_neg (by omega : ¬ b = a)]; exact h'
    · intro P ts t w; simp [Builtin.max_, Builtin.max2, ho]
  · rw [if_neg c1] at ho
    refine ⟨r, ?_, ?_⟩
    · by_cases c2 : a = b
      · rw [if_neg (by omega : ¬ b < a), if_pos c2.symm]; exact h
      · rw [if_pos (by omega : b < a)]; exact h
    · intro P ts t w
      by_cases c2 : a = b
      · rw [if_pos c2] at ho; simp [Builtin.max_, Builtin.max2, ho, hneg]
      · rw [if_neg c2] at ho; simp [Builtin.max_, Builtin.max2, ho]
/-- The greater of +0 and a number above 0. -/
theorem max_first {q : Nat} {Y : Option Nat} (h' : Fl .f32 q Y) (hy : fabove Y = true) (P : Program) (ts : Array TypeId) (t : TypeId) (w : World) : (Builtin.max_ ts t #[.float .f32 0, .float .f32 q]).run P w = .ok (.float .f32 q) w := by
  obtain ⟨m, e, h1⟩ := pos_of h' hy
  obtain ⟨e0, h0⟩ := fin_zero
  have ho := h0.order h1
  have hg := h'.ogt0
  unfold fabove at hy
  rw [Bool.and_eq_true] at hy
  rw [hy.2, h1.order h0] at hg
  have key : ∀ x y : Int, compare x y = if x < y then .lt else if x = y then .eq else .gt := fun x y => rfl
  rw [key] at ho hg
  generalize sv false m e = a at ho hg
  generalize sv false 0 e0 = b at ho hg
  by_cases c1 : a < b
  · rw [if_pos c1] at hg; cases hg
  · by_cases c2 : a = b
    · rw [if_neg c1, if_pos c2] at hg; cases hg
    · rw [if_pos (by omega : b < a)] at ho
      simp [Builtin.max_, Builtin.max2, ho]
theorem fly_speed {L : List Ly} {S D : Option Nat} {j : Nat} (hV : fvalid L S D = true) (hj : j < L.length) : fabove (L.getD j default).s = true := by
  have h : L.all fly = true := by
    unfold fvalid at hV
    simp only [Bool.and_eq_true] at hV
    exact hV.1.1.2
  rw [List.all_eq_true] at h
  have := h (L.getD j default) (by simp [List.getD, hj])
  unfold fly at this
  simp only [Bool.and_eq_true] at this
  exact this.1.1.2
theorem fmost_above {L : List Ly} {S D : Option Nat} (hV : fvalid L S D = true) : ∀ j, j < L.length → fabove (fmost L j) = true
  | 0, h => fly_speed hV h
  | j + 1, h => by
    unfold fmost
    split
    · exact fly_speed hV h
    · exact fmost_above hV j (by omega)

set_option maxRecDepth 20000 in
set_option maxHeartbeats 2000000 in
theorem c_l02Steepest {w : World} {b n c s d k : Nat} {A : Option Addr} {L : List Ly} (hp : GpAt w b A n c s d) (h : RdL w A n L) (hk : k + 1 ≤ n) (hn : n ≤ 1048576) :
    Calls Try.prog 61 #[.pointer (some ⟨b, 0, none⟩), .int .i64 (k : Int)] w fun e w' => ∃ r, e = .returned (.float .f32 r) ∧ Fl .f32 r (fsteep L k) ∧ Dr w w' := by
  have p0 := hp.c0
  obtain ⟨b', off, s0, s1, s2, s3, rfl, hb, hy0⟩ := h.cell (k := 0) (by omega)
  have hz1 := hy0.c1
  have hn0 : (0 : Int) < (n : Int) := by omega
  go_enter Try.func61, Try.ntmps61
  go_wp2_with (fail)
  go_loopw [5, 6] (fun mo i wr => ∃ j r : Nat, j ≤ k ∧ i = .int .i64 ((j : Int) + 1) ∧ mo = .float .f32 r ∧ Fl .f32 r (fmost L j) ∧ Dr w wr) (fun _ i _ => k + 1 - (intOf i).toNat)
  case atStart => exact ⟨0, s1, Nat.zero_le _, rfl, rfl, hy0.f1, 0, rfl⟩
  case round =>
    obtain ⟨j, r, hj, rfl, rfl, hr, m, rfl⟩ := hrel
    by_cases hlt : j < k
    · obtain ⟨b2, off2, r0, r1, r2, r3, e9, hb2, hy⟩ := h.cell (k := j + 1) (by omega)
      obtain ⟨rfl, rfl⟩ : b' = b2 ∧ off = off2 := by simpa using e9
      have hc1 := hy.c1
      have hT : fmost L (j + 1) = if fgt32 (L.getD (j + 1) default).s (fmost L j) then (L.getD (j + 1) default).s else fmost L j := rfl
      have ho := hy.f1.ogt hr
      have n1 : (j : Int) + 1 ≤ (k : Int) := by omega
      have n2 : (j : Int) + 1 < (n : Int) := by omega
      have n3 : 0 ≤ (j : Int) + 1 := by omega
      have n4 : ((j : Int) + 1).toNat = j + 1 := by omega
      cases hX : fgt32 (L.getD (j + 1) default).s (fmost L j)
      all_goals
        rw [hX] at ho hT
        have HT := Lib.hid hT
        clear hT hX
        go_wp2_with (fail)
      · exact ⟨⟨j + 1, r, by omega, by go_num, rfl, by rw [HT.out]; exact hr, _, rfl⟩, by simp [intOf]; omega⟩
      · exact ⟨⟨j + 1, r1, by omega, by go_num, rfl, by rw [HT.out]; exact hy.f1, _, rfl⟩, by simp [intOf]; omega⟩
    · have hjk : j = k := by omega
      subst hjk
      have n1 : ¬ ((j : Int) + 1 ≤ (j : Int)) := by omega
      go_wp2_with ((apply upon_fop rfl; (first | assumption | exact Fl.const (of_decide_eq_true (by kernel_rfl))); (first | assumption | exact Fl.const (of_decide_eq_true (by kernel_rfl))); intro r n hr))
      go_ret
      exact ⟨_, rfl, by assumption, _, rfl⟩
set_option maxRecDepth 20000 in
set_option maxHeartbeats 2000000 in
theorem c_impl_SteepestOf {w : World} {n s d : Nat} {A : Option Addr} {L : List Ly} {S D : Option Nat} (i : Int) (h : RdL w A n L) (hn : n ≤ 1048576) (fs : Fl .f32 s S) (fd : Fl .f32 d D) :
    Calls Try.prog 63 #[.agg #[.slice A n n, .float .f32 s, .float .f32 d], .int .i64 i] w fun e w' => ∃ r, e = .returned (.tuple #[.float .f32 r, .bool (saysOk (fvalid L S D && inBou i n) (fsteep L i.toNat))]) ∧ Fl .f32 r (saysX (fvalid L S D && inBou i n) (fsteep L i.toNat)) ∧ Ext w w' := by
  have hl := h.len
  cases hB : (fvalid L S D && inBou i n)
  · simp only [saysOk, saysX, Bool.false_and, Bool.false_eq_true, if_false]
    go_enter Try.func63, Try.ntmps63
    go_wp2_with (go_at_call 103; refine Calls.mono (c_layersTo_no i (h.ext (by repeat (first | assumption | exact Ext.refl _ | apply Ext.drewN | apply Ext.drew | apply Ext.alloc | (refine Ext.trans ?_ (by assumption)) | (refine Ext.set ?_ (by dsimp only; omega) _)))) fs fd hB) ?_; rintro e w1 ⟨rfl, hx1⟩)
    go_ret2
    exact ⟨_, rfl, fl_fz, (by repeat (first | assumption | exact Ext.refl _ | apply Ext.drewN | apply Ext.drew | apply Ext.alloc | (refine Ext.trans ?_ (by assumption)) | (refine Ext.set ?_ (by dsimp only; omega) _)))⟩
  · simp only [saysOk, saysX, Bool.true_and, if_true]
    obtain ⟨k, rfl, hk⟩ := inBou_nat (i := i) (n := n) (by rw [Bool.and_eq_true] at hB; exact hB.2)
    have hV : fvalid L S D = true := by rw [Bool.and_eq_true] at hB; exact hB.1
    rw [Int.toNat_natCast]
    have HL := Lib.hid hl
    clear hl
    go_enter Try.func63, Try.ntmps63
    go_wp2_with (go_at_call 103; refine Calls.mono (c_layersTo_yes (h.ext (by repeat (first | assumption | exact Ext.refl _ | apply Ext.drewN | apply Ext.drew | apply Ext.alloc | (refine Ext.trans ?_ (by assumption)) | (refine Ext.set ?_ (by dsimp only; omega) _)))) hn fs fd hV hk) ?_; rintro e w1 ⟨rfl, hx1⟩)
    have hX : Ext w w1 := (by repeat (first | assumption | exact Ext.refl _ | apply Ext.drewN | apply Ext.drew | apply Ext.alloc | (refine Ext.trans ?_ (by assumption)) | (refine Ext.set ?_ (by dsimp only; omega) _)))
    go_loopw [8, 21] (fun mo i wr => ∃ j r : Nat, j ≤ k + 1 ∧ i = .int .i64 (j : Int) ∧ mo = .float .f32 r ∧ (j = 0 → r = 0) ∧ (∀ q, j = q + 1 → Fl .f32 r (fmost L q)) ∧ Ext w1 wr) (fun _ i _ => k + 1 - (intOf i).toNat)
    case atStart => exact ⟨0, 0, Nat.zero_le _, rfl, rfl, fun _ => rfl, fun q hq => by omega, Ext.refl _⟩
    case round =>
      obtain ⟨j, r, hj, rfl, rfl, h0, h1, hx⟩ := hrel
      have hXx : Ext w wr := hX.trans hx
      have H0 := Lib.hid h0
      have H1 := Lib.hid h1
      clear h0 h1
      by_cases hlt : j < k + 1
      · obtain ⟨b2, off2, r0, r1, r2, r3, rfl, hb2, hy⟩ := (h.ext hXx).cell (k := j) (by omega)
        have hc0 := hy.c0
        have hc1 := hy.c1
        have hc2 := hy.c2
        have hc3 := hy.c3
        have hs := fly_speed (j := j) hV (by have := HL.out; omega)
        have n1 : (j : Int) < ((k + 1 : Nat) : Int) := by omega
        obtain ⟨z, hz, hmx⟩ : ∃ z, Fl .f32 z (fmost L j) ∧ ∀ (P : Program) (ts : Array TypeId) (t : TypeId) (w : World), (Builtin.max_ ts t #[.float .f32 r, .float .f32 r1]).run P w = .ok (.float .f32 z) w := by
          rcases j with _ | q
          · rw [H0.out rfl]
            exact ⟨r1, hy.f1, fun P ts t w => max_first hy.f1 hs P ts t w⟩
          · exact max_above (H1.out q rfl) hy.f1 (fmost_above hV q (by have := HL.out; omega)) hs
        go_wp2_with (fail)
        exact ⟨⟨j + 1, z, by omega, by go_num, rfl, fun hh => by omega, fun q hq => by (have e9 : q = j := by omega); rw [e9]; exact hz, (by repeat (first | assumption | exact Ext.refl _ | apply Ext.drewN | apply Ext.drew | apply Ext.alloc | (refine Ext.trans ?_ (by assumption)) | (refine Ext.set ?_ (by dsimp only; omega) _)))⟩, by simp [intOf]; omega⟩
      · have hjk : j = k + 1 := by omega
        subst hjk
        have hr := H1.out k rfl
        go_wp2_with (first | (apply upon_fop rfl; (first | assumption | exact Fl.const (of_decide_eq_true (by kernel_rfl))); (first | assumption | exact Fl.const (of_decide_eq_true (by kernel_rfl))); intro r n hr) | (go_at_call 71; refine Calls.mono (c_finiteNumber (X := fsteep L k) (by assumption) _) ?_; rintro e w1 ⟨r3, rfl, hr3, n1, rfl⟩))
        go_ret2
        exact ⟨_, rfl, by assumption, (by repeat (first | assumption | exact Ext.refl _ | apply Ext.drewN | apply Ext.drew | apply Ext.alloc | (refine Ext.trans ?_ (by assumption)) | (refine Ext.set ?_ (by dsimp only; omega) _)))⟩
end Go.Proofs.Ytkoiimjpalhgbab
