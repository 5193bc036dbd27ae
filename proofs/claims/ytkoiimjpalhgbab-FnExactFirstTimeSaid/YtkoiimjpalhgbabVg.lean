/- Contracts: whether a ground is valid, on both sides. Condition: the ground is read (GpAt, RdL). -/
import Derived.Test.YtkoiimjpalhgbabGc
import Derived.Test.YtkoiimjpalhgbabG1
namespace Go.Proofs.Ytkoiimjpalhgbab
open Go.RowKit Ieee

/-- A ground at block b. -/
structure GpAt (w : World) (b : Nat) (A : Option Addr) (n c s d : Nat) : Prop where
  c0 : w.cell? ⟨b, 0, none⟩ = some (.slice A n c)
  c1 : w.cell? ⟨b, 1, none⟩ = some (.float .f32 s)
  c2 : w.cell? ⟨b, 2, none⟩ = some (.float .f32 d)
  lt : b < w.heap.size
theorem GpAt.ext {w w' : World} {b n c s d : Nat} {A : Option Addr} (h : GpAt w b A n c s d) (hx : Ext w w') : GpAt w' b A n c s d :=
  ⟨(hx.cell h.lt).trans h.c0, (hx.cell h.lt).trans h.c1, (hx.cell h.lt).trans h.c2, Nat.lt_of_lt_of_le h.lt hx.size⟩
theorem GpAt.blk {w : World} {b n c s d : Nat} {A : Option Addr} {t : TypeId} (hg : w.heap[b]? = some (.cells #[.slice A n c, .float .f32 s, .float .f32 d] t (0, 0))) : GpAt w b A n c s d := by
  obtain ⟨e0, e1, e2, _, _, _⟩ := three_cells hg
  exact ⟨e0, e1, e2, blk_lt hg⟩

theorem valid_short {L : List Ly} {S D : Option Nat} (h : L.length < 1) : fvalid L S D = false := by
  unfold fvalid; rw [show decide (1 ≤ L.length) = false from decide_eq_false (by omega)]; rfl
theorem valid_long {L : List Ly} {S D : Option Nat} (h : 12 < L.length) : fvalid L S D = false := by
  unfold fvalid; rw [show decide (L.length ≤ 12) = false from decide_eq_false (by omega)]; simp
theorem valid_S {L : List Ly} {S D : Option Nat} (h : fabove S = false) : fvalid L S D = false := by unfold fvalid; rw [h]; simp
theorem valid_D {L : List Ly} {S D : Option Nat} (h : fabove D = false) : fvalid L S D = false := by unfold fvalid; rw [h]; simp
theorem valid_all {L : List Ly} {S D : Option Nat} (h : L.all fly = false) : fvalid L S D = false := by unfold fvalid; rw [h]; simp
theorem valid_yes {L : List Ly} {S D : Option Nat} (h1 : 1 ≤ L.length) (h2 : L.length ≤ 12) (h3 : L.all fly = true) (h4 : fabove S = true) (h5 : fabove D = true) : fvalid L S D = true := by
  unfold fvalid; rw [h3, h4, h5]; simp [h1, h2]
theorem fly_t {y : Ly} (h : fabove y.t = false) : fly y = false := by unfold fly; rw [h]; rfl
theorem fly_s {y : Ly} (h : fabove y.s = false) : fly y = false := by unfold fly; rw [h]; simp
theorem fly_d {y : Ly} (h : fabove y.d = false) : fly y = false := by unfold fly; rw [h]; simp
theorem fly_l {y : Ly} (h : (ge0 y.l && lt1 y.l) = false) : fly y = false := by unfold fly; rw [h]; simp
theorem fly_yes {y : Ly} (h1 : fabove y.t = true) (h2 : fabove y.s = true) (h3 : fabove y.d = true) (h4 : ge0 y.l = true) (h5 : lt1 y.l = true) : fly y = true := by unfold fly; rw [h1, h2, h3, h4, h5]; rfl
theorem take_all {L : List Ly} {n : Nat} (h : L.length = n) : L.take n = L := List.take_of_length_le (by omega)

set_option maxRecDepth 20000 in
set_option maxHeartbeats 4000000 in
theorem c_l02Is {w : World} {b n c s d : Nat} {A : Option Addr} {L : List Ly} {S D : Option Nat} (hp : GpAt w b A n c s d) (h : RdL w A n L) (fs : Fl .f32 s S) (fd : Fl .f32 d D) :
    Calls Try.prog 76 #[.pointer (some ⟨b, 0, none⟩)] w fun e w' => e = .returned (.bool (fvalid L S D)) ∧ Dr w w' := by
  have hl := h.len
  have p0 := hp.c0
  have p1 := hp.c1
  have p2 := hp.c2
  rcases Nat.lt_or_ge n 1 with g1 | g1
  · rw [valid_short (by omega)]
    have i1 : (n : Int) < 1 := by omega
    clear hl g1
    go_enter Try.func76, Try.ntmps76
    go_wp2_with (fail)
    go_ret
    exact ⟨rfl, 0, rfl⟩
  rcases Nat.lt_or_ge 12 n with g2 | g2
  · rw [valid_long (by omega)]
    have i1 : ¬ (n : Int) < 1 := by omega
    have i2 : (12 : Int) < n := by omega
    clear hl g1 g2
    go_enter Try.func76, Try.ntmps76
    go_wp2_with (fail)
    go_ret
    exact ⟨rfl, 0, rfl⟩
  have i1 : ¬ (n : Int) < 1 := by omega
  have i2 : ¬ (12 : Int) < n := by omega
  have HL := Lib.hid hl
  have G1 := Lib.hid g1
  have G2 := Lib.hid g2
  clear hl g1 g2
  cases hS : fabove S
  · rw [valid_S hS]
    go_enter Try.func76, Try.ntmps76
    go_wp2_with (go_at_call 66; refine Calls.mono (c_l02Above fs _) ?_; rw [hS]; rintro e w' ⟨rfl, n1, rfl⟩)
    go_ret
    exact ⟨rfl, _, rfl⟩
  cases hD : fabove D
  · rw [valid_D hD]
    go_enter Try.func76, Try.ntmps76
    go_wp2_with (go_at_call 66; refine Calls.mono (c_l02Above (by assumption) _) ?_; (first | rw [hS] | rw [hD]); rintro e w' ⟨rfl, n1, rfl⟩)
    go_ret
    exact ⟨rfl, _, rfl⟩
  go_enter Try.func76, Try.ntmps76
  go_wp2_with (go_at_call 66; refine Calls.mono (c_l02Above (by assumption) _) ?_; (first | rw [hS] | rw [hD]); rintro e w' ⟨rfl, n1, rfl⟩)
  go_loopw [3] (fun i wr => ∃ k : Nat, k ≤ n ∧ i = .int .i64 k ∧ (L.take k).all fly = true ∧ Dr w wr) (fun i _ => n - (intOf i).toNat)
  case atStart => exact ⟨0, Nat.zero_le _, rfl, rfl, _, rfl⟩
  case round =>
    obtain ⟨k, hk, rfl, ha, m, rfl⟩ := hrel
    have HA := Lib.hid ha
    clear ha
    by_cases hlt : k < n
    · obtain ⟨b', off, r0, r1, r2, r3, rfl, hb, hy⟩ := h.cell hlt
      have hnx : (L.take (k + 1)).all fly = (true && fly (L.getD k default)) := by rw [all_take_succ L k (by have := HL.out; omega), HA.out]
      have hno : fly (L.getD k default) = false → fvalid L S D = false := fun hf => valid_all (all_false (k := k) (by have := HL.out; omega) hf)
      generalize L.getD k default = y at hy hnx hno
      have HNX := Lib.hid hnx
      have HNO := Lib.hid hno
      clear hnx hno
      have hc0 := hy.c0
      have hc1 := hy.c1
      have hc2 := hy.c2
      have hc3 := hy.c3
      have hge := hy.f3.oge0
      have hl1 := hy.f3.olt1
      have q0 := hy.f0
      have q1 := hy.f1
      have q2 := hy.f2
      cases hT : fabove y.t
      · have hend := Lib.hid (HNO.out (fly_t hT)).symm
        go_wp2_with (go_at_call 66; refine Calls.mono (c_l02Above q0 _) ?_; rw [hT]; rintro e w' ⟨rfl, n1, rfl⟩)
        go_ret
        exact ⟨retb hend.out, _, rfl⟩
      cases hV : fabove y.s
      · have hend := Lib.hid (HNO.out (fly_s hV)).symm
        go_wp2_with (go_at_call 66; refine Calls.mono (c_l02Above (by assumption) _) ?_; (first | rw [hT] | rw [hV]); rintro e w' ⟨rfl, n1, rfl⟩)
        go_ret
        exact ⟨retb hend.out, _, rfl⟩
      cases hW : fabove y.d
      · have hend := Lib.hid (HNO.out (fly_d hW)).symm
        go_wp2_with (go_at_call 66; refine Calls.mono (c_l02Above (by assumption) _) ?_; (first | rw [hT] | rw [hV] | rw [hW]); rintro e w' ⟨rfl, n1, rfl⟩)
        go_ret
        exact ⟨retb hend.out, _, rfl⟩
      cases hG : ge0 y.l
      · have hend := Lib.hid (HNO.out (fly_l (by rw [hG]; rfl))).symm
        rw [hG] at hge
        go_wp2_with (go_at_call 66; refine Calls.mono (c_l02Above (by assumption) _) ?_; (first | rw [hT] | rw [hV] | rw [hW]); rintro e w' ⟨rfl, n1, rfl⟩)
        go_ret
        exact ⟨retb hend.out, _, rfl⟩
      cases hU : lt1 y.l
      · have hend := Lib.hid (HNO.out (fly_l (by rw [hU]; simp))).symm
        rw [hG] at hge
        rw [hU] at hl1
        go_wp2_with (go_at_call 66; refine Calls.mono (c_l02Above (by assumption) _) ?_; (first | rw [hT] | rw [hV] | rw [hW]); rintro e w' ⟨rfl, n1, rfl⟩)
        go_ret
        exact ⟨retb hend.out, _, rfl⟩
      rw [hG] at hge
      rw [hU] at hl1
      go_wp2_with (go_at_call 66; refine Calls.mono (c_l02Above (by assumption) _) ?_; (first | rw [hT] | rw [hV] | rw [hW]); rintro e w' ⟨rfl, n1, rfl⟩)
      exact ⟨⟨k + 1, by omega, by go_num, by rw [HNX.out, fly_yes hT hV hW hG hU]; rfl, _, rfl⟩, by simp [intOf]; omega⟩
    · have hkn : k = n := by omega
      subst hkn
      have hend := Lib.hid (valid_yes (S := S) (D := D) (by rw [HL.out]; exact G1.out) (by rw [HL.out]; exact G2.out) (by have := HA.out; rwa [take_all HL.out] at this) hS hD).symm
      go_wp2_with (fail)
      go_ret
      exact ⟨retb hend.out, _, rfl⟩
set_option maxRecDepth 20000 in
set_option maxHeartbeats 4000000 in
theorem c_isLayer {r0 r1 r2 r3 : Nat} {y : Ly} (q0 : Fl .f32 r0 y.t) (q1 : Fl .f32 r1 y.s) (q2 : Fl .f32 r2 y.d) (q3 : Fl .f32 r3 y.l) (w : World) :
    Calls Try.prog 111 #[.agg #[.float .f32 r0, .float .f32 r1, .float .f32 r2, .float .f32 r3]] w fun e w' => e = .returned (.bool (fly y)) ∧ Ext w w' := by
  have hge := q3.oge0
  have hl1 := q3.olt1
  cases hT : fabove y.t
  · rw [fly_t hT]
    go_enter Try.func111, Try.ntmps111
    go_wp2_with (go_at_call 70; refine Calls.mono (c_isPositive q0 _) ?_; rw [hT]; rintro e w' ⟨rfl, n1, rfl⟩)
    go_ret
    exact ⟨rfl, (by repeat (first | assumption | exact Ext.refl _ | apply Ext.drewN | apply Ext.drew | apply Ext.alloc | (refine Ext.trans ?_ (by assumption)) | (refine Ext.set ?_ (by dsimp only; omega) _)))⟩
  cases hV : fabove y.s
  · rw [fly_s hV]
    go_enter Try.func111, Try.ntmps111
    go_wp2_with (go_at_call 70; refine Calls.mono (c_isPositive (by assumption) _) ?_; (first | rw [hT] | rw [hV]); rintro e w' ⟨rfl, n1, rfl⟩)
    go_ret
    exact ⟨rfl, (by repeat (first | assumption | exact Ext.refl _ | apply Ext.drewN | apply Ext.drew | apply Ext.alloc | (refine Ext.trans ?_ (by assumption)) | (refine Ext.set ?_ (by dsimp only; omega) _)))⟩
  cases hW : fabove y.d
  · rw [fly_d hW]
    go_enter Try.func111, Try.ntmps111
    go_wp2_with (go_at_call 70; refine Calls.mono (c_isPositive (by assumption) _) ?_; (first | rw [hT] | rw [hV] | rw [hW]); rintro e w' ⟨rfl, n1, rfl⟩)
    go_ret
    exact ⟨rfl, (by repeat (first | assumption | exact Ext.refl _ | apply Ext.drewN | apply Ext.drew | apply Ext.alloc | (refine Ext.trans ?_ (by assumption)) | (refine Ext.set ?_ (by dsimp only; omega) _)))⟩
  have hf : fly y = (ge0 y.l && lt1 y.l) := by unfold fly; rw [hT, hV, hW]; rfl
  rw [hf]
  cases hG : ge0 y.l
  · rw [hG] at hge
    go_enter Try.func111, Try.ntmps111
    go_wp2_with (go_at_call 70; refine Calls.mono (c_isPositive (by assumption) _) ?_; (first | rw [hT] | rw [hV] | rw [hW]); rintro e w' ⟨rfl, n1, rfl⟩)
    go_ret
    exact ⟨rfl, (by repeat (first | assumption | exact Ext.refl _ | apply Ext.drewN | apply Ext.drew | apply Ext.alloc | (refine Ext.trans ?_ (by assumption)) | (refine Ext.set ?_ (by dsimp only; omega) _)))⟩
  rw [hG] at hge
  cases hU : lt1 y.l
  all_goals
    rw [hU] at hl1
    go_enter Try.func111, Try.ntmps111
    go_wp2_with (go_at_call 70; refine Calls.mono (c_isPositive (by assumption) _) ?_; (first | rw [hT] | rw [hV] | rw [hW]); rintro e w' ⟨rfl, n1, rfl⟩)
    go_ret
    exact ⟨rfl, (by repeat (first | assumption | exact Ext.refl _ | apply Ext.drewN | apply Ext.drew | apply Ext.alloc | (refine Ext.trans ?_ (by assumption)) | (refine Ext.set ?_ (by dsimp only; omega) _)))⟩
set_option maxRecDepth 20000 in
set_option maxHeartbeats 4000000 in
theorem c_ValidGround {w : World} {n c s d : Nat} {A : Option Addr} {L : List Ly} {S D : Option Nat} (h : RdL w A n L) (fs : Fl .f32 s S) (fd : Fl .f32 d D) :
    Calls Try.prog 77 #[.agg #[.slice A n c, .float .f32 s, .float .f32 d]] w fun e w' => e = .returned (.bool (fvalid L S D)) ∧ Ext w w' := by
  have hl := h.len
  rcases Nat.lt_or_ge n 1 with g1 | g1
  · rw [valid_short (by omega)]
    have i1 : (n : Int) < 1 := by omega
    clear hl g1
    go_enter Try.func77, Try.ntmps77
    go_wp2_with (fail)
    go_ret
    exact ⟨rfl, (by repeat (first | assumption | exact Ext.refl _ | apply Ext.drewN | apply Ext.drew | apply Ext.alloc | (refine Ext.trans ?_ (by assumption)) | (refine Ext.set ?_ (by dsimp only; omega) _)))⟩
  rcases Nat.lt_or_ge 12 n with g2 | g2
  · rw [valid_long (by omega)]
    have i1 : ¬ (n : Int) < 1 := by omega
    have i2 : (12 : Int) < n := by omega
    clear hl g1 g2
    go_enter Try.func77, Try.ntmps77
    go_wp2_with (fail)
    go_ret
    exact ⟨rfl, (by repeat (first | assumption | exact Ext.refl _ | apply Ext.drewN | apply Ext.drew | apply Ext.alloc | (refine Ext.trans ?_ (by assumption)) | (refine Ext.set ?_ (by dsimp only; omega) _)))⟩
  have i1 : ¬ (n : Int) < 1 := by omega
  have i2 : ¬ (12 : Int) < n := by omega
  have HL := Lib.hid hl
  have G1 := Lib.hid g1
  have G2 := Lib.hid g2
  clear hl g1 g2
  have hbox : GpAt (w.alloc (.cells #[.slice A n c, .float .f32 s, .float .f32 d] 31)) w.heap.size A n c s d := GpAt.blk (t := 31) (by repeat (first | (refine al_at ?_ ?_ <;> first | rfl | (simp only [al_size] <;> omega)) | apply al_old))
  go_enter Try.func77, Try.ntmps77
  go_wp2_with (fail)
  go_loopw [18] (fun i wr => ∃ k : Nat, k ≤ n ∧ i = .int .i64 k ∧ (L.take k).all fly = true ∧ Ext (w.alloc (.cells #[.slice A n c, .float .f32 s, .float .f32 d] 31)) wr) (fun i _ => n - (intOf i).toNat)
  case atStart => exact ⟨0, Nat.zero_le _, rfl, rfl, Ext.refl _⟩
  case round =>
    obtain ⟨k, hk, rfl, ha, hx⟩ := hrel
    have HA := Lib.hid ha
    clear ha
    have p0 := (hbox.ext hx).c0
    have p1 := (hbox.ext hx).c1
    have p2 := (hbox.ext hx).c2
    by_cases hlt : k < n
    · obtain ⟨b', off, r0, r1, r2, r3, rfl, hb, hy⟩ := (h.ext (w' := wr) (by repeat (first | assumption | exact Ext.refl _ | apply Ext.drewN | apply Ext.drew | apply Ext.alloc | (refine Ext.trans ?_ (by assumption)) | (refine Ext.set ?_ (by dsimp only; omega) _)))).cell hlt
      have hnx : (L.take (k + 1)).all fly = (true && fly (L.getD k default)) := by rw [all_take_succ L k (by have := HL.out; omega), HA.out]
      have hno : fly (L.getD k default) = false → fvalid L S D = false := fun hf => valid_all (all_false (k := k) (by have := HL.out; omega) hf)
      generalize L.getD k default = y at hy hnx hno
      have HNX := Lib.hid hnx
      have HNO := Lib.hid hno
      clear hnx hno
      have hc0 := hy.c0
      have hc1 := hy.c1
      have hc2 := hy.c2
      have hc3 := hy.c3
      cases hF : fly y
      · have hend := Lib.hid (HNO.out hF).symm
        go_wp2_with (go_at_call 111; refine Calls.mono (c_isLayer hy.f0 hy.f1 hy.f2 hy.f3 _) ?_; rw [hF]; rintro e w1 ⟨rfl, hx1⟩)
        go_ret
        exact ⟨retb hend.out, (by repeat (first | assumption | exact Ext.refl _ | apply Ext.drewN | apply Ext.drew | apply Ext.alloc | (refine Ext.trans ?_ (by assumption)) | (refine Ext.set ?_ (by dsimp only; omega) _)))⟩
      · go_wp2_with (go_at_call 111; refine Calls.mono (c_isLayer hy.f0 hy.f1 hy.f2 hy.f3 _) ?_; rw [hF]; rintro e w1 ⟨rfl, hx1⟩)
        exact ⟨⟨k + 1, by omega, by go_num, by rw [HNX.out, hF]; rfl, (by repeat (first | assumption | exact Ext.refl _ | apply Ext.drewN | apply Ext.drew | apply Ext.alloc | (refine Ext.trans ?_ (by assumption)) | (refine Ext.set ?_ (by dsimp only; omega) _)))⟩, by simp [intOf]; omega⟩
    · have hkn : k = n := by omega
      subst hkn
      have hall := Lib.hid (take_all (L := L) HL.out ▸ HA.out : L.all fly = true)
      cases hS : fabove S
      · have hend := Lib.hid (valid_S (L := L) (D := D) hS).symm
        go_wp2_with (go_at_call 70; refine Calls.mono (c_isPositive fs _) ?_; rw [hS]; rintro e w' ⟨rfl, n1, rfl⟩)
        go_ret
        exact ⟨retb hend.out, (by repeat (first | assumption | exact Ext.refl _ | apply Ext.drewN | apply Ext.drew | apply Ext.alloc | (refine Ext.trans ?_ (by assumption)) | (refine Ext.set ?_ (by dsimp only; omega) _)))⟩
      cases hD : fabove D
      · have hend := Lib.hid (valid_D (L := L) (S := S) hD).symm
        go_wp2_with (go_at_call 70; refine Calls.mono (c_isPositive (by assumption) _) ?_; (first | rw [hS] | rw [hD]); rintro e w' ⟨rfl, n1, rfl⟩)
        go_ret
        exact ⟨retb hend.out, (by repeat (first | assumption | exact Ext.refl _ | apply Ext.drewN | apply Ext.drew | apply Ext.alloc | (refine Ext.trans ?_ (by assumption)) | (refine Ext.set ?_ (by dsimp only; omega) _)))⟩
      · have hend := Lib.hid (valid_yes (S := S) (D := D) (by rw [HL.out]; exact G1.out) (by rw [HL.out]; exact G2.out) hall.out hS hD).symm
        go_wp2_with (go_at_call 70; refine Calls.mono (c_isPositive (by assumption) _) ?_; (first | rw [hS] | rw [hD]); rintro e w' ⟨rfl, n1, rfl⟩)
        go_ret
        exact ⟨retb hend.out, (by repeat (first | assumption | exact Ext.refl _ | apply Ext.drewN | apply Ext.drew | apply Ext.alloc | (refine Ext.trans ?_ (by assumption)) | (refine Ext.set ?_ (by dsimp only; omega) _)))⟩
end Go.Proofs.Ytkoiimjpalhgbab
