/- Lists of floats that a call owns: read, marked, found so; layers marked. No condition but sizes. -/
import Derived.Test.YtkoiimjpalhgbabGc
import Derived.Test.YtkoiimjpalhgbabC2
import Derived.OwnWalk
namespace Go.Proofs.Ytkoiimjpalhgbab
open Go.RowKit Ieee

/-- The mark of a number. -/
def mk (k : Nat) : Nat := floatOfInt .f32 (k : Int)
theorem mk_lt (k : Nat) : mk k < 2 ^ FloatKind.f32.format.width := FloatKind.f32.format.write_lt (.number (((k : Int)) < 0) (k : Int).natAbs 0)
theorem mk_fl (k : Nat) : fl .f32 (mk k) = some (mk k) := encode_fl (k := .f32) (d := .number (((k : Int)) < 0) (k : Int).natAbs 0) rfl
theorem mk_same (k : Nat) : (FloatKind.f32.format.order (mk k) (mk k) != some .eq) = false := by rw [order_self_ne, mk_fl]; rfl
theorem fl_mk (k : Nat) : Fl .f32 (mk k) (some (mk k)) := ⟨mk_fl k, mk_lt k⟩
theorem mk_int (k : Nat) : floatOfInt .f32 (k : Int) = mk k := rfl
def marks (k n : Nat) : List (Option Nat) := (List.range n).map fun j => some (mk (k + j))
theorem marks_len (k n : Nat) : (marks k n).length = n := by simp [marks]
theorem marks_at {k n j : Nat} (h : j < n) : (marks k n).getD j none = some (mk (k + j)) := by simp [marks, List.getD, h]

/-- Blocks from lo to hi are the same. -/
def Same (lo hi : Nat) (w w' : World) : Prop := ∀ k, lo ≤ k → k < hi → w'.heap[k]? = w.heap[k]?
theorem Same.refl (lo hi : Nat) (w : World) : Same lo hi w w := fun _ _ _ => rfl
theorem Same.trans {lo hi : Nat} {a b c : World} (h : Same lo hi a b) (h' : Same lo hi b c) : Same lo hi a c := fun k h1 h2 => (h' k h1 h2).trans (h k h1 h2)
theorem Ext.same {lo hi : Nat} {a b : World} (h : Ext a b) (hh : hi ≤ a.heap.size) : Same lo hi a b := fun k _ h2 => h.block k (by omega)

/-- Only blocks from lo to hi may have turned. -/
structure Kb (lo hi : Nat) (w w' : World) : Prop where
  below : Below lo w w'
  above : ∀ k, hi ≤ k → k < w.heap.size → w'.heap[k]? = w.heap[k]?
theorem Kb.refl (lo hi : Nat) (w : World) : Kb lo hi w w := ⟨Below.refl _ _, fun _ _ _ => rfl⟩
theorem Kb.set {lo hi : Nat} {a b : World} (h : Kb lo hi a b) {p : Addr} (h1 : lo ≤ p.block) (h2 : p.block < hi) (v : Value) : Kb lo hi a (b.setCell p v) :=
  ⟨h.below.setCell h1 v, fun k hk hs => (Below.heap_setCell b p v k (by omega)).trans (h.above k hk hs)⟩
theorem Kb.drewN {lo hi : Nat} {a b : World} (h : Kb lo hi a b) (n : Nat) : Kb lo hi a (b.drewN n) := ⟨⟨h.below.os, h.below.tape, h.below.output, h.below.size, h.below.block⟩, h.above⟩
theorem Kb.sameL {lo hi l r : Nat} {a b : World} (h : Kb lo hi a b) (hh : r ≤ lo) : Same l r a b := fun k _ h2 => h.below.block k (by omega)
theorem Kb.sameR {lo hi l r : Nat} {a b : World} (h : Kb lo hi a b) (hh : hi ≤ l) (hr : r ≤ a.heap.size) : Same l r a b := fun k h1 h2 => h.above k (by omega) (by omega)
theorem Kb.ext {lo hi : Nat} {a b c : World} (h : Kb lo hi b c) (hx : Ext a b) (hl : a.heap.size ≤ lo) : Ext a c := Below.trans hx (h.below.mono hl)

/-- The slice of address A and length n holds L, in a block from lo to hi that begins there. -/
structure OwL (w : World) (lo hi : Nat) (A : Option Addr) (n : Nat) (L : List (Option Nat)) : Prop where
  len : L.length = n
  at_ : n = 0 ∨ ∃ g off cs, A = some ⟨g, off, none⟩ ∧ lo ≤ g ∧ g < hi ∧ w.heap[g]? = some (.cells cs 23 (0, 0)) ∧ off + n ≤ cs.size ∧ ∀ j, j < n → ∃ r, cs[off + j]? = some (.float .f32 r) ∧ Fl .f32 r (L.getD j none)
theorem OwL.rd {w : World} {lo hi n : Nat} {A : Option Addr} {L : List (Option Nat)} (h : OwL w lo hi A n L) : RdF w hi A n L := by
  refine ⟨h.len, fun k hk => ?_⟩
  rcases h.at_ with h0 | ⟨g, off, cs, rfl, h1, h2, hg, hs, hc⟩
  · omega
  · refine ⟨g, off, rfl, h2, fun j hj => ?_⟩
    obtain ⟨r, e1, e2⟩ := hc j hj
    exact ⟨r, by rw [cell_of_row w g _ cs _ (0, 0) hg]; exact e1, e2⟩
theorem OwL.same {w w' : World} {lo hi n : Nat} {A : Option Addr} {L : List (Option Nat)} (h : OwL w lo hi A n L) (hs : Same lo hi w w') : OwL w' lo hi A n L := by
  refine ⟨h.len, ?_⟩
  rcases h.at_ with h0 | ⟨g, off, cs, hA, h1, h2, hg, hrest⟩
  · exact .inl h0
  · exact .inr ⟨g, off, cs, hA, h1, h2, (hs g h1 h2).trans hg, hrest⟩
theorem OwL.nil (w : World) (lo hi : Nat) (A : Option Addr) : OwL w lo hi A 0 [] := ⟨rfl, .inl rfl⟩

theorem mark_step {cs : Array Value} {off k k0 : Nat} (hk : off + k < cs.size) (h : ∀ j, j < k → cs[off + j]? = some (.float .f32 (mk (k0 + j)))) :
    ∀ j, j < k + 1 → (cs.setIfInBounds (off + k) (.float .f32 (mk (k0 + k))))[off + j]? = some (.float .f32 (mk (k0 + j))) := by
  intro j hj
  by_cases hjk : j = k
  · subst hjk; simp [hk]
  · rw [Array.getElem?_setIfInBounds, if_neg (by omega)]; exact h j (by omega)

set_option maxRecDepth 20000 in
set_option maxHeartbeats 1000000 in
theorem c_markFloat32S {w : World} {lo hi n c k0 : Nat} {A : Option Addr} {L : List (Option Nat)} (h : OwL w lo hi A n L) (hn : n ≤ 1048576) (hk0 : k0 ≤ 1000000000) :
    Calls Try.prog 35 #[.slice A n c, .int .i64 (k0 : Int)] w fun e w' => e = .returned (.int .i64 ((k0 + n : Nat) : Int)) ∧ OwL w' lo hi A n (marks k0 n) ∧ Kb lo hi w w' := by
  rcases Nat.eq_zero_or_pos n with rfl | hpos
  · go_enter Try.func35, Try.ntmps35
    go_wp2_with (fail)
    go_loopw [1, 5] (fun k i wr => k = .int .i64 (k0 : Int) ∧ i = .int .i64 0 ∧ wr = w) (fun _ _ _ => 0)
    case atStart => exact ⟨rfl, rfl, rfl⟩
    case round =>
      obtain ⟨rfl, rfl, rfl⟩ := hrel
      go_wp2_with (fail)
      go_ret
      exact ⟨rfl, OwL.nil _ _ _ _, Kb.refl _ _ _⟩
  obtain ⟨g, off, cs0, rfl, hlo, hhi, hg0, hsz0, _⟩ := h.at_.resolve_left (by omega)
  go_enter Try.func35, Try.ntmps35
  go_wp2_with (fail)
  go_loopw [1, 5] (fun q i wr => ∃ (k : Nat) (cs : Array Value), k ≤ n ∧ i = .int .i64 k ∧ q = .int .i64 ((k0 + k : Nat) : Int) ∧ wr.heap[g]? = some (.cells cs 23 (0, 0)) ∧ off + n ≤ cs.size ∧ (∀ j, j < k → cs[off + j]? = some (.float .f32 (mk (k0 + j)))) ∧ Kb lo hi w wr) (fun _ i _ => n - (intOf i).toNat)
  case atStart => exact ⟨0, cs0, Nat.zero_le _, rfl, rfl, hg0, hsz0, fun j hj => absurd hj (Nat.not_lt_zero _), Kb.refl _ _ _⟩
  case round =>
    obtain ⟨k, cs, hk, rfl, rfl, hg, hsz, hp, hkb⟩ := hrel
    by_cases hlt : k < n
    · obtain ⟨u, hu⟩ : ∃ u, cs[off + k]? = some u := ⟨cs[off + k]'(by omega), Array.getElem?_eq_getElem (by omega)⟩
      have hold : wr.cell? ⟨g, off + k, none⟩ = some u := by rw [cell_of_row wr g _ cs _ (0, 0) hg]; exact hu
      have hfz : wr.frozen? ⟨g, off + k, none⟩ = false := by simp [World.frozen?, hg]
      have HG := Lib.hid hg
      have HP := Lib.hid hp
      have HS := Lib.hid hsz
      have hi' : (k : Int) < (n : Int) := by omega
      clear hg hp hsz hu
      have hmi := mk_int (k0 + k)
      go_wp2_with (fail)
      exact ⟨⟨k + 1, cs.setIfInBounds (off + k) (.float .f32 (mk (k0 + k))), by omega, by go_num, by go_num, blk_set1 HG.out _ _, by rw [Array.size_setIfInBounds]; exact HS.out, mark_step (by have := HS.out; omega) HP.out, hkb.set hlo hhi _⟩, by simp [intOf]; omega⟩
    · have hkn : k = n := by omega
      subst hkn
      go_wp2_with (fail)
      go_ret
      refine ⟨rfl, ⟨marks_len _ _, .inr ⟨g, off, cs, rfl, hlo, hhi, hg, hsz, fun j hj => ⟨_, hp j hj, ?_⟩⟩⟩, hkb⟩
      rw [marks_at hj]
      exact fl_mk _
set_option maxRecDepth 20000 in
set_option maxHeartbeats 1000000 in
theorem c_heldFloat32S {w : World} {B n c k0 : Nat} {A : Option Addr} (h : RdF w B A n (marks k0 n)) (hn : n ≤ 1048576) (hk0 : k0 ≤ 1000000000) :
    Calls Try.prog 36 #[.slice A n c, .int .i64 (k0 : Int)] w fun e w' => e = .returned (.int .i64 ((k0 + n : Nat) : Int)) ∧ w' = w := by
  go_enter Try.func36, Try.ntmps36
  go_wp2_with (fail)
  go_loopw [1, 5] (fun q i wr => ∃ k : Nat, k ≤ n ∧ i = .int .i64 k ∧ q = .int .i64 ((k0 + k : Nat) : Int) ∧ wr = w) (fun _ i _ => n - (intOf i).toNat)
  case atStart => exact ⟨0, Nat.zero_le _, rfl, rfl, rfl⟩
  case round =>
    obtain ⟨k, hk, rfl, rfl, rfl⟩ := hrel
    by_cases hlt : k < n
    · obtain ⟨b, off, r, rfl, hb, hc, hr⟩ := h.cell hlt
      rw [marks_at hlt] at hr
      obtain rfl := (fl_some hr.eq).1
      have hi' : (k : Int) < (n : Int) := by omega
      have hmi : floatOfInt .f32 ((k0 : Int) + (k : Int)) = mk (k0 + k) := by rw [← Int.natCast_add]; rfl
      have hms := mk_same (k0 + k)
      clear hr
      go_wp2_with (fail)
      exact ⟨⟨k + 1, by omega, by go_num, by go_num, trivial⟩, by simp [intOf]; omega⟩
    · have hkn : k = n := by omega
      subst hkn
      go_wp2_with (fail)
      go_ret
      exact ⟨rfl, rfl⟩
theorem Kb.trans {lo hi : Nat} {a b c : World} (h : Kb lo hi a b) (h' : Kb lo hi b c) : Kb lo hi a c :=
  ⟨h.below.trans h'.below, fun k hk hs => (h'.above k hk (Nat.lt_of_lt_of_le hs h.below.size)).trans (h.above k hk hs)⟩
theorem Ext.kb {lo hi : Nat} {a b : World} (h : Ext a b) (hl : lo ≤ a.heap.size) : Kb lo hi a b := ⟨h.mono hl, fun k _ hs => h.block k hs⟩
set_option maxRecDepth 20000 in
set_option maxHeartbeats 2000000 in
theorem c_markLayerS {w : World} {g n c k0 : Nat} {cs0 : Array Value} (hg0 : w.heap[g]? = some (.cells cs0 85 (0, 0))) (hsz0 : cs0.size = n * 4) (hn : n ≤ 1048576) (hk0 : k0 ≤ 1000000000) :
    Calls Try.prog 84 #[.slice (some ⟨g, 0, none⟩) n c, .int .i64 (k0 : Int)] w fun e w' => e = .returned (.int .i64 ((k0 + 4 * n : Nat) : Int)) ∧ Kb g (g + 1) w w' := by
  go_enter Try.func84, Try.ntmps84
  go_wp2_with (fail)
  go_loopw [1, 5] (fun q i wr => ∃ (k : Nat) (cs : Array Value), k ≤ n ∧ i = .int .i64 k ∧ q = .int .i64 ((k0 + 4 * k : Nat) : Int) ∧ wr.heap[g]? = some (.cells cs 85 (0, 0)) ∧ cs.size = n * 4 ∧ Kb g (g + 1) w wr) (fun _ i _ => n - (intOf i).toNat)
  case atStart => exact ⟨0, cs0, Nat.zero_le _, rfl, rfl, hg0, hsz0, Kb.refl _ _ _⟩
  case round =>
    obtain ⟨k, cs, hk, rfl, rfl, hg, hsz, hkb⟩ := hrel
    by_cases hlt : k < n
    · obtain ⟨u0, u1, u2, u3, e0, e1, e2, e3, z0, z1, z2, z3⟩ := four_cells hg hsz hlt
      have HG := Lib.hid hg
      have HS := Lib.hid hsz
      have hi' : (k : Int) < (n : Int) := by omega
      clear hg hsz
      go_wp2_with (fail)
      exact ⟨⟨k + 1, _, by omega, by go_num, by go_num, blk_set1 (blk_set1 (blk_set1 (blk_set1 HG.out _ _) _ _) _ _) _ _, by simp only [Array.size_setIfInBounds]; exact HS.out,
        (((hkb.set (Nat.le_refl _) (Nat.lt_succ_self _) _).set (Nat.le_refl _) (Nat.lt_succ_self _) _).set (Nat.le_refl _) (Nat.lt_succ_self _) _).set (Nat.le_refl _) (Nat.lt_succ_self _) _⟩, by simp [intOf]; omega⟩
    · have hkn : k = n := by omega
      subst hkn
      go_wp2_with (fail)
      go_ret
      exact ⟨rfl, hkb⟩
set_option maxRecDepth 20000 in
set_option maxHeartbeats 1000000 in
theorem c_markGround {w : World} {g n c s d k0 : Nat} {cs0 : Array Value} (hg0 : w.heap[g]? = some (.cells cs0 85 (0, 0))) (hsz0 : cs0.size = n * 4) (hn : n ≤ 1048576) (hk0 : k0 ≤ 1000000000) :
    Calls Try.prog 34 #[.agg #[.slice (some ⟨g, 0, none⟩) n c, .float .f32 s, .float .f32 d], .int .i64 (k0 : Int)] w fun e w' => e = .returned (.int .i64 ((k0 + 4 * n : Nat) : Int)) ∧ Kb g (g + 1) w w' := by
  have hlt := blk_lt hg0
  go_enter Try.func34, Try.ntmps34
  go_wp2_with (go_at_call 84; refine Calls.mono (c_markLayerS (Ext.blk (w := w) (by repeat (first | assumption | exact Ext.refl _ | apply Ext.drewN | apply Ext.drew | apply Ext.alloc | (refine Ext.trans ?_ (by assumption)) | (refine Ext.set ?_ (by dsimp only; omega) _))) hg0) hsz0 hn hk0) ?_; rintro e w1 ⟨rfl, hx1⟩)
  go_ret
  exact ⟨rfl, Kb.trans (Ext.kb (b := w.alloc _) (by repeat (first | assumption | exact Ext.refl _ | apply Ext.drewN | apply Ext.drew | apply Ext.alloc | (refine Ext.trans ?_ (by assumption)) | (refine Ext.set ?_ (by dsimp only; omega) _))) (Nat.le_of_lt hlt)) hx1⟩
end Go.Proofs.Ytkoiimjpalhgbab
