/- Contracts of what the laws do with grounds: copied, compared, measured. Condition: the layers are read (RdL). -/
import Derived.Test.YtkoiimjpalhgbabGm
import Derived.Test.YtkoiimjpalhgbabC1
import Derived.Deep.RegionWith
import Derived.Deep.OwnRows
namespace Go.Proofs.Ytkoiimjpalhgbab
open Go.RowKit Ieee

@[go_sem] theorem run_store_float (P : Program) (w : World) (a : Addr) (m : Mode) (k : FloatKind) (b : Nat) : (store a (.float k b) m).run P w = stored P w a (.float k b) m := run_store P w a _ m rfl

theorem run_make_lay (P : Program) (t e : TypeId) (ht : P.underlying t = some (.slice e)) (hinfo : (P.info? e).map (fun i => (i.zero, i.size, i.bytes)) = some (some (.agg #[.float .f32 0, .float .f32 0, .float .f32 0, .float .f32 0]), 4, 16))
    (n : Nat) (hn : n ≤ 1048576) (w : World) :
    (Instr.makeSlice t (.int .i64 (n : Int)) (.int .i64 (n : Int))).run P w = .ok (.slice (some ⟨w.heap.size, 0, none⟩) n n) (w.alloc (.cells (madeCells #[.float .f32 0, .float .f32 0, .float .f32 0, .float .f32 0] (n * 4)) e)) := by
  obtain ⟨i, hi, hzz⟩ := Option.map_eq_some_iff.1 hinfo
  simp only [Prod.mk.injEq] at hzz
  obtain ⟨hz, hs, hb⟩ := hzz
  have hr := run_make (P := P) w t e i _ ht hi hz .i64 .i64 n n (by omega) (Int.le_refl _) (by rw [hb]; omega) (by omega)
  simp only [Int.toNat_natCast, hs] at hr
  exact hr

theorem Ext.blk {w w' : World} (h : Ext w w') {g : Nat} {o : Obj} (hg : w.heap[g]? = some o) : w'.heap[g]? = some o := by
  have hlt : g < w.heap.size := by
    rcases Nat.lt_or_ge g w.heap.size with h1 | h1
    · exact h1
    · rw [Array.getElem?_eq_none h1] at hg; cases hg
  rw [h.block g hlt]; exact hg
theorem blk_lt {w : World} {g : Nat} {o : Obj} (hg : w.heap[g]? = some o) : g < w.heap.size := by
  rcases Nat.lt_or_ge g w.heap.size with h1 | h1
  · exact h1
  · rw [Array.getElem?_eq_none h1] at hg; cases hg
theorem al_size (w : World) (o : Obj) : (w.alloc o).heap.size = w.heap.size + 1 := by simp
theorem al_at {w : World} {o x : Obj} {k : Nat} (hk : k = w.heap.size) (hx : o = x) : (w.alloc o).heap[k]? = some x := by
  subst hk; subst hx; exact heap_alloc_new w o
theorem al_old {w : World} {o x : Obj} {k : Nat} (h : w.heap[k]? = some x) : (w.alloc o).heap[k]? = some x := by
  rw [Below.heap_alloc w o k (blk_lt h)]; exact h
theorem set_other {w : World} {p : Addr} {v : Value} {k : Nat} {x : Obj} (h : w.heap[k]? = some x) (hk : k ≠ p.block) : (w.setCell p v).heap[k]? = some x := by
  rw [Below.heap_setCell w p v k hk]; exact h
theorem four_cells {w : World} {g n k : Nat} {cs : Array Value} {t : TypeId} (hg : w.heap[g]? = some (.cells cs t (0, 0))) (hsz : cs.size = n * 4) (hk : k < n) :
    ∃ u0 u1 u2 u3, w.cell? ⟨g, k * 4, none⟩ = some u0 ∧ w.cell? ⟨g, k * 4 + 1, none⟩ = some u1 ∧ w.cell? ⟨g, k * 4 + 2, none⟩ = some u2 ∧ w.cell? ⟨g, k * 4 + 3, none⟩ = some u3 ∧
      w.frozen? ⟨g, k * 4, none⟩ = false ∧ w.frozen? ⟨g, k * 4 + 1, none⟩ = false ∧ w.frozen? ⟨g, k * 4 + 2, none⟩ = false ∧ w.frozen? ⟨g, k * 4 + 3, none⟩ = false := by
  refine ⟨cs[k * 4]'(by omega), cs[k * 4 + 1]'(by omega), cs[k * 4 + 2]'(by omega), cs[k * 4 + 3]'(by omega), ?_, ?_, ?_, ?_, ?_, ?_, ?_, ?_⟩
  all_goals first | (rw [cell_of_row w g _ cs _ (0, 0) hg]; exact Array.getElem?_eq_getElem (by omega)) | simp [World.frozen?, hg]
theorem blk_set1 {w : World} {g : Nat} {cs : Array Value} {t : TypeId} (hg : w.heap[g]? = some (.cells cs t (0, 0))) (k : Nat) (v : Value) :
    (w.setCell ⟨g, k, none⟩ v).heap[g]? = some (.cells (cs.setIfInBounds k v) t (0, 0)) := by
  simp [World.setCell, Array.getElem?_modify, hg]

/-- The first k layers of a row are those of L. -/
def LyCs (cs : Array Value) (k : Nat) (L : List Ly) : Prop :=
  ∀ j, j < k → ∃ r0 r1 r2 r3, (cs[j * 4]? = some (.float .f32 r0) ∧ cs[j * 4 + 1]? = some (.float .f32 r1) ∧ cs[j * 4 + 2]? = some (.float .f32 r2) ∧ cs[j * 4 + 3]? = some (.float .f32 r3)) ∧
    Fl .f32 r0 (L.getD j default).t ∧ Fl .f32 r1 (L.getD j default).s ∧ Fl .f32 r2 (L.getD j default).d ∧ Fl .f32 r3 (L.getD j default).l
/-- A row with a layer stored at k. -/
def put4 (cs : Array Value) (k : Nat) (v0 v1 v2 v3 : Value) : Array Value := (((cs.setIfInBounds (k * 4) v0).setIfInBounds (k * 4 + 1) v1).setIfInBounds (k * 4 + 2) v2).setIfInBounds (k * 4 + 3) v3
theorem put4_size (cs : Array Value) (k : Nat) (v0 v1 v2 v3 : Value) : (put4 cs k v0 v1 v2 v3).size = cs.size := by simp [put4]
theorem put4_other (cs : Array Value) (k i : Nat) (v0 v1 v2 v3 : Value) (h : i < k * 4 ∨ k * 4 + 4 ≤ i) : (put4 cs k v0 v1 v2 v3)[i]? = cs[i]? := by
  unfold put4
  simp only [Array.getElem?_setIfInBounds]
  rw [if_neg (by omega), if_neg (by omega), if_neg (by omega), if_neg (by omega)]
theorem put4_at (cs : Array Value) (k : Nat) (v0 v1 v2 v3 : Value) (h : k * 4 + 4 ≤ cs.size) :
    (put4 cs k v0 v1 v2 v3)[k * 4]? = some v0 ∧ (put4 cs k v0 v1 v2 v3)[k * 4 + 1]? = some v1 ∧ (put4 cs k v0 v1 v2 v3)[k * 4 + 2]? = some v2 ∧ (put4 cs k v0 v1 v2 v3)[k * 4 + 3]? = some v3 := by
  unfold put4
  refine ⟨?_, ?_, ?_, ?_⟩ <;> simp [Array.getElem?_setIfInBounds] <;> omega
theorem LyCs.step {cs : Array Value} {k n : Nat} {L : List Ly} (h : LyCs cs k L) (hsz : cs.size = n * 4) (hk : k < n) {r0 r1 r2 r3 : Nat}
    (g0 : Fl .f32 r0 (L.getD k default).t) (g1 : Fl .f32 r1 (L.getD k default).s) (g2 : Fl .f32 r2 (L.getD k default).d) (g3 : Fl .f32 r3 (L.getD k default).l) :
    LyCs (put4 cs k (.float .f32 r0) (.float .f32 r1) (.float .f32 r2) (.float .f32 r3)) (k + 1) L := by
  intro j hj
  by_cases hjk : j = k
  · subst hjk
    exact ⟨r0, r1, r2, r3, put4_at cs j _ _ _ _ (by omega), g0, g1, g2, g3⟩
  · obtain ⟨q0, q1, q2, q3, ⟨a0, a1, a2, a3⟩, b⟩ := h j (by omega)
    refine ⟨q0, q1, q2, q3, ⟨?_, ?_, ?_, ?_⟩, b⟩
    · rw [put4_other _ _ _ _ _ _ _ (by omega)]; exact a0
    · rw [put4_other _ _ _ _ _ _ _ (by omega)]; exact a1
    · rw [put4_other _ _ _ _ _ _ _ (by omega)]; exact a2
    · rw [put4_other _ _ _ _ _ _ _ (by omega)]; exact a3
theorem LyCs.rd {w : World} {g n : Nat} {cs : Array Value} {t : TypeId} {L : List Ly} (hg : w.heap[g]? = some (.cells cs t (0, 0))) (hl : L.length = n) (h : LyCs cs n L) : RdL w (some ⟨g, 0, none⟩) n L :=
  ⟨hl, fun k hk => ⟨g, 0, rfl, blk_lt hg, fun j hj => by
    obtain ⟨r0, r1, r2, r3, ⟨a0, a1, a2, a3⟩, b0, b1, b2, b3⟩ := h j hj
    refine ⟨r0, r1, r2, r3, ?_, ?_, ?_, ?_, b0, b1, b2, b3⟩
    all_goals rw [cell_of_row w g _ cs _ (0, 0) hg, Nat.zero_add]
    · exact a0
    · exact a1
    · exact a2
    · exact a3⟩⟩

theorem three_cells {w : World} {g : Nat} {v0 v1 v2 : Value} {t : TypeId} (hg : w.heap[g]? = some (.cells #[v0, v1, v2] t (0, 0))) :
    w.cell? ⟨g, 0, none⟩ = some v0 ∧ w.cell? ⟨g, 1, none⟩ = some v1 ∧ w.cell? ⟨g, 2, none⟩ = some v2 ∧ w.frozen? ⟨g, 0, none⟩ = false ∧ w.frozen? ⟨g, 1, none⟩ = false ∧ w.frozen? ⟨g, 2, none⟩ = false := by
  refine ⟨?_, ?_, ?_, ?_, ?_, ?_⟩
  all_goals first | (rw [cell_of_row w g _ _ _ (0, 0) hg]; rfl) | simp [World.frozen?, hg]

set_option linter.unusedSimpArgs false in
set_option maxRecDepth 20000 in
set_option maxHeartbeats 400000 in
theorem c_toLayer (r0 r1 r2 r3 : Nat) (w : World) :
    Calls Try.prog 102 #[.agg #[.float .f32 r0, .float .f32 r1, .float .f32 r2, .float .f32 r3]] w fun e w' => e = .returned (.agg #[.float .f32 r0, .float .f32 r1, .float .f32 r2, .float .f32 r3]) ∧ Ext w w' := by
  go_enter Try.func102, Try.ntmps102
  go_wp2
  exact bodyPost_ret (v := .agg #[.float .f32 r0, .float .f32 r1, .float .f32 r2, .float .f32 r3]) (by simp [results, Try.results102, go_sem]) rfl ⟨rfl, (by repeat (first | assumption | exact Ext.refl _ | apply Ext.drewN | apply Ext.drew | apply Ext.alloc | (refine Ext.trans ?_ (by assumption)) | (refine Ext.set ?_ (by dsimp only; omega) _)))⟩

set_option maxRecDepth 20000 in
set_option maxHeartbeats 400000 in
theorem c_toLayerS {w : World} {n c : Nat} {A : Option Addr} {L : List Ly} (h : RdL w A n L) (hn : n ≤ 1048576) :
    Calls Try.prog 54 #[.slice A n c] w fun e w' => e = .returned (.slice (some ⟨w.heap.size, 0, none⟩) n n) ∧ (∃ cs, w'.heap[w.heap.size]? = some (.cells cs 85 (0, 0)) ∧ cs.size = n * 4 ∧ LyCs cs n L) ∧ Ext w w' := by
  have hmk := fun W => run_make_lay Try.prog 29 85 Try.underlying29 (by kernel_rfl) n hn W
  go_enter Try.func54, Try.ntmps54
  go_wp2_with (fail)
  go_loopw [4] (fun i wr => ∃ (k : Nat) (cs : Array Value), k ≤ n ∧ i = .int .i64 k ∧ wr.heap[w.heap.size]? = some (.cells cs 85 (0, 0)) ∧ cs.size = n * 4 ∧ LyCs cs k L ∧ Ext w wr) (fun i _ => n - (intOf i).toNat)
  case atStart => exact ⟨0, _, Nat.zero_le _, rfl, heap_alloc_new w _, size_madeCells _ _, fun j hj => absurd hj (Nat.not_lt_zero _), (Ext.refl _).alloc _⟩
  case round =>
    obtain ⟨k, cs, hk, rfl, hg, hsz, hp, hbel⟩ := hrel
    by_cases hlt : k < n
    · obtain ⟨b, off, r0, r1, r2, r3, rfl, hb, hy⟩ := (h.ext hbel).cell hlt
      have hc0 := hy.c0
      have hc1 := hy.c1
      have hc2 := hy.c2
      have hc3 := hy.c3
      have HG := Lib.hid hg
      have HP := Lib.hid hp
      have HS := Lib.hid hsz
      clear hg hp hsz
      go_wp2_with (first | (go_at_call 102; refine Calls.mono (c_toLayer _ _ _ _ _) ?_; rintro e w1 ⟨rfl, hx1⟩; obtain ⟨u0, u1, u2, u3, e0, e1, e2, e3, z0, z1, z2, z3⟩ := four_cells (hx1.blk HG.out) HS.out hlt))
      exact ⟨⟨k + 1, put4 cs k (.float .f32 r0) (.float .f32 r1) (.float .f32 r2) (.float .f32 r3), by omega, by go_num, blk_set1 (blk_set1 (blk_set1 (blk_set1 (hx1.blk HG.out) _ _) _ _) _ _) _ _, by rw [put4_size]; exact HS.out, HP.out.step HS.out hlt hy.f0 hy.f1 hy.f2 hy.f3,
        ((((hbel.trans hx1).set (Nat.le_refl _) _).set (Nat.le_refl _) _).set (Nat.le_refl _) _).set (Nat.le_refl _) _⟩, by simp [intOf]; omega⟩
    · have hkn : k = n := by omega
      subst hkn
      go_wp2_with (fail)
      go_ret
      exact ⟨rfl, ⟨cs, hg, hsz, hp⟩, hbel⟩

/-- What toGround returns: its layers in a block of their own. -/
structure MadeG (w w' : World) (g n : Nat) (L : List Ly) : Prop where
  own : ∃ cs, w'.heap[g]? = some (.cells cs 85 (0, 0)) ∧ cs.size = n * 4 ∧ LyCs cs n L
  new : w.heap.size ≤ g
  ext : Ext w w'

theorem MadeG.rd {w w' : World} {g n : Nat} {L : List Ly} (h : MadeG w w' g n L) (hl : L.length = n) : RdL w' (some ⟨g, 0, none⟩) n L := by
  obtain ⟨cs, h1, _, h3⟩ := h.own
  exact h3.rd h1 hl

set_option linter.unusedSimpArgs false in
set_option maxRecDepth 20000 in
set_option maxHeartbeats 400000 in
theorem c_toGround {w : World} {n c s d : Nat} {A : Option Addr} {L : List Ly} (h : RdL w A n L) (hn : n ≤ 1048576) :
    Calls Try.prog 17 #[.agg #[.slice A n c, .float .f32 s, .float .f32 d]] w fun e w' => ∃ g, e = .returned (.agg #[.slice (some ⟨g, 0, none⟩) n n, .float .f32 s, .float .f32 d]) ∧ MadeG w w' g n L := by
  go_enter Try.func17, Try.ntmps17
  go_wp2_with (first | (go_at_call 54; refine Calls.mono (c_toLayerS (h.ext (by repeat (first | assumption | exact Ext.refl _ | apply Ext.drewN | apply Ext.drew | apply Ext.alloc | (refine Ext.trans ?_ (by assumption)) | (refine Ext.set ?_ (by dsimp only; omega) _)))) hn) ?_; rintro e w1 ⟨rfl, own1, hx1⟩; have OWN := Lib.hid own1; clear own1; obtain ⟨e0, e1, e2, z0, z1, z2⟩ := three_cells (hx1.blk (g := w.heap.size) (o := .cells #[.slice A n c, .float .f32 s, .float .f32 d] 25 (0, 0)) (by repeat (first | (refine al_at ?_ ?_ <;> first | rfl | (simp only [al_size] <;> omega)) | apply al_old))); obtain ⟨d0, d1, d2, y0, y1, y2⟩ := three_cells (hx1.blk (g := w.heap.size + 1 + 1) (o := .cells #[.slice none 0 0, .float .f32 0, .float .f32 0] 31 (0, 0)) (by repeat (first | (refine al_at ?_ ?_ <;> first | rfl | (simp only [al_size] <;> omega)) | apply al_old))); obtain ⟨c0, c1, c2, x0, x1, x2⟩ := three_cells (hx1.blk (g := w.heap.size + 1) (o := .cells #[.slice none 0 0, .float .f32 0, .float .f32 0] 31 (0, 0)) (by repeat (first | (refine al_at ?_ ?_ <;> first | rfl | (simp only [al_size] <;> omega)) | apply al_old)))))
  obtain ⟨cs, h1, h2, h3⟩ := OWN.out
  have h4 : w1.heap[w.heap.size + 1 + 1 + 1]? = some (.cells cs 85 (0, 0)) := by simpa using h1
  have hx2 : Ext w w1 := Ext.trans (by repeat (first | assumption | exact Ext.refl _ | apply Ext.drewN | apply Ext.drew | apply Ext.alloc | (refine Ext.trans ?_ (by assumption)) | (refine Ext.set ?_ (by dsimp only; omega) _))) hx1
  exact bodyPost_ret (v := .agg #[.slice (some ⟨w.heap.size + 1 + 1 + 1, 0, none⟩) n n, .float .f32 s, .float .f32 d]) (by simp [results, Try.results17, go_sem, c0, c1, c2, x0, x1, x2, d0, d1, d2]) rfl
    ⟨_, rfl, ⟨cs, by refine set_other (set_other (set_other (set_other (set_other (set_other h4 ?_) ?_) ?_) ?_) ?_) ?_ <;> (dsimp only; omega), h2, h3⟩, by omega, by refine Ext.set (Ext.set (Ext.set (Ext.set (Ext.set (Ext.set hx2 ?_ _) ?_ _) ?_ _) ?_ _) ?_ _) ?_ _ <;> (dsimp only; omega)⟩
set_option maxRecDepth 20000 in
set_option maxHeartbeats 1000000 in
theorem c_eqLayer {r0 r1 r2 r3 q0 q1 q2 q3 : Nat} {y : Ly} (a0 : Fl .f32 r0 y.t) (a1 : Fl .f32 r1 y.s) (a2 : Fl .f32 r2 y.d) (a3 : Fl .f32 r3 y.l) (b0 : Fl .f32 q0 y.t) (b1 : Fl .f32 q1 y.s) (b2 : Fl .f32 q2 y.d) (b3 : Fl .f32 q3 y.l) (w : World) :
    Calls Try.prog 106 #[.agg #[.float .f32 r0, .float .f32 r1, .float .f32 r2, .float .f32 r3], .agg #[.float .f32 q0, .float .f32 q1, .float .f32 q2, .float .f32 q3]] w fun e w' => e = .returned (.bool true) ∧ Ext w w' := by
  go_enter Try.func106, Try.ntmps106
  go_wp2_with (first | (apply upon_wide s_f32 Try.underlying34; (first | assumption | exact Fl.const (of_decide_eq_true (by kernel_rfl))); intro r n hr) | (go_at_call 19; refine Calls.mono (c_sameFloat (by assumption) (by assumption) _) ?_; rintro e w' ⟨rfl, n3, rfl⟩))
  go_ret
  exact ⟨rfl, (by repeat (first | assumption | exact Ext.refl _ | apply Ext.drewN | apply Ext.drew | apply Ext.alloc | (refine Ext.trans ?_ (by assumption)) | (refine Ext.set ?_ (by dsimp only; omega) _)))⟩
set_option maxRecDepth 20000 in
set_option maxHeartbeats 4000000 in
theorem c_eqLayerS {w : World} {n c c' : Nat} {A A' : Option Addr} {L : List Ly} (h : RdL w A n L) (h' : RdL w A' n L) (hn : n ≤ 1048576) :
    Calls Try.prog 57 #[.slice A n c, .slice A' n c'] w fun e w' => e = .returned (.bool true) ∧ Ext w w' := by
  go_enter Try.func57, Try.ntmps57
  go_wp2_with (fail)
  go_loopw [5] (fun i wr => ∃ k : Nat, k ≤ n ∧ i = .int .i64 k ∧ Ext w wr) (fun i _ => n - (intOf i).toNat)
  case atStart => exact ⟨0, Nat.zero_le _, rfl, Ext.refl _⟩
  case round =>
    obtain ⟨k, hk, rfl, hx⟩ := hrel
    by_cases hlt : k < n
    · obtain ⟨b, off, r0, r1, r2, r3, rfl, hb, hy⟩ := (h.ext hx).cell hlt
      obtain ⟨b', off', q0, q1, q2, q3, rfl, hb', hz⟩ := (h'.ext hx).cell hlt
      have hc0 := hy.c0
      have hc1 := hy.c1
      have hc2 := hy.c2
      have hc3 := hy.c3
      have hd0 := hz.c0
      have hd1 := hz.c1
      have hd2 := hz.c2
      have hd3 := hz.c3
      have hlt' : (k : Int) < (n : Int) := by omega
      go_wp2_with (fail)
      go_region_with (first | (go_at_call 106; refine Calls.mono (c_eqLayer hy.f0 hy.f1 hy.f2 hy.f3 hz.f0 hz.f1 hz.f2 hz.f3 _) ?_; rintro e w1 ⟨rfl, hx1⟩))
      all_goals
        go_wp2_with (fail)
        exact ⟨⟨k + 1, by omega, by go_num, (by repeat (first | assumption | exact Ext.refl _ | apply Ext.drewN | apply Ext.drew | apply Ext.alloc | (refine Ext.trans ?_ (by assumption)) | (refine Ext.set ?_ (by dsimp only; omega) _)))⟩, by simp [intOf]; omega⟩
    · have hkn : k = n := by omega
      go_wp2_with (fail)
      go_ret
      exact ⟨rfl, hx⟩
set_option maxRecDepth 20000 in
set_option maxHeartbeats 1000000 in
theorem c_eqGround {w : World} {n c c' s d s' d' : Nat} {A A' : Option Addr} {L : List Ly} {S D : Option Nat} (h : RdL w A n L) (h' : RdL w A' n L) (hn : n ≤ 1048576) (fs : Fl .f32 s S) (fd : Fl .f32 d D) (fs' : Fl .f32 s' S) (fd' : Fl .f32 d' D) :
    Calls Try.prog 20 #[.agg #[.slice A n c, .float .f32 s, .float .f32 d], .agg #[.slice A' n c', .float .f32 s', .float .f32 d']] w fun e w' => e = .returned (.bool true) ∧ Ext w w' := by
  go_enter Try.func20, Try.ntmps20
  go_wp2_with (first | (go_at_call 57; refine Calls.mono (c_eqLayerS (h.ext (by repeat (first | assumption | exact Ext.refl _ | apply Ext.drewN | apply Ext.drew | apply Ext.alloc | (refine Ext.trans ?_ (by assumption)) | (refine Ext.set ?_ (by dsimp only; omega) _)))) (h'.ext (by repeat (first | assumption | exact Ext.refl _ | apply Ext.drewN | apply Ext.drew | apply Ext.alloc | (refine Ext.trans ?_ (by assumption)) | (refine Ext.set ?_ (by dsimp only; omega) _)))) hn) ?_; rintro e w1 ⟨rfl, hx1⟩; obtain ⟨e0, e1, e2, z0, z1, z2⟩ := three_cells (hx1.blk (g := w.heap.size) (o := .cells #[.slice A n c, .float .f32 s, .float .f32 d] 31 (0, 0)) (by repeat (first | (refine al_at ?_ ?_ <;> first | rfl | (simp only [al_size] <;> omega)) | apply al_old))); obtain ⟨d0, d1, d2, y0, y1, y2⟩ := three_cells (hx1.blk (g := w.heap.size + 1) (o := .cells #[.slice A' n c', .float .f32 s', .float .f32 d'] 31 (0, 0)) (by repeat (first | (refine al_at ?_ ?_ <;> first | rfl | (simp only [al_size] <;> omega)) | apply al_old)))) | (apply upon_wide s_f32 Try.underlying34; (first | assumption | exact Fl.const (of_decide_eq_true (by kernel_rfl))); intro r n hr) | (go_at_call 19; refine Calls.mono (c_sameFloat (by assumption) (by assumption) _) ?_; rintro e w' ⟨rfl, n3, rfl⟩))
  go_ret
  exact ⟨rfl, (by repeat (first | assumption | exact Ext.refl _ | apply Ext.drewN | apply Ext.drew | apply Ext.alloc | (refine Ext.trans ?_ (by assumption)) | (refine Ext.set ?_ (by dsimp only; omega) _)))⟩
set_option maxRecDepth 20000 in
set_option maxHeartbeats 400000 in
theorem c_szGround {w : World} {n c s d : Nat} {A : Option Addr} {left : Int} (h0 : 0 ≤ left) (h1 : left ≤ 1048576) (hn : n ≤ 9223372036854775807) :
    Calls Try.prog 15 #[.agg #[.slice A n c, .float .f32 s, .float .f32 d], .int .i64 left] w fun e w' => e = .returned (.int .i64 (if (n : Int) ≤ left then left - n else -1)) ∧ Ext w w' := by
  by_cases hl : (n : Int) ≤ left
  all_goals
    simp only [hl, if_true, if_false]
    go_enter Try.func15, Try.ntmps15
    go_wp2_with (go_in)
    go_ret
    exact ⟨rfl, (by repeat (first | assumption | exact Ext.refl _ | apply Ext.drewN | apply Ext.drew | apply Ext.alloc | (refine Ext.trans ?_ (by assumption)) | (refine Ext.set ?_ (by dsimp only; omega) _)))⟩
end Go.Proofs.Ytkoiimjpalhgbab
